/- A configuration that came in, read as data: what lies in memory. -/
import Derived.Test.YtmgcndpcbpkjaaaBase
import Derived.ProofKit
import Derived.SizedLaws
import Derived.Lib.SmallJoins
import Derived.Deep.Slices
namespace Go.Proofs.Ytmgcndpcbpkjaaa
open Go.ChangeShapes Go.WideShapes Go.ChangeAt Go.RowKit Go.Deep
set_option linter.unusedSimpArgs false
set_option linter.unusedVariables false
set_option maxRecDepth 20000

theorem Try.cellsConfig : Try.prog.cellsOf 25 = 4 := by kernel_rfl
theorem Try.cellsPeer : Try.prog.cellsOf 34 = 7 := by kernel_rfl
theorem Try.cellsRule : Try.prog.cellsOf 50 = 5 := by kernel_rfl
theorem Try.cellsInt : Try.prog.cellsOf 3 = 1 := by kernel_rfl
theorem Try.cellsU32 : Try.prog.cellsOf 22 = 1 := by kernel_rfl
theorem Try.cellsBool : Try.prog.cellsOf 4 = 1 := by kernel_rfl
theorem Try.cellsRules : Try.prog.cellsOf 31 = 1 := by kernel_rfl
theorem Try.bytesRule : Try.prog.bytesOf 50 = 32 := by kernel_rfl
theorem Try.bytesPeer : Try.prog.bytesOf 34 = 88 := by kernel_rfl

theorem wf_u32 {a : Int} (h : (Lit.int .u32 a).wf = true) : 0 ≤ a ∧ a < 4294967296 := by
  have h1 : IntKind.u32.min = 0 := rfl
  have h2 : IntKind.u32.max = 4294967295 := rfl
  simp only [Lit.wf, Bool.and_eq_true, decide_eq_true_eq] at h
  omega

theorem rule_of {H : Type} {enc : TypeId × Value → H} {w : World} {base fuel : Nat} {spare : Nat → Bool} {held : Bool} {cs : List Value} {x : DataW H × List MemPlace} (h : DataW.trod enc Try.prog w base spare held fuel 50 cs = some x) :
    ∃ r : Rl, cs = r.cells ∧ 0 ≤ r.a ∧ r.a < 4294967296 := by
  obtain ⟨xs, n, _, hx, hlen, hxs, hf⟩ := DataW.trod_struct Try.underlying50 h
  rw [Try.cellsRule] at hlen
  match cs, hlen with
  | [c0, c1, c2, c3, c4], _ =>
    have g : ∀ i, i < 5 → ∃ y, xs[i]? = some y := fun i hi => ⟨xs[i]'(by rw [hxs]; exact hi), by simp⟩
    obtain ⟨y0, e0⟩ := g 0 (by omega)
    obtain ⟨y1, e1⟩ := g 1 (by omega)
    obtain ⟨y2, e2⟩ := g 2 (by omega)
    obtain ⟨y3, e3⟩ := g 3 (by omega)
    obtain ⟨y4, e4⟩ := g 4 (by omega)
    have f0 : DataW.trod enc Try.prog w base spare held n 4 (List.take (Try.prog.cellsOf 4) (List.drop 0 [c0, c1, c2, c3, c4])) = some y0 := (hf 0 _ rfl).trans e0
    rw [Try.cellsBool] at f0
    have f1 : DataW.trod enc Try.prog w base spare held n 22 (List.take (Try.prog.cellsOf 22) (List.drop 1 [c0, c1, c2, c3, c4])) = some y1 := (hf 1 _ rfl).trans e1
    rw [Try.cellsU32] at f1
    have f2 : DataW.trod enc Try.prog w base spare held n 3 (List.take (Try.prog.cellsOf 3) (List.drop 2 [c0, c1, c2, c3, c4])) = some y2 := (hf 2 _ rfl).trans e2
    rw [Try.cellsInt] at f2
    have f3 : DataW.trod enc Try.prog w base spare held n 3 (List.take (Try.prog.cellsOf 3) (List.drop 3 [c0, c1, c2, c3, c4])) = some y3 := (hf 3 _ rfl).trans e3
    rw [Try.cellsInt] at f3
    have f4 : DataW.trod enc Try.prog w base spare held n 3 (List.take (Try.prog.cellsOf 3) (List.drop 4 [c0, c1, c2, c3, c4])) = some y4 := (hf 4 _ rfl).trans e4
    rw [Try.cellsInt] at f4
    obtain ⟨p, hp, _⟩ := DataW.trod_bool Try.underlying4 f0
    obtain ⟨a, ha, _, wa⟩ := DataW.trod_int Try.underlying22 f1
    obtain ⟨l, hl, _, _⟩ := DataW.trod_int Try.underlying3 f2
    obtain ⟨g', hg, _, _⟩ := DataW.trod_int Try.underlying3 f3
    obtain ⟨e, he, _, _⟩ := DataW.trod_int Try.underlying3 f4
    obtain rfl : c0 = .bool p := by simpa using hp
    obtain rfl : c1 = .int .u32 a := by simpa using ha
    obtain rfl : c2 = .int .i64 l := by simpa using hl
    obtain rfl : c3 = .int .i64 g' := by simpa using hg
    obtain rfl : c4 = .int .i64 e := by simpa using he
    exact ⟨⟨p, a, l, g', e⟩, rfl, wf_u32 wa⟩

theorem add_none {a : Addr} (h : a.spot = none) (m : Nat) : a.add m = ⟨a.block, a.off + m, none⟩ := by
  cases a with
  | mk b o s =>
    have h' : s = none := h
    subst h'
    by_cases h0 : m = 0
    · subst h0; simp [Addr.add]
    · simp [Addr.add, h0]

/-- An address of a cell that is there is a plain one. -/
theorem plain_addr {w : World} {a : Addr} {v : Value} (h : w.cell? a = some v) : a.spot = none := by
  unfold World.cell? at h
  cases hs : a.spot with
  | none => rfl
  | some s =>
    simp [hs] at h
    split at h
    · cases h
    · cases h

/-- A slice that came in, each of whose elements has so many cells. -/
theorem slice_of {H : Type} {enc : TypeId × Value → H} {w : World} {spare : Nat → Bool} {held : Bool} {fuel t e size bytes : Nat} {v : Value} {x : DataW H × List MemPlace} (ht : Try.prog.underlying t = some (.slice e)) (hsz : Try.prog.cellsOf e = size) (hs : 0 < size) (hby : Try.prog.bytesOf e = bytes)
    (h : DataW.trod enc Try.prog w 0 spare held fuel t [v] = some x) (hw : ∀ m ∈ x.1.weights Try.prog t, m ≤ reachBytes) :
    ∃ (n : Nat) (c : Nat → List Value) (D : Nat → DataW H), Sl w size v n c ∧ n * bytes ≤ 140737488351232 ∧ ∀ i < n, (∃ m y, DataW.trod enc Try.prog w 0 spare held m e (c i) = some y ∧ y.1 = D i) ∧ (∀ m ∈ (D i).weights Try.prog e, m ≤ reachBytes) := by
  rcases open_slice ht h with ⟨hv, hx⟩ | ⟨a, len, cap, m, n, D, Pl, hv, _, hlc, hcm, hm, hx, hel⟩
  · simp at hv
    subst hv
    exact ⟨0, fun _ => [], fun _ => .nil, ⟨none, 0, rfl, Nat.le_refl _, by unfold maxLen; omega, fun h0 => by omega⟩, by omega, fun i hi => by omega⟩
  · simp at hv
    subst hv
    have hlm : len ≤ m := by rw [hm]; split <;> omega
    rw [hsz] at hel
    have hel' : ∀ i, i < len → ∃ cs', w.cells? 0 (a.add (i * size)) size = some cs' ∧ DataW.trod enc Try.prog w 0 spare held n e cs' = some (D i, Pl i) := fun i hi => hel i (by omega)
    obtain ⟨c, hc⟩ := choose_lt hel'
    rw [hx] at hw
    simp only [DataW.weights, ht] at hw
    refine ⟨len, c, D, ⟨some a, cap, rfl, hlc, hcm, fun h0 => ?_⟩, ?_, fun i hi => ⟨⟨n, _, (hc i hi).2, rfl⟩, fun k hk => ?_⟩⟩
    · obtain ⟨_, hl0, hcell0⟩ := World.cells?_some (hc 0 h0).1
      have hsp : a.spot = none := by
        have := hcell0 0 hs
        rw [Nat.zero_mul] at this
        have e : (a.add 0).add 0 = a := by simp [Addr.add]
        rw [e] at this
        obtain ⟨u, hu⟩ : ∃ u, (c 0)[0]? = some u := ⟨(c 0)[0]'(by omega), by simp⟩
        rw [hu] at this
        exact plain_addr this
      refine ⟨a.block, a.off, by cases a; simp_all, fun i hi k u hu => ?_⟩
      obtain ⟨_, hl, hcell⟩ := World.cells?_some (hc i hi).1
      have hk : k < size := by rw [← hl]; exact (List.getElem?_eq_some_iff.1 hu).1
      have := hcell k hk
      rw [add_add, add_none hsp, hu] at this
      rw [show a.off + i * size + k = a.off + (i * size + k) by omega]
      exact this
    · have := hw (((List.map D (List.range len)).length + (List.map (fun j => D (len + j)) (List.range (m - len))).length) * Try.prog.bytesOf e) (by simp)
      rw [hby] at this
      simp only [List.length_map, List.length_range] at this
      have h2 : len * bytes ≤ (len + (m - len)) * bytes := Nat.mul_le_mul_right _ (by omega)
      have h4 : reachBytes = 140737488351232 := by decide
      omega
    · apply hw
      simp only [List.mem_cons, List.mem_append]
      right; left
      have hmem : ∀ (l : List (DataW H)) (d : DataW H), d ∈ l → ∀ z ∈ d.weights Try.prog e, z ∈ DataW.weightsAll Try.prog e l := by
        intro l
        induction l with
        | nil => intro d hd; simp at hd
        | cons b r ih =>
          intro d hd z hz
          rcases List.mem_cons.1 hd with rfl | h1
          · simp [DataW.weightsAll, hz]
          · simp [DataW.weightsAll, ih d h1 z hz]
      exact hmem _ (D i) (List.mem_map.2 ⟨i, List.mem_range.2 hi, rfl⟩) k hk

theorem Sl.congr {w : World} {size n : Nat} {v : Value} {c c' : Nat → List Value} (h : Sl w size v n c) (hc : ∀ i < n, c' i = c i) : Sl w size v n c' := by
  obtain ⟨ao, cap, h1, h2, h3, h4⟩ := h
  refine ⟨ao, cap, h1, h2, h3, fun h0 => ?_⟩
  obtain ⟨b, o, h5, h6⟩ := h4 h0
  exact ⟨b, o, h5, fun i hi k u hu => h6 i hi k u (by rw [← hc i hi]; exact hu)⟩

theorem pick_fn {α : Type} (d : α) {n : Nat} {q : Nat → α → Prop} (h : ∀ i < n, ∃ x, q i x) : ∃ f : Nat → α, ∀ i < n, q i (f i) := by
  have h' : ∀ i, ∃ x, i < n → q i x := fun i => by
    by_cases hi : i < n
    · obtain ⟨x, hx⟩ := h i hi; exact ⟨x, fun _ => hx⟩
    · exact ⟨d, fun h1 => absurd h1 hi⟩
  exact ⟨fun i => Classical.choose (h' i), fun i hi => Classical.choose_spec (h' i) hi⟩

theorem rs_of {H : Type} {enc : TypeId × Value → H} {w : World} {spare : Nat → Bool} {held : Bool} {fuel : Nat} {v : Value} {x : DataW H × List MemPlace}
    (h : DataW.trod enc Try.prog w 0 spare held fuel 31 [v] = some x) (hw : ∀ m ∈ x.1.weights Try.prog 31, m ≤ reachBytes) :
    ∃ n r, RsAt w v n r ∧ n ≤ 4398046511104 := by
  obtain ⟨n, c, D, hs, hb, hel⟩ := slice_of (size := 5) (bytes := 32) Try.underlying31 Try.cellsRule (by omega) Try.bytesRule h hw
  have hr : ∀ i < n, ∃ r : Rl, c i = r.cells ∧ 0 ≤ r.a ∧ r.a < 4294967296 := fun i hi => by
    obtain ⟨⟨m, y, hy, _⟩, _⟩ := hel i hi
    exact rule_of hy
  obtain ⟨r, hr⟩ := pick_fn (⟨true, 0, 0, 0, 0⟩ : Rl) hr
  exact ⟨n, r, ⟨hs.congr fun i hi => (hr i hi).1.symm, fun i hi => (hr i hi).2⟩, by omega⟩

theorem peer_of {H : Type} {enc : TypeId × Value → H} {w : World} {fuel : Nat} {spare : Nat → Bool} {held : Bool} {cs : List Value} {x : DataW H × List MemPlace} (h : DataW.trod enc Try.prog w 0 spare held fuel 34 cs = some x)
    (hw : ∀ m ∈ x.1.weights Try.prog 34, m ≤ reachBytes) :
    ∃ p : Pr, cs = p.cells ∧ RsAt w p.im p.ni p.ir ∧ RsAt w p.ex p.ne p.er ∧ p.ni ≤ 4398046511104 ∧ p.ne ≤ 4398046511104 := by
  obtain ⟨xs, n, _, hx, hlen, hxs, hf⟩ := DataW.trod_struct Try.underlying34 h
  rw [Try.cellsPeer] at hlen
  match cs, hlen with
  | [c0, c1, c2, c3, c4, c5, c6], _ =>
    have g : ∀ i, i < 7 → ∃ y, xs[i]? = some y := fun i hi => ⟨xs[i]'(by rw [hxs]; exact hi), by simp⟩
    obtain ⟨y0, e0⟩ := g 0 (by omega)
    have f0 : DataW.trod enc Try.prog w 0 spare held n 3 (List.take (Try.prog.cellsOf 3) (List.drop 0 [c0, c1, c2, c3, c4, c5, c6])) = some y0 := (hf 0 _ rfl).trans e0
    rw [Try.cellsInt] at f0
    obtain ⟨y1, e1⟩ := g 1 (by omega)
    have f1 : DataW.trod enc Try.prog w 0 spare held n 3 (List.take (Try.prog.cellsOf 3) (List.drop 1 [c0, c1, c2, c3, c4, c5, c6])) = some y1 := (hf 1 _ rfl).trans e1
    rw [Try.cellsInt] at f1
    obtain ⟨y2, e2⟩ := g 2 (by omega)
    have f2 : DataW.trod enc Try.prog w 0 spare held n 3 (List.take (Try.prog.cellsOf 3) (List.drop 2 [c0, c1, c2, c3, c4, c5, c6])) = some y2 := (hf 2 _ rfl).trans e2
    rw [Try.cellsInt] at f2
    obtain ⟨y3, e3⟩ := g 3 (by omega)
    have f3 : DataW.trod enc Try.prog w 0 spare held n 3 (List.take (Try.prog.cellsOf 3) (List.drop 3 [c0, c1, c2, c3, c4, c5, c6])) = some y3 := (hf 3 _ rfl).trans e3
    rw [Try.cellsInt] at f3
    obtain ⟨y4, e4⟩ := g 4 (by omega)
    have f4 : DataW.trod enc Try.prog w 0 spare held n 3 (List.take (Try.prog.cellsOf 3) (List.drop 4 [c0, c1, c2, c3, c4, c5, c6])) = some y4 := (hf 4 _ rfl).trans e4
    rw [Try.cellsInt] at f4
    obtain ⟨y5, e5⟩ := g 5 (by omega)
    have f5 : DataW.trod enc Try.prog w 0 spare held n 31 (List.take (Try.prog.cellsOf 31) (List.drop 5 [c0, c1, c2, c3, c4, c5, c6])) = some y5 := (hf 5 _ rfl).trans e5
    rw [Try.cellsRules] at f5
    obtain ⟨y6, e6⟩ := g 6 (by omega)
    have f6 : DataW.trod enc Try.prog w 0 spare held n 31 (List.take (Try.prog.cellsOf 31) (List.drop 6 [c0, c1, c2, c3, c4, c5, c6])) = some y6 := (hf 6 _ rfl).trans e6
    rw [Try.cellsRules] at f6
    obtain ⟨n0, h0, _, _⟩ := DataW.trod_int Try.underlying3 f0
    obtain rfl : c0 = .int .i64 n0 := by simpa using h0
    obtain ⟨n1, h1, _, _⟩ := DataW.trod_int Try.underlying3 f1
    obtain rfl : c1 = .int .i64 n1 := by simpa using h1
    obtain ⟨n2, h2, _, _⟩ := DataW.trod_int Try.underlying3 f2
    obtain rfl : c2 = .int .i64 n2 := by simpa using h2
    obtain ⟨n3, h3, _, _⟩ := DataW.trod_int Try.underlying3 f3
    obtain rfl : c3 = .int .i64 n3 := by simpa using h3
    obtain ⟨n4, h4, _, _⟩ := DataW.trod_int Try.underlying3 f4
    obtain rfl : c4 = .int .i64 n4 := by simpa using h4
    rw [hx] at hw
    have hwj : ∀ (j : Nat) (d : DataW H) (ty : TypeId), (List.map (fun x => x.fst) xs)[j]? = some d → ([3, 3, 3, 3, 3, 31, 31] : List TypeId)[j]? = some ty → ∀ m ∈ d.weights Try.prog ty, m ≤ reachBytes := by
      intro j d ty hd hty m hm
      apply hw
      simp only [DataW.weights, Try.underlying34]
      exact DataW.weights_mem_each (j := j) (t := ty) hty hd m hm
    obtain ⟨ni, ir, hi, hni⟩ := rs_of (v := c5) f5 (hwj 5 y5.1 _ (by simp [e5]) rfl)
    obtain ⟨ne, er, he, hne⟩ := rs_of (v := c6) f6 (hwj 6 y6.1 _ (by simp [e6]) rfl)
    exact ⟨⟨n0, n1, n2, n3, n4, c5, ni, ir, c6, ne, er⟩, rfl, hi, he, hni, hne⟩

theorem ps_of {H : Type} {enc : TypeId × Value → H} {w : World} {spare : Nat → Bool} {held : Bool} {fuel : Nat} {v : Value} {x : DataW H × List MemPlace}
    (h : DataW.trod enc Try.prog w 0 spare held fuel 23 [v] = some x) (hw : ∀ m ∈ x.1.weights Try.prog 23, m ≤ reachBytes) :
    ∃ n P, PsAt w v n P ∧ n * 88 ≤ 140737488351232 ∧ ∀ i < n, (P i).ni ≤ 4398046511104 ∧ (P i).ne ≤ 4398046511104 := by
  obtain ⟨n, c, D, hs, hb, hel⟩ := slice_of (size := 7) (bytes := 88) Try.underlying23 Try.cellsPeer (by omega) Try.bytesPeer h hw
  have hr : ∀ i < n, ∃ p : Pr, c i = p.cells ∧ RsAt w p.im p.ni p.ir ∧ RsAt w p.ex p.ne p.er ∧ p.ni ≤ 4398046511104 ∧ p.ne ≤ 4398046511104 := fun i hi => by
    obtain ⟨⟨m, y, hy, hyD⟩, hwi⟩ := hel i hi
    exact peer_of hy (by rw [hyD]; exact hwi)
  obtain ⟨P, hP⟩ := pick_fn (⟨0, 0, 0, 0, 0, .slice none 0 0, 0, fun _ => ⟨true, 0, 0, 0, 0⟩, .slice none 0 0, 0, fun _ => ⟨true, 0, 0, 0, 0⟩⟩ : Pr) hr
  exact ⟨n, P, ⟨hs.congr fun i hi => (hP i hi).1.symm, fun i hi => ⟨(hP i hi).2.1, (hP i hi).2.2.1⟩⟩, hb, fun i hi => (hP i hi).2.2.2⟩

end Go.Proofs.Ytmgcndpcbpkjaaa
