/- waypost.New of commit c62d3f2. -/
import Derived.Test.YtmgcndpcbpkjaaaNew4a
import Derived.Carry
import Derived.Deep.Cut
import Derived.RegionTactic
import Derived.BigRegion
import Derived.Deep.RegionWith
namespace Go.Proofs.Ytmgcndpcbpkjaaa
open Go.RowKit
open Go.Proofs.Ytmgcndpcbpkjaaa.Pool (okOps topB wp_region_ap ancB)
set_option linter.unusedSimpArgs false
set_option linter.unusedVariables false
set_option maxRecDepth 20000

theorem Has7.of_block {w w' : World} {g n : Nat} {P : Nat → Pr} (h : Has7 w g n P) (e : w'.heap[g]? = w.heap[g]?) : Has7 w' g n P := by
  have hc : ∀ o, w'.cell? ⟨g, o, none⟩ = w.cell? ⟨g, o, none⟩ := fun o => by simp [World.cell?, e]
  intro i hi
  obtain ⟨a, ⟨a5, m5, c5, b⟩, ⟨a6, m6, c6, c⟩⟩ := h i hi
  exact ⟨fun k u hu => (hc _).trans (a k u hu), ⟨a5, m5, c5, (hc _).trans b⟩, ⟨a6, m6, c6, (hc _).trans c⟩⟩
theorem grown_below {a b c : World} {row : Option Nat} (h : a.grownBy b row) (k : Below b.heap.size b c) : a.grownBy c row :=
  ⟨k.os.trans h.os, k.tape.trans h.tape, k.output.trans h.output, Nat.le_trans h.size k.size, fun i hi hr => (k.block i (Nat.lt_of_lt_of_le hi h.size)).trans (h.block i hi hr)⟩
theorem row_set {w : World} {b o : Nat} {cs : Array Value} {ty : TypeId} {v : Value} (h : w.heap[b]? = some (.cells cs ty)) : (w.setCell ⟨b, o, none⟩ v).heap[b]? = some (.cells (cs.setIfInBounds o v) ty) := by
  simp [World.setCell, Array.getElem?_modify, h]

theorem own_set {w : World} {base : Nat} {e : TypeId} {size : Nat} {v : Value} {n : Nat} {xs : List Value} {p : Addr} {u : Value} (h : w.ownsRow base e size v n xs) (hp : p.block < base) : (w.setCell p u).ownsRow base e size v n xs := by
  refine ⟨h.1, ?_⟩
  rcases h.2 with h1 | ⟨g, c, cur, h1, h2, h3, h4⟩
  · exact .inl h1
  · exact .inr ⟨g, c, cur, h1, h2, by rw [Below.heap_setCell _ _ _ _ (by omega)]; exact h3, h4⟩

theorem new_rel {w2 wr w4 : World} {S : Nat} {row : Option Nat} {v : Value} {o : Nat} (h : Below S w2 wr) (hg : wr.grownBy w4 row) (hz : S ≤ wr.heap.size) (hl : ∀ j, row = some j → w2.heap.size ≤ j ∧ j < wr.heap.size) (hS : S ≤ w2.heap.size := by omega) : Below S w2 (w4.setCell ⟨S, o, none⟩ v) :=
  (h.trans ((Below.refl _ _).grown hg hz fun j e => by have := (hl j e).1; omega)).setCell (by simp) _

theorem new_old {w2 wr w4 : World} {S : Nat} {row : Option Nat} {v : Value} {o : Nat} (h : ∀ b, b < w2.heap.size → b ≠ S → wr.heap[b]? = w2.heap[b]?) (hg : wr.grownBy w4 row) (hz : w2.heap.size ≤ wr.heap.size) (hne : ∀ b, b < w2.heap.size → some b ≠ row) :
    ∀ b, b < w2.heap.size → b ≠ S → (w4.setCell ⟨S, o, none⟩ v).heap[b]? = w2.heap[b]? := fun b hb hs =>
  (Below.heap_setCell _ _ _ _ hs).trans ((hg.block b (by omega) (hne b hb)).trans (h b hb hs))

theorem arr40 {C : Array Value} (h : C.size = 40) : ∃ c0 c1 c2 c3 c4 c5 c6 c7 c8 c9 c10 c11 c12 c13 c14 c15 c16 c17 c18 c19 c20 c21 c22 c23 c24 c25 c26 c27 c28 c29 c30 c31 c32 c33 c34 c35 c36 c37 c38 c39, C = #[c0, c1, c2, c3, c4, c5, c6, c7, c8, c9, c10, c11, c12, c13, c14, c15, c16, c17, c18, c19, c20, c21, c22, c23, c24, c25, c26, c27, c28, c29, c30, c31, c32, c33, c34, c35, c36, c37, c38, c39] := by
  obtain ⟨l⟩ := C
  match l, h with
  | c0 :: c1 :: c2 :: c3 :: c4 :: c5 :: c6 :: c7 :: c8 :: c9 :: c10 :: c11 :: c12 :: c13 :: c14 :: c15 :: c16 :: c17 :: c18 :: c19 :: c20 :: c21 :: c22 :: c23 :: c24 :: c25 :: c26 :: c27 :: c28 :: c29 :: c30 :: c31 :: c32 :: c33 :: c34 :: c35 :: c36 :: c37 :: c38 :: c39 :: [], _ => exact ⟨_, _, _, _, _, _, _, _, _, _, _, _, _, _, _, _, _, _, _, _, _, _, _, _, _, _, _, _, _, _, _, _, _, _, _, _, _, _, _, _, rfl⟩

set_option maxHeartbeats 2000000 in
theorem new_any (au id nh : Int) (ao : Option Addr) (n cap : Nat) (P : Nat → Pr) (w : World) (h : PsAt w (.slice ao n cap) n P) :
    Calls Try.prog 6 #[.agg #[.int .i64 au, .int .u32 id, .int .u32 nh, .slice ao n cap]] w fun e w' =>
      ∃ p, e = .returned (.tuple #[.pointer p, .agg #[.int .i64 (faultOf au id n P).1, .int .i64 (faultOf au id n P).2]]) ∧ (p = none ↔ (faultOf au id n P).1 ≠ 0) ∧ Below w.heap.size w w' := by
  have H : Hid (PsAt w (.slice ao n cap) n P) := h
  clear h
  go_enter Try.func6, Try.ntmps6
  go_wp2_with fail
  refine (check_any _ _ _ _ _ _ P _ (H.out.cell (((Below.refl _ _).alloc (Nat.le_refl _) _).alloc (by simp) _))).mono ?_
  rintro e w1 ⟨rfl, hB⟩
  have hB0 : Below w.heap.size w w1 := (((Below.refl _ _).alloc (Nat.le_refl _) _).alloc (by simp) _).trans (hB.mono (by simp only [World.size_alloc]; omega))
  have hz : w.heap.size + 1 < w1.heap.size := by have := hB.size; simp only [World.size_alloc] at this; omega
  have hbx : w1.heap[w.heap.size]? = some (.cells #[.int .i64 au, .int .u32 id, .int .u32 nh, .slice ao n cap] 25) := by
    rw [hB.block _ (by simp only [World.size_alloc]; omega)]; exact heap_alloc2_old _ _ _
  have hby : w1.heap[w.heap.size + 1]? = some (.cells #[.int .i64 0, .int .i64 0] 38) := by
    rw [hB.block _ (by simp only [World.size_alloc]; omega)]; exact heap_alloc2_new _ _ _
  have cx0 : w1.cell? ⟨w.heap.size, 0, none⟩ = some (.int .i64 au) := cell_of_row _ _ _ _ _ _ hbx
  have cx1 : w1.cell? ⟨w.heap.size, 1, none⟩ = some (.int .u32 id) := cell_of_row _ _ _ _ _ _ hbx
  have cx2 : w1.cell? ⟨w.heap.size, 2, none⟩ = some (.int .u32 nh) := cell_of_row _ _ _ _ _ _ hbx
  have cx3 : w1.cell? ⟨w.heap.size, 3, none⟩ = some (.slice ao n cap) := cell_of_row _ _ _ _ _ _ hbx
  have cy0 : w1.cell? ⟨w.heap.size + 1, 0, none⟩ = some (.int .i64 0) := cell_of_row _ _ _ _ _ _ hby
  have cy1 : w1.cell? ⟨w.heap.size + 1, 1, none⟩ = some (.int .i64 0) := cell_of_row _ _ _ _ _ _ hby
  have ey0 : w1.frozen? ⟨w.heap.size + 1, 0, none⟩ = false := frozen_of_row _ _ _ _ _ hby
  have ey1 : w1.frozen? ⟨w.heap.size + 1, 1, none⟩ = false := frozen_of_row _ _ _ _ _ hby
  clear hB
  rcases fault_one (au := au) (id := id) (n := n) (P := P) with ⟨h1, h2⟩ | h1
  · have hfz := fault_zero h1
    rw [h1, h2]
    have Hf : Hid (spkB au id n = true ∧ (∀ i < n, peerB (P i) = true)) := hfz
    have H1 : Hid ((faultOf au id n P).1 = 0) := h1
    have H2 : Hid ((faultOf au id n P).2 = 0) := h2
    clear h1 h2 hfz
    have h8 : n ≤ 8 := by have := Hf.out.1; simp [spkB] at this; omega
    have Hr : Hid (∀ i < n, (P i).ni ≤ 8 ∧ (P i).ne ≤ 8) := by
      intro i hi
      have := Hf.out.2 i hi
      simp [peerB, fltB] at this
      omega
    have hz0 : w.heap.size < w1.heap.size := by omega
    have hmk := fun (wx : World) => run_makeMap (P := Try.prog) 53 wx
    go_upto_region 5 with fail
    have eW : ∃ W, W = ((w1.alloc (.cells #[.int .i64 0, .int .i64 0] 38)).alloc (.map #[] 0)).alloc (.cells #[.int .i64 0, .slice none 0 0, .map (some (w1.heap.size + 1))] 56) := ⟨_, rfl⟩
    obtain ⟨W, eW⟩ := eW
    have hWz : W.heap.size = w1.heap.size + 3 := by rw [eW]; simp
    have hWB : Below w.heap.size w W := by rw [eW]; exact ((hB0.alloc (by omega) _).alloc (by simp only [World.size_alloc]; omega) _).alloc (by simp only [World.size_alloc]; omega) _
    have hold : ∀ b, b < w1.heap.size → W.heap[b]? = w1.heap[b]? := fun b hb => by
      rw [eW, heap_alloc_old _ _ (by simp only [World.size_alloc]; omega), heap_alloc_old _ _ (by simp only [World.size_alloc]; omega), heap_alloc_old _ _ hb]
    have es : W.heap[w1.heap.size + 2]? = some (.cells #[.int .i64 0, .slice none 0 0, .map (some (w1.heap.size + 1))] 56 (0, 0)) := by
      have := heap_alloc_new ((w1.alloc (.cells #[.int .i64 0, .int .i64 0] 38)).alloc (.map #[] 0)) (.cells #[.int .i64 0, .slice none 0 0, .map (some (w1.heap.size + 1))] 56)
      rw [eW]
      simpa using this
    have e0 := (hold _ (by omega)).trans hbx
    have e1 := (hold _ (by omega)).trans hby
    have x0 := cell_b e0 0; have x1 := cell_b e0 1; have x2 := cell_b e0 2; have x3 := cell_b e0 3
    simp at x0 x1 x2 x3
    have HE1 : Hid (W.heap[w.heap.size + 1]? = _) := e1
    have HES : Hid (W.heap[w1.heap.size + 2]? = _) := es
    have esp : w1.heap.size + 1 + 1 = w1.heap.size + 2 := rfl
    rw [← eW]
    clear eW hold e0 e1 es cx0 cx1 cx2 cx3 cy0 cy1 ey0 ey1 hbx hby hmk
    go_wp2_with fail
    refine (copy_any _ _ _ _ _ _ P _ (PsAt.cell H.out hWB) h8 Hr.out).mono ?_
    rintro e w2 ⟨ao2, cap2, rfl, hB2, hown2⟩
    have Hown2 : Hid (0 < n → n ≤ cap2 ∧ ∃ g, W.heap.size ≤ g ∧ ao2 = some ⟨g, 0, none⟩ ∧ Has7 w2 g n P) := hown2
    have HB2 : Hid (Below W.heap.size W w2) := hB2
    clear hown2 hB2 x0 x1 x2 x3
    go_upto_region 6 with fail
    have eW3 : ∃ W3, W3 = w2.alloc (.cells #[.int .i64 au, .int .u32 id, .int .u32 nh, .slice ao2 n cap2] 25) := ⟨_, rfl⟩
    obtain ⟨W3, eW3⟩ := eW3
    have hz3 : W3.heap.size = w2.heap.size + 1 := by rw [eW3]; simp
    have hBx : Below W.heap.size W W3 := by rw [eW3]; exact HB2.out.alloc HB2.out.size _
    have ho3 : ∀ b, b < w2.heap.size → W3.heap[b]? = w2.heap[b]? := fun b hb => by rw [eW3, heap_alloc_old _ _ hb]
    have eo : W3.heap[w2.heap.size]? = some (.cells #[.int .i64 au, .int .u32 id, .int .u32 nh, .slice ao2 n cap2] 25 (0, 0)) := by rw [eW3]; exact heap_alloc_new w2 _
    have hs2 := HB2.out.size
    have es3 := (hBx.block (w1.heap.size + 2) (by omega)).trans HES.out
    have e13 := (hBx.block (w.heap.size + 1) (by omega)).trans HE1.out
    have hB3 : Below w.heap.size w W3 := hWB.trans (hBx.mono (by omega))
    have Hsh : Hid (0 < n → n ≤ cap2 ∧ ∃ g, W.heap.size ≤ g ∧ g < w2.heap.size ∧ ao2 = some ⟨g, 0, none⟩ ∧ Has7 W3 g n P) := by
      intro hn
      obtain ⟨hc, g, h1, h2, h3⟩ := Hown2.out hn
      obtain ⟨_, ⟨_, _, _, h5⟩, _⟩ := h3 0 hn
      have hg := World.block_lt_of_cell? _ _ h5
      exact ⟨hc, g, h1, hg, h2, h3.of_block (ho3 g hg)⟩
    rw [← eW3]
    clear eW3 ho3 Hown2 HES HE1 hBx
    have y3 := cell_b eo 3
    simp at y3
    have Heo : Hid (W3.heap[w2.heap.size]? = _) := eo
    have He13 : Hid (W3.heap[w.heap.size + 1]? = _) := e13
    clear eo e13
    go_wp2_with fail
    clear y3
    go_loopw [22] (fun i wr => ∃ k : Nat, k ≤ n ∧ i = .int .i64 k ∧ Below (w1.heap.size + 2) W3 wr ∧ (∀ b, b < W3.heap.size → b ≠ w1.heap.size + 2 → wr.heap[b]? = W3.heap[b]?) ∧
       ∃ sv xs, wr.heap[w1.heap.size + 2]? = some (.cells #[.int .i64 0, sv, .map (some (w1.heap.size + 1))] 56 (0, 0)) ∧ wr.ownsRow W3.heap.size 65 21 sv k xs) (fun i _ => n - (intOf i).toNat)
    case atStart => exact ⟨0, Nat.zero_le _, rfl, Below.refl _ _, fun _ _ _ => rfl, _, [], es3, World.ownsRow_nil _ _ _ _⟩
    case round =>
      obtain ⟨k, hk, rfl, hBr, hBs, sv, xs, hbr, hown⟩ := hrel
      have hzr : W3.heap.size ≤ wr.heap.size := hBr.size
      by_cases hlt : k < n
      · obtain ⟨hcap, g, hg1, hg2, hao, hh7⟩ := Hsh.out (by omega)
        subst hao
        obtain ⟨hcs, ⟨s5, m5, k5, c5⟩, ⟨s6, m6, k6, c6⟩⟩ := (hh7.of_block (hBs g (by omega) (by omega))) k hlt
        have c0 : wr.cell? ⟨g, k * 7, none⟩ = some (.int .i64 (P k).au) := hcs 0 _ rfl
        have c1 := hcs 1 _ rfl
        have c2 := hcs 2 _ rfl
        have c3 := hcs 3 _ rfl
        have c4 := hcs 4 _ rfl
        have hltr := World.ownsRow.lt hown
        have hns : sv.ownBlock ≠ some (w1.heap.size + 2) := fun e => by have := (hltr _ e).1; omega
        have HC : Hid (_ ∧ _ ∧ _ ∧ _ ∧ _ ∧ _ ∧ _) := ⟨c0, c1, c2, c3, c4, c5, c6⟩
        have Hown : Hid (wr.ownsRow W3.heap.size 65 21 sv k xs) := hown
        have Hltr : Hid (∀ j, sv.ownBlock = some j → W3.heap.size ≤ j ∧ j < wr.heap.size) := hltr
        have HBr : Hid (Below (w1.heap.size + 2) W3 wr) := hBr
        have HBs : Hid (∀ b, b < W3.heap.size → b ≠ w1.heap.size + 2 → wr.heap[b]? = W3.heap[b]?) := hBs
        have Hbr : Hid (wr.heap[w1.heap.size + 2]? = _) := hbr
        have Hob : Hid (wr.heap[w2.heap.size]? = _) := (hBs w2.heap.size (by omega) (by omega)).trans Heo.out
        have Hns : Hid (sv.ownBlock ≠ some (w1.heap.size + 2)) := hns
        clear hown hltr hBr hBs hbr hcs hh7 c0 c1 c2 c3 c4 c5 c6 hns
        go_wp2_with fail
        refine wp_region_ap (D := _) (ops := nwOps) (val := nwV (w1.heap.size + 2) au id nh g n cap2 k ⟨(P k).au, (P k).hold, (P k).lim, (P k).pref, (P k).wait, s5, m5, k5, s6, m6, k6⟩ W3.heap.size wr.heap.size sv) (ia := 9) (mem := nwMem) (fix := [(0, .agg #[.int .i64 au, .int .u32 id, .int .u32 nh, .slice ao n cap]), (1, .pointer (some ⟨w.heap.size, 0, none⟩)), (2, .pointer none), (3, .pointer (some ⟨w.heap.size + 1, 0, none⟩)), (4, .pointer (some ⟨w1.heap.size, 0, none⟩)), (5, .pointer (some ⟨w1.heap.size + 2, 0, none⟩)), (6, .pointer (some ⟨w2.heap.size, 0, none⟩)), (7, .int .i64 (k : Int)), (8, .agg #[.int .i64 au, .int .u32 id, .int .u32 nh, .slice ao n cap]), (9, .agg #[.int .i64 0, .int .i64 0]), (10, .agg #[.int .i64 0, .int .i64 0]), (11, .agg #[.int .i64 0, .int .i64 0]), (12, .bool false), (13, undef), (14, .map (some (w1.heap.size + 1))), (15, .agg #[.int .i64 0, .slice none 0 0, .map (some (w1.heap.size + 1))]), (16, .pointer (some ⟨w1.heap.size + 2, 0, none⟩)), (17, .agg #[.int .i64 au, .int .u32 id, .int .u32 nh, .slice ao n cap]), (18, .agg #[.int .i64 au, .int .u32 id, .int .u32 nh, .slice (some ⟨g, 0, none⟩) n cap2]), (19, .pointer (some ⟨w2.heap.size, 3, none⟩)), (20, .slice (some ⟨g, 0, none⟩) n cap2), (21, .int .i64 (n : Int)), (22, .int .i64 (k : Int)), (38, undef), (39, undef)]) (T := 40) (A0 := fun wx => Below wr.heap.size wr wx) (Rel := fun wx => wr.grownBy wx sv.ownBlock) (n := 12)
          (Post := fun (_ : Act) (w' : World) => ∃ wz v xs', wr.grownBy wz sv.ownBlock ∧ wz.ownsRow W3.heap.size 65 21 v (k + 1) xs' ∧ w' = wz.setCell ⟨w1.heap.size + 2, 1, none⟩ v) (by kernel_rfl) nw_ok nw_top nw_size (by decide) nw_anc nwV_mono (fun w w' hB h => h.trans (hB.mono h.size)) (fun w w' hB h => grown_below h hB)
          (fun i o a wx hi hne ho hfx hdep hA _ K hK => nw_hop (by omega) (by omega) (by omega) hlt hcap h8 ((cell_b Hbr.out 1).trans rfl) ((cell_b Hob.out 0).trans rfl) ((cell_b Hob.out 1).trans rfl) ((cell_b Hob.out 2).trans rfl) ((cell_b Hob.out 3).trans rfl) HC.out.1 HC.out.2.1 HC.out.2.2.1 HC.out.2.2.2.1 HC.out.2.2.2.2.1 HC.out.2.2.2.2.2.1 HC.out.2.2.2.2.2.2 i o a wx hi hne ho (hfx (5, .pointer (some ⟨w1.heap.size + 2, 0, none⟩)) (by simp)) (hfx (6, .pointer (some ⟨w2.heap.size, 0, none⟩)) (by simp)) (hfx (7, .int .i64 (k : Int)) (by simp)) hdep hA K hK)
          (fun o a wx ho hfx hdep hA hR K hK => nw_ap hzr (by omega) Hown.out o a wx ho hdep hA hR K hK)
          (fun o a wx ho hfx hdep hR K hK => nw_last (by omega) Hns.out ((cell_b Hbr.out 1).trans rfl) (frozen_b Hbr.out 1) o a wx ho hdep hR K fun v w' h => hK v w' h) (fun a wx hdf hsz hfx hP => ?_) rfl rfl ?_ ?_
        rotate_left
        · intro x hx
          simp at hx
          rcases hx with rfl | rfl | rfl | rfl | rfl | rfl | rfl | rfl | rfl | rfl | rfl | rfl | rfl | rfl | rfl | rfl | rfl | rfl | rfl | rfl | rfl | rfl | rfl | rfl | rfl <;> rfl
        · exact ⟨⟨rfl, rfl, rfl, Nat.le_refl _, fun _ _ => rfl⟩, ⟨rfl, rfl, rfl, Nat.le_refl _, fun _ _ _ => rfl⟩⟩
        obtain ⟨wz, v, xs', hgz, hoz, rfl⟩ := hP
        have f0 : a.tmps[0]? = some (.agg #[.int .i64 au, .int .u32 id, .int .u32 nh, .slice ao n cap]) := hfx (0, .agg #[.int .i64 au, .int .u32 id, .int .u32 nh, .slice ao n cap]) (by simp)
        have f1 : a.tmps[1]? = some (.pointer (some ⟨w.heap.size, 0, none⟩)) := hfx (1, .pointer (some ⟨w.heap.size, 0, none⟩)) (by simp)
        have f2 : a.tmps[2]? = some (.pointer none) := hfx (2, .pointer none) (by simp)
        have f3 : a.tmps[3]? = some (.pointer (some ⟨w.heap.size + 1, 0, none⟩)) := hfx (3, .pointer (some ⟨w.heap.size + 1, 0, none⟩)) (by simp)
        have f4 : a.tmps[4]? = some (.pointer (some ⟨w1.heap.size, 0, none⟩)) := hfx (4, .pointer (some ⟨w1.heap.size, 0, none⟩)) (by simp)
        have f5 : a.tmps[5]? = some (.pointer (some ⟨w1.heap.size + 2, 0, none⟩)) := hfx (5, .pointer (some ⟨w1.heap.size + 2, 0, none⟩)) (by simp)
        have f6 : a.tmps[6]? = some (.pointer (some ⟨w2.heap.size, 0, none⟩)) := hfx (6, .pointer (some ⟨w2.heap.size, 0, none⟩)) (by simp)
        have f7 : a.tmps[7]? = some (.int .i64 (k : Int)) := hfx (7, .int .i64 (k : Int)) (by simp)
        have f8 : a.tmps[8]? = some (.agg #[.int .i64 au, .int .u32 id, .int .u32 nh, .slice ao n cap]) := hfx (8, .agg #[.int .i64 au, .int .u32 id, .int .u32 nh, .slice ao n cap]) (by simp)
        have f9 : a.tmps[9]? = some (.agg #[.int .i64 0, .int .i64 0]) := hfx (9, .agg #[.int .i64 0, .int .i64 0]) (by simp)
        have f10 : a.tmps[10]? = some (.agg #[.int .i64 0, .int .i64 0]) := hfx (10, .agg #[.int .i64 0, .int .i64 0]) (by simp)
        have f11 : a.tmps[11]? = some (.agg #[.int .i64 0, .int .i64 0]) := hfx (11, .agg #[.int .i64 0, .int .i64 0]) (by simp)
        have f12 : a.tmps[12]? = some (.bool false) := hfx (12, .bool false) (by simp)
        have f13 : a.tmps[13]? = some (undef) := hfx (13, undef) (by simp)
        have f14 : a.tmps[14]? = some (.map (some (w1.heap.size + 1))) := hfx (14, .map (some (w1.heap.size + 1))) (by simp)
        have f15 : a.tmps[15]? = some (.agg #[.int .i64 0, .slice none 0 0, .map (some (w1.heap.size + 1))]) := hfx (15, .agg #[.int .i64 0, .slice none 0 0, .map (some (w1.heap.size + 1))]) (by simp)
        have f16 : a.tmps[16]? = some (.pointer (some ⟨w1.heap.size + 2, 0, none⟩)) := hfx (16, .pointer (some ⟨w1.heap.size + 2, 0, none⟩)) (by simp)
        have f17 : a.tmps[17]? = some (.agg #[.int .i64 au, .int .u32 id, .int .u32 nh, .slice ao n cap]) := hfx (17, .agg #[.int .i64 au, .int .u32 id, .int .u32 nh, .slice ao n cap]) (by simp)
        have f18 : a.tmps[18]? = some (.agg #[.int .i64 au, .int .u32 id, .int .u32 nh, .slice (some ⟨g, 0, none⟩) n cap2]) := hfx (18, .agg #[.int .i64 au, .int .u32 id, .int .u32 nh, .slice (some ⟨g, 0, none⟩) n cap2]) (by simp)
        have f19 : a.tmps[19]? = some (.pointer (some ⟨w2.heap.size, 3, none⟩)) := hfx (19, .pointer (some ⟨w2.heap.size, 3, none⟩)) (by simp)
        have f20 : a.tmps[20]? = some (.slice (some ⟨g, 0, none⟩) n cap2) := hfx (20, .slice (some ⟨g, 0, none⟩) n cap2) (by simp)
        have f21 : a.tmps[21]? = some (.int .i64 (n : Int)) := hfx (21, .int .i64 (n : Int)) (by simp)
        have f22 : a.tmps[22]? = some (.int .i64 (k : Int)) := hfx (22, .int .i64 (k : Int)) (by simp)
        have f38 : a.tmps[38]? = some undef := hfx (38, undef) (by simp)
        have f39 : a.tmps[39]? = some undef := hfx (39, undef) (by simp)
        obtain ⟨tm, df⟩ := a
        simp only at hdf hsz f38 f39 f0 f1 f2 f3 f4 f5 f6 f7 f8 f9 f10 f11 f12 f13 f14 f15 f16 f17 f18 f19 f20 f21 f22
        subst hdf
        obtain ⟨k0, k1, k2, k3, k4, k5, k6, k7, k8, k9, k10, k11, k12, k13, k14, k15, k16, k17, k18, k19, k20, k21, k22, k23, k24, k25, k26, k27, k28, k29, k30, k31, k32, k33, k34, k35, k36, k37, k38, k39, rfl⟩ := arr40 hsz
        simp only [List.getElem?_toArray, List.getElem?_cons_succ, List.getElem?_cons_zero, Option.some.injEq] at f38 f39 f0 f1 f2 f3 f4 f5 f6 f7 f8 f9 f10 f11 f12 f13 f14 f15 f16 f17 f18 f19 f20 f21 f22
        subst f38 f39 f0 f1 f2 f3 f4 f5 f6 f7 f8 f9 f10 f11 f12 f13 f14 f15 f16 f17 f18 f19 f20 f21 f22
        have Hgz : Hid (wr.grownBy wz sv.ownBlock) := hgz
        have Hoz : Hid (wz.ownsRow W3.heap.size 65 21 v (k + 1) xs') := hoz
        clear hgz hoz hfx
        have hfin : Below (w1.heap.size + 2) W3 (wz.setCell ⟨w1.heap.size + 2, 1, none⟩ v) ∧ (∀ b, b < W3.heap.size → b ≠ w1.heap.size + 2 → (wz.setCell ⟨w1.heap.size + 2, 1, none⟩ v).heap[b]? = W3.heap[b]?) ∧ (wz.setCell ⟨w1.heap.size + 2, 1, none⟩ v).heap[w1.heap.size + 2]? = some (.cells #[.int .i64 0, v, .map (some (w1.heap.size + 1))] 56 (0, 0)) ∧ (wz.setCell ⟨w1.heap.size + 2, 1, none⟩ v).ownsRow W3.heap.size 65 21 v (k + 1) xs' := by
          refine ⟨new_rel HBr.out Hgz.out (by omega) Hltr.out (by omega), new_old HBs.out Hgz.out (by omega) (fun b hb e => by have := (Hltr.out b e.symm).1; omega), ?_, own_set Hoz.out (by simp only []; omega)⟩
          exact row_set ((Hgz.out.block _ (by omega) (fun e => Hns.out e.symm)).trans Hbr.out)
        have Hfin : Hid _ := hfin
        clear hfin
        generalize (wz.setCell ⟨w1.heap.size + 2, 1, none⟩ v) = wq at Hfin ⊢
        go_wp2_with fail
        go_roundw
        case rel =>
          have F := Hfin.out
          simp only [hz3] at F
          exact ⟨k + 1, by omega, by go_num, F.1, F.2.1, v, F.2.2.1, xs', F.2.2.2⟩
        case measure => simp [intOf]; omega
      · have hkn : k = n := by omega
        subst hkn
        have e1 := (hBs (w.heap.size + 1) (by omega) (by omega)).trans He13.out
        have y0 := cell_b e1 0; have y1 := cell_b e1 1
        have z0 := frozen_b e1 0; have z1 := frozen_b e1 1
        simp at y0 y1
        have Hfin : Hid (Below w.heap.size w wr) := hB3.trans (hBr.mono (by omega))
        clear hBr hBs hbr hown e1
        go_wp2_with fail
        refine bodyPost_ret (v := .tuple #[.pointer (some ⟨w1.heap.size + 2, 0, none⟩), .agg #[.int .i64 0, .int .i64 0]]) (by simp [results, Try.results6, go_sem, *] <;> rfl) rfl ⟨some _, by rw [H1.out, H2.out], by simp [H1.out], ?_⟩
        exact Below.setCell (Below.setCell Hfin.out (by simp) _) (by simp) _
  · rw [h1]
    obtain ⟨q, hq⟩ : ∃ q, (faultOf au id n P).2 = q := ⟨_, rfl⟩
    rw [hq]
    have H1 : Hid ((faultOf au id n P).1 = 1) := h1
    have H2 : Hid ((faultOf au id n P).2 = q) := hq
    clear h1 hq
    go_wp2_with fail
    go_region
    all_goals go_wp2_with fail
    all_goals exact bodyPost_ret (v := .tuple #[.pointer none, .agg #[.int .i64 1, .int .i64 q]]) (by simp [results, Try.results6, go_sem, *]) rfl ⟨none, by rw [H1.out, H2.out], by simp [H1.out], by
      repeat (first | exact hB0 | refine Below.drew ?_ | refine Below.setCell ?_ (by first | omega | (simp only [World.size_alloc, World.size_setCell, World.size_drew]; omega) | simp) _ | refine Below.alloc ?_ (by first | omega | (simp only [World.size_alloc, World.size_setCell, World.size_drew]; omega) | simp) _)⟩

end Go.Proofs.Ytmgcndpcbpkjaaa
