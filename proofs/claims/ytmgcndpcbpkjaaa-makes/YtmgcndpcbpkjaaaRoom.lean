/- waypostlaw.room. -/
import Derived.Test.YtmgcndpcbpkjaaaCopy
namespace Go.Proofs.Ytmgcndpcbpkjaaa
open Go.RowKit
set_option linter.unusedSimpArgs false
set_option linter.unusedVariables false

theorem run_copy_rows {P : Program} (w : World) (dT sT ty elem : TypeId) (g dLen dCap : Nat) (ao : Option Addr) (sLen sCap size : Nat) (cur : Array Value) (t : TypeId) (cs : List Value)
    (hu : P.underlying dT = some (.slice elem)) (hs : (P.info? elem).map (·.size) = some size)
    (hg : w.heap[g]? = some (.cells cur t (0, 0))) (hle : sLen ≤ dLen) (hn : cs.length = sLen * size)
    (hnone : ao = none → sLen = 0) (hsrc : ∀ a, ao = some a → ∀ j v, cs[j]? = some v → w.cell? (a.add j) = some v) (hfit : cs.length ≤ cur.size) (h1 : ∀ v ∈ cs, v.oneCell' = true) :
    (Builtin.copy_ #[dT, sT] ty #[.slice (some ⟨g, 0, none⟩) dLen dCap, .slice ao sLen sCap]).run P w =
      .ok (goInt sLen) (w.setRow g (cs ++ cur.toList.drop cs.length).toArray) := by
  have hst := run_storeCells_at P g 0 t cs 0 cur w hg (by simpa using hfit) h1
  have hmin : Nat.min sLen dLen = sLen := Nat.min_eq_left hle
  simp only [Nat.add_zero, Nat.zero_add, List.take_zero, List.nil_append] at hst
  cases hq : P.info? elem with
  | none => simp [hq] at hs
  | some i =>
    have hi : i.size = size := by simpa [hq] using hs
    cases ao with
    | none =>
      have h0 := hnone rfl
      subst h0
      obtain rfl : cs = [] := List.eq_nil_of_length_eq_zero (by simpa using hn)
      have hself := setRow_self w g cur t (0, 0) hg
      simp [Builtin.copy_, run_underlying hu, Builtin.lenOf, Builtin.firstCells, sizeOf, typeInfo, hq, hi, storeCells, hself]
    | some a =>
      have hl := run_loadCells_list (P := P) w a cs (hsrc a rfl)
      simp [Builtin.copy_, run_underlying hu, Builtin.lenOf, Builtin.firstCells, sizeOf, typeInfo, hq, hi, hmin, ← hn, hl, hst]

def roomR (n : Nat) (r : Nat → Rl) (i : Nat) : Rl := if i < n then r i else behindR

/-- A block of N rules, of which the first m are these. -/
def RuleRow (w : World) (g m N : Nat) (r : Nat → Rl) : Prop :=
  ∃ cur, w.heap[g]? = some (.cells cur 50 (0, 0)) ∧ cur.size = N * 5 ∧ ∀ i < m, ∀ j u, ((r i).cells)[j]? = some u → cur[i * 5 + j]? = some u

theorem RuleRow.lt {w : World} {g m N : Nat} {r : Nat → Rl} (h : RuleRow w g m N r) : g < w.heap.size := by
  obtain ⟨cur, h1, _⟩ := h; exact (Array.getElem?_eq_some_iff.1 h1).1

theorem RuleRow.below {w w' : World} {g m N B : Nat} {r : Nat → Rl} (h : RuleRow w g m N r) (hB : Below B w w') (hg : g < B) : RuleRow w' g m N r := by
  obtain ⟨cur, h1, h2, h3⟩ := h
  exact ⟨cur, by rw [hB.block g hg]; exact h1, h2, h3⟩

theorem RuleRow.grown {w w' : World} {g m N : Nat} {r : Nat → Rl} {row : Option Nat} (h : RuleRow w g m N r) (hG : w.grownBy w' row) (hg : some g ≠ row) : RuleRow w' g m N r := by
  obtain ⟨cur, h1, h2, h3⟩ := h
  exact ⟨cur, by rw [hG.block g (Array.getElem?_eq_some_iff.1 h1).1 hg]; exact h1, h2, h3⟩

theorem RuleRow.frozen {w : World} {g m N : Nat} {r : Nat → Rl} (h : RuleRow w g m N r) (j : Nat) : w.frozen? ⟨g, j, none⟩ = false := by
  obtain ⟨cur, h1, _⟩ := h; exact frozen_of_row _ _ _ _ _ h1

theorem RuleRow.cellSome {w : World} {g m N : Nat} {r : Nat → Rl} (h : RuleRow w g m N r) (j : Nat) (hj : j < N * 5) : ∃ u, w.cell? ⟨g, j, none⟩ = some u := by
  obtain ⟨cur, h1, h2, _⟩ := h
  rw [cell_of_row _ _ _ _ _ _ h1]
  exact ⟨cur[j], by simp [h2, hj]⟩

theorem RuleRow.cell {w : World} {g m N : Nat} {r : Nat → Rl} (h : RuleRow w g m N r) (i : Nat) (hi : i < m) (j : Nat) (u : Value) (hu : ((r i).cells)[j]? = some u) : w.cell? ⟨g, i * 5 + j, none⟩ = some u := by
  obtain ⟨cur, h1, h2, h3⟩ := h
  rw [cell_of_row _ _ _ _ _ _ h1]; exact h3 i hi j u hu

theorem RuleRow.put {w : World} {g m N : Nat} {r : Nat → Rl} (h : RuleRow w g m N r) (hm : m < N) {v0 v1 v2 v3 v4 : Value} (hx : (r m).cells = [v0, v1, v2, v3, v4]) :
    RuleRow (((((w.setCell ⟨g, m * 5, none⟩ v0).setCell ⟨g, m * 5 + 1, none⟩ v1).setCell ⟨g, m * 5 + 2, none⟩ v2).setCell ⟨g, m * 5 + 3, none⟩ v3).setCell ⟨g, m * 5 + 4, none⟩ v4) g (m + 1) N r := by
  obtain ⟨cur, h1, h2, h3⟩ := h
  have e0 := heap_setCell_same w g (m * 5) cur _ v0 h1
  have e1 := heap_setCell_same _ g (m * 5 + 1) _ _ v1 e0
  have e2 := heap_setCell_same _ g (m * 5 + 2) _ _ v2 e1
  have e3 := heap_setCell_same _ g (m * 5 + 3) _ _ v3 e2
  have e4 := heap_setCell_same _ g (m * 5 + 4) _ _ v4 e3
  refine ⟨_, e4, by simpa using h2, fun i hi j u hu => ?_⟩
  rcases Nat.lt_succ_iff_lt_or_eq.1 hi with hlt | rfl
  · have hj : j < 5 := by have := (List.getElem?_eq_some_iff.1 hu).1; simpa [Rl.cells] using this
    have := h3 i hlt j u hu
    rw [Array.getElem?_setIfInBounds_ne (by omega), Array.getElem?_setIfInBounds_ne (by omega), Array.getElem?_setIfInBounds_ne (by omega), Array.getElem?_setIfInBounds_ne (by omega), Array.getElem?_setIfInBounds_ne (by omega)]
    exact this
  · rw [hx] at hu
    match j, hu with
    | 0, hu =>
      simp at hu; subst hu
      rw [Array.getElem?_setIfInBounds_ne (by omega), Array.getElem?_setIfInBounds_ne (by omega), Array.getElem?_setIfInBounds_ne (by omega), Array.getElem?_setIfInBounds_ne (by omega), Nat.add_zero, Array.getElem?_setIfInBounds_self_of_lt (by omega)]
    | 1, hu =>
      simp at hu; subst hu
      rw [Array.getElem?_setIfInBounds_ne (by omega), Array.getElem?_setIfInBounds_ne (by omega), Array.getElem?_setIfInBounds_ne (by omega), Array.getElem?_setIfInBounds_self_of_lt (by simp; omega)]
    | 2, hu =>
      simp at hu; subst hu
      rw [Array.getElem?_setIfInBounds_ne (by omega), Array.getElem?_setIfInBounds_ne (by omega), Array.getElem?_setIfInBounds_self_of_lt (by simp; omega)]
    | 3, hu =>
      simp at hu; subst hu
      rw [Array.getElem?_setIfInBounds_ne (by omega), Array.getElem?_setIfInBounds_self_of_lt (by simp; omega)]
    | 4, hu =>
      simp at hu; subst hu
      rw [Array.getElem?_setIfInBounds_self_of_lt (by simp; omega)]
    | j + 5, hu => simp at hu

theorem roomR_lt {n : Nat} {r : Nat → Rl} {i : Nat} (h : i < n) : roomR n r i = r i := by simp [roomR, h]
theorem roomR_ge {n : Nat} {r : Nat → Rl} {i : Nat} (h : n ≤ i) : roomR n r i = behindR := by simp [roomR]; intro h1; omega

set_option maxHeartbeats 1000000 in
theorem room_any (ao : Option Addr) (n cap : Nat) (r : Nat → Rl) (w : World) (h : RsAt w (.slice ao n cap) n r) (hbd : n ≤ 4398046511104) :
    Calls Try.prog 5 #[.slice ao n cap] w fun e w' =>
      e = .returned (.slice (some ⟨w.heap.size, 0, none⟩) (n + 8) (n + 8)) ∧ RuleRow w' w.heap.size (n + 8) (n + 8) (roomR n r) ∧ Below w.heap.size w w' := by
  obtain ⟨⟨ao', cap', hv, hn, hc, hcell⟩, _⟩ := h
  obtain ⟨rfl, _, rfl⟩ : ao = ao' ∧ n = n ∧ cap = cap' := by simpa using hv
  clear hv
  obtain ⟨i0, hi, hz0, hz1, hz2⟩ := info_parts Try.infoRule
  obtain ⟨MK, hMK⟩ : ∃ MK, MK = madeCells (Value.agg #[.bool false, .int .u32 0, .int .i64 0, .int .i64 0, .int .i64 0]).cells ((n + 8) * i0.size) := ⟨_, rfl⟩
  have hsz : MK.size = (n + 8) * 5 := by rw [hMK, size_madeCells, hz1]
  have hmk : ∀ wx, Sem.run Try.prog (Instr.makeSlice 31 (.int .i64 ((n : Int) + 8)) (.int .i64 ((n : Int) + 8))) wx = .ok (.slice (some ⟨wx.heap.size, 0, none⟩) (n + 8) (n + 8)) (wx.alloc (.cells MK 50)) := by
    intro wx
    have e : ((n : Int) + 8) = ((n + 8 : Nat) : Int) := by omega
    rw [e, run_make wx 31 50 i0 _ Try.underlying31 hi hz0 .i64 .i64 ((n + 8 : Nat) : Int) ((n + 8 : Nat) : Int) (by omega) (Int.le_refl _) (by rw [hz2]; omega) (by omega), Int.toNat_natCast, ← hMK]
  have hW : ∃ W2, (∀ ty, Sem.run Try.prog (Builtin.copy_ #[31, 31] ty #[.slice (some ⟨w.heap.size, 0, none⟩) (n + 8) (n + 8), .slice ao n cap]) (w.alloc (.cells MK 50)) = .ok (goInt n) W2) ∧
      RuleRow W2 w.heap.size n (n + 8) (roomR n r) ∧ Below w.heap.size w W2 ∧ w.heap.size < W2.heap.size := by
    have hl : (flat (fun i => (r i).cells) n).length = n * 5 := flat_length n (fun _ _ => rfl)
    have hg := heap_alloc_new w (.cells MK 50)
    have hcp := fun ty => run_copy_rows (P := Try.prog) (ty := ty) (w.alloc (.cells MK 50)) 31 31 50 w.heap.size (n + 8) (n + 8) ao n cap 5 MK _ (flat (fun i => (r i).cells) n) Try.underlying31 (by rw [hi]; simp [hz1]) hg (by omega) hl
      (by
        intro hnone
        rcases Nat.eq_zero_or_pos n with h0 | h0
        · exact h0
        · obtain ⟨b, o, hh, _⟩ := hcell h0
          rw [hnone] at hh; cases hh)
      (by
        intro a ha j u hu
        rcases Nat.eq_zero_or_pos n with h0 | h0
        · subst h0; simp [flat] at hu
        · obtain ⟨b, o, hh, hcs⟩ := hcell h0
          rw [ha] at hh
          obtain rfl : a = ⟨b, o, none⟩ := by simpa using hh
          have := flat_cells (size := 5) (by decide) (fun _ _ => rfl) hcs j u hu
          rw [World.cell?_alloc_lt _ _ _ (World.block_lt_of_cell? _ _ this)]; exact this)
      (by rw [hl, hsz]; omega)
      (by
        intro u hu
        obtain ⟨i, _, hu⟩ := flat_mem n hu
        simp only [Rl.cells, List.mem_cons, List.not_mem_nil, or_false] at hu
        rcases hu with rfl | rfl | rfl | rfl | rfl <;> rfl)
    refine ⟨_, hcp, ⟨_, setRow_heap _ _ _ _ _ _ hg, ?_, fun i hin j u hu => ?_⟩, ?_, by simp⟩
    · simp [hl, hsz]; omega
    · have hj : j < 5 := by have := (List.getElem?_eq_some_iff.1 hu).1; simpa [Rl.cells] using this
      rw [roomR_lt hin] at hu
      have := flat_get (size := 5) (c := fun i => (r i).cells) n (fun _ _ => rfl) i hin j hj
      rw [List.getElem?_toArray, List.getElem?_append_left (by rw [hl]; omega), this]; exact hu
    · exact ⟨rfl, rfl, rfl, by simp, fun k hk => by rw [setRow_other _ _ _ _ (by omega)]; exact heap_alloc_old _ _ (by assumption)⟩
  obtain ⟨W2, hcp, hrow, hB2, hz⟩ := hW
  have Hrow : Hid (RuleRow W2 w.heap.size n (n + 8) (roomR n r)) := hrow
  clear hrow hcell hMK hsz hi hz0 hz1 hz2 hc
  go_enter Try.func5, Try.ntmps5
  go_wp2_with fail
  go_loopw [4] (fun i wr => ∃ m : Nat, n ≤ m ∧ m ≤ n + 8 ∧ i = .int .i64 m ∧ RuleRow wr w.heap.size m (n + 8) (roomR n r) ∧ Below w.heap.size w wr) (fun i _ => n + 8 - (intOf i).toNat)
  case atStart => exact ⟨n, Nat.le_refl _, by omega, rfl, Hrow.out, hB2⟩
  case round =>
    obtain ⟨m, hm0, hm, rfl, hrw, hB⟩ := hrel
    by_cases hlt : m < n + 8
    · have hzr := hrw.lt
      obtain ⟨u0, c0⟩ := hrw.cellSome (m * 5) (by omega)
      obtain ⟨u1, c1⟩ := hrw.cellSome (m * 5 + 1) (by omega)
      obtain ⟨u2, c2⟩ := hrw.cellSome (m * 5 + 2) (by omega)
      obtain ⟨u3, c3⟩ := hrw.cellSome (m * 5 + 3) (by omega)
      obtain ⟨u4, c4⟩ := hrw.cellSome (m * 5 + 4) (by omega)
      have f0 := hrw.frozen (m * 5)
      have f1 := hrw.frozen (m * 5 + 1)
      have f2 := hrw.frozen (m * 5 + 2)
      have f3 := hrw.frozen (m * 5 + 3)
      have f4 := hrw.frozen (m * 5 + 4)
      have Hrw : Hid (RuleRow wr w.heap.size m (n + 8) (roomR n r)) := hrw
      clear hrw
      go_wp2_with (go_at_call 11; refine (behind_any _).mono ?_; rintro e w' ⟨rfl, rfl⟩)
      go_roundw
      case rel => exact ⟨m + 1, by omega, by omega, by go_num, (Hrw.out.put (by omega) (by rw [roomR_ge hm0]; rfl)).below ((Below.refl _ _).alloc (Nat.le_refl _) _) (by simp only [World.size_setCell]; exact hzr), by
        repeat (first | exact hB | refine Below.setCell ?_ (by simp) _ | refine Below.alloc ?_ (by simp only [World.size_setCell]; omega) _)⟩
      case measure => simp [intOf]; omega
    · have hmn : m = n + 8 := by omega
      subst hmn
      have Hrw : Hid (RuleRow wr w.heap.size (n + 8) (n + 8) (roomR n r)) := hrw
      clear hrw
      go_wp2_with fail
      go_ret
      exact ⟨rfl, Hrw.out, hB⟩

end Go.Proofs.Ytmgcndpcbpkjaaa
