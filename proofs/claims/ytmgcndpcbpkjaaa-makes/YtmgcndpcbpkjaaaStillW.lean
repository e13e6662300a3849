/- waypostlaw.still. -/
import Derived.Test.YtmgcndpcbpkjaaaRoom
import Derived.RegionTactic
import Derived.BigRegion
import Derived.Deep.RegionWith
import Derived.Deep.QuietTactic
import Derived.BigQuiet
import Derived.Deep.Cut
import Derived.Deep.CutRange
namespace Go.Proofs.Ytmgcndpcbpkjaaa
open Go.RowKit
set_option linter.unusedSimpArgs false
set_option linter.unusedVariables false

/-- A block of N rules, of which those from k on are these. -/
def RuleTail (w : World) (g k N : Nat) (r : Nat → Rl) : Prop :=
  ∃ cur, w.heap[g]? = some (.cells cur 50 (0, 0)) ∧ cur.size = N * 5 ∧ ∀ i, k ≤ i → i < N → ∀ j u, ((r i).cells)[j]? = some u → cur[i * 5 + j]? = some u

theorem RuleRow.tail {w : World} {g N : Nat} {r : Nat → Rl} (h : RuleRow w g N N r) : RuleTail w g 0 N r := by
  obtain ⟨cur, h1, h2, h3⟩ := h; exact ⟨cur, h1, h2, fun i _ hi => h3 i hi⟩

theorem RuleTail.lt {w : World} {g m N : Nat} {r : Nat → Rl} (h : RuleTail w g m N r) : g < w.heap.size := by
  obtain ⟨cur, h1, _⟩ := h; exact (Array.getElem?_eq_some_iff.1 h1).1

theorem RuleTail.below {w w' : World} {g m N B : Nat} {r : Nat → Rl} (h : RuleTail w g m N r) (hB : Below B w w') (hg : g < B) : RuleTail w' g m N r := by
  obtain ⟨cur, h1, h2, h3⟩ := h
  exact ⟨cur, by rw [hB.block g hg]; exact h1, h2, h3⟩

theorem RuleTail.frozen {w : World} {g m N : Nat} {r : Nat → Rl} (h : RuleTail w g m N r) (j : Nat) : w.frozen? ⟨g, j, none⟩ = false := by
  obtain ⟨cur, h1, _⟩ := h; exact frozen_of_row _ _ _ _ _ h1

theorem RuleTail.cells {w : World} {g k N : Nat} {r : Nat → Rl} (h : RuleTail w g k N r) (hk : k < N) :
    w.cell? ⟨g, k * 5, none⟩ = some (.bool (r k).p) ∧ w.cell? ⟨g, k * 5 + 1, none⟩ = some (.int .u32 (r k).a) ∧ w.cell? ⟨g, k * 5 + 2, none⟩ = some (.int .i64 (r k).l) ∧
      w.cell? ⟨g, k * 5 + 3, none⟩ = some (.int .i64 (r k).g) ∧ w.cell? ⟨g, k * 5 + 4, none⟩ = some (.int .i64 (r k).e) := by
  obtain ⟨cur, h1, h2, h3⟩ := h
  have e : ∀ j u, ((r k).cells)[j]? = some u → w.cell? ⟨g, k * 5 + j, none⟩ = some u := fun j u hu => by rw [cell_of_row _ _ _ _ _ _ h1]; exact h3 k (Nat.le_refl _) hk j u hu
  exact ⟨e 0 _ rfl, e 1 _ rfl, e 2 _ rfl, e 3 _ rfl, e 4 _ rfl⟩

theorem RuleTail.put {w : World} {g k N : Nat} {r : Nat → Rl} (h : RuleTail w g k N r) (v0 v1 v2 v3 v4 : Value) :
    RuleTail (((((w.setCell ⟨g, k * 5, none⟩ v0).setCell ⟨g, k * 5 + 1, none⟩ v1).setCell ⟨g, k * 5 + 2, none⟩ v2).setCell ⟨g, k * 5 + 3, none⟩ v3).setCell ⟨g, k * 5 + 4, none⟩ v4) g (k + 1) N r := by
  obtain ⟨cur, h1, h2, h3⟩ := h
  have e0 := heap_setCell_same w g (k * 5) cur _ v0 h1
  have e1 := heap_setCell_same _ g (k * 5 + 1) _ _ v1 e0
  have e2 := heap_setCell_same _ g (k * 5 + 2) _ _ v2 e1
  have e3 := heap_setCell_same _ g (k * 5 + 3) _ _ v3 e2
  have e4 := heap_setCell_same _ g (k * 5 + 4) _ _ v4 e3
  refine ⟨_, e4, by simpa using h2, fun i hk hi j u hu => ?_⟩
  rw [Array.getElem?_setIfInBounds_ne (by omega), Array.getElem?_setIfInBounds_ne (by omega), Array.getElem?_setIfInBounds_ne (by omega), Array.getElem?_setIfInBounds_ne (by omega), Array.getElem?_setIfInBounds_ne (by omega)]
  exact h3 i (by omega) hi j u hu

theorem grownBy_setCell {w w' : World} {g j : Nat} {v : Value} (h : w.grownBy w' (some g)) : w.grownBy (w'.setCell ⟨g, j, none⟩ v) (some g) :=
  ⟨h.os, h.tape, h.output, by rw [World.size_setCell]; exact h.size, fun k hk hne => by rw [heap_setCell_other _ _ _ _ (fun e => hne (by rw [e]))]; exact h.block k hk hne⟩

theorem grownBy_below {w w' w'' : World} {row : Option Nat} (h : w.grownBy w' row) (hB : Below w'.heap.size w' w'') : w.grownBy w'' row :=
  ⟨hB.os.trans h.os, hB.tape.trans h.tape, hB.output.trans h.output, Nat.le_trans h.size hB.size, fun k hk hne => (hB.block k (Nat.lt_of_lt_of_le hk h.size)).trans (h.block k hk hne)⟩

theorem grownBy_cell {w w' : World} {g b j : Nat} {v : Value} (h : w.grownBy w' (some g)) (hb : b ≠ g) (hc : w.cell? ⟨b, j, none⟩ = some v) : w'.cell? ⟨b, j, none⟩ = some v :=
  h.cell hc (by simpa using hb)

set_option maxHeartbeats 1000000 in
theorem still_any (g : Nat) (ao : Option Addr) (n cap : Nat) (r : Nat → Rl) (w : World) (hrow : RuleRow w g (n + 8) (n + 8) (roomR n r)) (h : RsAt w (.slice ao n cap) n r)
    (hfar : ∀ b o, ao = some ⟨b, o, none⟩ → 0 < n → b ≠ g) (hbd : n ≤ 4398046511104) :
    Calls Try.prog 10 #[.slice (some ⟨g, 0, none⟩) (n + 8) (n + 8), .slice ao n cap] w fun e w' => e = .returned (.bool true) ∧ w.grownBy w' (some g) := by
  obtain ⟨⟨ao', cap', hv, hn, hc, hcell⟩, _⟩ := h
  obtain ⟨rfl, _, rfl⟩ : ao = ao' ∧ n = n ∧ cap = cap' := by simpa using hv
  clear hv
  have Ht : Hid (RuleTail w g 0 (n + 8) (roomR n r)) := hrow.tail
  clear hrow hc
  go_enter Try.func10, Try.ntmps10
  go_wp2_with fail
  go_loopw [5, 6] (fun ok i wr => ∃ k : Nat, k ≤ n + 8 ∧ i = .int .i64 k ∧ ok = .bool true ∧ RuleTail wr g k (n + 8) (roomR n r) ∧ w.grownBy wr (some g)) (fun _ i _ => n + 8 - (intOf i).toNat)
  case atStart => exact ⟨0, by omega, rfl, rfl, Ht.out, World.grownBy.refl _ _⟩
  case round =>
    obtain ⟨k, hk, rfl, rfl, ht, hG⟩ := hrel
    by_cases hlt : k < n + 8
    · have hzr := ht.lt
      obtain ⟨c0, c1, c2, c3, c4⟩ := ht.cells hlt
      have f0 := ht.frozen (k * 5)
      have f1 := ht.frozen (k * 5 + 1)
      have f2 := ht.frozen (k * 5 + 2)
      have f3 := ht.frozen (k * 5 + 3)
      have f4 := ht.frozen (k * 5 + 4)
      have Hrw : Hid (RuleTail wr g k (n + 8) (roomR n r)) := ht
      clear ht
      by_cases hin : k < n
      · obtain ⟨b, o, hao, hcs⟩ := hcell (by omega)
        subst hao
        have hbg := hfar b o rfl (by omega)
        obtain ⟨d0, d1, d2, d3, d4⟩ := rule_cells hcs k hin
        have e0 := grownBy_cell hG hbg d0
        have e1 := grownBy_cell hG hbg d1
        have e2 := grownBy_cell hG hbg d2
        have e3 := grownBy_cell hG hbg d3
        have e4 := grownBy_cell hG hbg d4
        clear d0 d1 d2 d3 d4 hcs hcell hfar
        rw [roomR_lt hin] at c0 c1 c2 c3 c4
        go_wp2_with fail
        go_quiet (fail)
        go_wp2_with fail
        go_roundw
        case rel => exact ⟨k + 1, by omega, by go_num, rfl, (Hrw.out.below (below_drewN (Below.refl wr.heap.size _) _) hzr).put _ _ _ _ _, by
          repeat (first | exact grownBy_below hG (below_drewN (Below.refl wr.heap.size _) _) | refine grownBy_setCell ?_)⟩
        case measure => simp [intOf]; omega
      · rw [roomR_ge (by omega)] at c0 c1 c2 c3 c4
        clear hcell hfar
        simp only [behindR] at c0 c1 c2 c3 c4
        go_wp2_with fail
        go_region_with (go_at_call 11; go_loud (refine (behind_any _).mono ?_); go_loud (rintro e w' ⟨rfl, rfl⟩))
        all_goals go_wp2_with fail
        all_goals go_roundw
        all_goals first
          | case rel => exact ⟨k + 1, by omega, by go_num, rfl, (Hrw.out.put _ _ _ _ _).below ((Below.refl _ _).alloc (Nat.le_refl _) _).drew (by simp only [World.size_setCell]; exact hzr), grownBy_below (grownBy_setCell (grownBy_setCell (grownBy_setCell (grownBy_setCell (grownBy_setCell hG))))) ((Below.refl _ _).alloc (Nat.le_refl _) _).drew⟩
          | case measure => simp [intOf]; omega
    · have hkn : k = n + 8 := by omega
      subst hkn
      clear ht
      go_wp2_with fail
      go_ret
      exact ⟨rfl, hG⟩

end Go.Proofs.Ytmgcndpcbpkjaaa
