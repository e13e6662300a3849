/- The walks of the functions that call few others. -/
import Derived.Test.YtmgcndpcbpkjaaaBase
namespace Go.Proofs.Ytmgcndpcbpkjaaa
open Go.RowKit
set_option linter.unusedSimpArgs false
set_option linter.unusedVariables false

set_option maxHeartbeats 400000 in
theorem between_any (n lo hi : Int) (w : World) :
    Calls Try.prog 24 #[.int .i64 n, .int .i64 lo, .int .i64 hi] w fun e w' => e = .returned (.bool (betB n lo hi)) ∧ w' = w := by
  go_enter Try.func24, Try.ntmps24
  go_wp2
  all_goals go_ret
  all_goals (refine ⟨?_, rfl⟩; simp [betB]; try omega)

set_option maxHeartbeats 400000 in
theorem in_any (n lo hi : Int) (w : World) :
    Calls Try.prog 15 #[.int .i64 n, .int .i64 lo, .int .i64 hi] w fun e w' => e = .returned (.bool (betB n lo hi)) ∧ w' = w := by
  go_enter Try.func15, Try.ntmps15
  go_wp2
  all_goals go_ret
  all_goals (refine ⟨?_, rfl⟩; simp [betB]; try omega)

set_option maxHeartbeats 400000 in
theorem asMayBe_any (n : Int) (w : World) :
    Calls Try.prog 22 #[.int .i64 n] w fun e w' => e = .returned (.bool (betB n 1 65535)) ∧ w' = w := by
  go_enter Try.func22, Try.ntmps22
  go_wp2_with (go_at_call 24; refine (between_any _ _ _ _).mono ?_; rintro e w' ⟨rfl, rfl⟩)
  go_ret
  exact ⟨rfl, rfl⟩

set_option maxHeartbeats 400000 in
theorem holdMayBe_any (n : Int) (w : World) :
    Calls Try.prog 23 #[.int .i64 n] w fun e w' => e = .returned (.bool (holdB n)) ∧ w' = w := by
  by_cases h : (n == 0) = true
  · go_enter Try.func23, Try.ntmps23
    go_wp2_with (go_at_call 24; refine (between_any _ _ _ _).mono ?_; rintro e w' ⟨rfl, rfl⟩)
    go_ret
    exact ⟨by simp [holdB, h], rfl⟩
  · have h' : (n == 0) = false := by simpa using h
    clear h
    go_enter Try.func23, Try.ntmps23
    go_wp2_with (go_at_call 24; refine (between_any _ _ _ _).mono ?_; rintro e w' ⟨rfl, rfl⟩)
    go_ret
    exact ⟨by simp [holdB, h'], rfl⟩

set_option maxHeartbeats 400000 in
theorem num_any (n : Int) (w : World) :
    Calls Try.prog 8 #[.int .i64 n] w fun e w' => e = .returned (.int .i64 n) ∧ w' = w := by
  go_enter Try.func8, Try.ntmps8
  go_wp2
  go_ret
  exact ⟨rfl, rfl⟩

def behindR : Rl := ⟨true, 77, 78, 79, 80⟩

set_option maxHeartbeats 400000 in
theorem behind_any (w : World) :
    Calls Try.prog 11 #[] w fun e w' => e = .returned (.agg #[.bool true, .int .u32 77, .int .i64 78, .int .i64 79, .int .i64 80]) ∧ w' = w.alloc (.cells #[.bool true, .int .u32 77, .int .i64 78, .int .i64 79, .int .i64 80] 50) := by
  go_enter Try.func11, Try.ntmps11
  go_wp2
  exact bodyPost_ret (v := .agg #[.bool true, .int .u32 77, .int .i64 78, .int .i64 79, .int .i64 80]) (by simp [results, Try.results11, go_sem]) rfl ⟨rfl, rfl⟩

set_option maxHeartbeats 400000 in
theorem own_any (w : World) :
    Calls Try.prog 9 #[.agg #[.int .i64 77, .int .i64 78, .int .i64 79, .int .i64 80, .int .i64 81, .slice none 0 0, .slice none 0 0]] w fun e w' => e = .returned (.bool true) ∧ Below w.heap.size w w' := by
  go_enter Try.func9, Try.ntmps9
  go_wp2
  go_ret
  exact ⟨rfl, (Below.refl _ _).alloc (Nat.le_refl _) _⟩

set_option maxHeartbeats 400000 in
theorem ruleMayBe_any (p : Bool) (a l g e : Int) (w : World) :
    Calls Try.prog 28 #[.agg #[.bool p, .int .u32 a, .int .i64 l, .int .i64 g, .int .i64 e]] w fun en w' => en = .returned (.bool (ruleB ⟨p, a, l, g, e⟩)) ∧ Below w.heap.size w w' := by
  by_cases h1 : 0 ≤ l ∧ l ≤ 32
  · obtain ⟨h0, h1⟩ := h1
    have hb := betB_true h0 h1
    have H := shlB a l h1
    have H' : Hid (a * 2 ^ l.toNat % 4294967296 = 0 ↔ a % 2^(32 - l.toNat) = 0) := H
    clear H
    go_enter Try.func28, Try.ntmps28
    go_wp2_with (go_at_call 24; refine (between_any _ _ _ _).mono ?_; rintro e w' ⟨rfl, rfl⟩)
    all_goals go_ret
    · have k1 : a * 2 ^ l.toNat % 4294967296 = 0 := by assumption
      have k2 : betB g l e = true := by assumption
      have k3 := H'.out.1 k1
      exact ⟨by simp [ruleB, hb, k2, k3], (Below.refl _ _).alloc (Nat.le_refl _) _⟩
    · have k1 : a * 2 ^ l.toNat % 4294967296 = 0 := by assumption
      have k2 : ¬ betB g l e = true := by assumption
      exact ⟨by simp [ruleB, hb, k2], (Below.refl _ _).alloc (Nat.le_refl _) _⟩
    · have k1 : ¬ a * 2 ^ l.toNat % 4294967296 = 0 := by assumption
      have k3 : ¬ a % 2^(32 - l.toNat) = 0 := fun h => k1 (H'.out.2 h)
      exact ⟨by simp [ruleB, hb, k3], (Below.refl _ _).alloc (Nat.le_refl _) _⟩
  · have hb := betB_false h1
    clear h1
    go_enter Try.func28, Try.ntmps28
    go_wp2_with (go_at_call 24; refine (between_any _ _ _ _).mono ?_; rintro e w' ⟨rfl, rfl⟩)
    all_goals go_ret
    exact ⟨by simp [ruleB, hb], (Below.refl _ _).alloc (Nat.le_refl _) _⟩

set_option maxHeartbeats 400000 in
theorem clos_any (p : Bool) (a l g e : Int) (w : World) :
    Calls Try.prog 27 #[.agg #[.bool p, .int .u32 a, .int .i64 l, .int .i64 g, .int .i64 e]] w fun en w' => en = .returned (.bool (!ruleB ⟨p, a, l, g, e⟩)) ∧ Below w.heap.size w w' := by
  go_enter Try.func27, Try.ntmps27
  go_wp2_with (go_at_call 28; refine (ruleMayBe_any _ _ _ _ _ _).mono ?_; rintro e w' ⟨rfl, hb⟩)
  go_ret
  exact ⟨rfl, ((Below.refl _ _).alloc (Nat.le_refl _) _).trans (hb.mono (by simp))⟩

end Go.Proofs.Ytmgcndpcbpkjaaa
