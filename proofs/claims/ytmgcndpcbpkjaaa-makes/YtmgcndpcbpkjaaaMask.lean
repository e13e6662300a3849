/- waypostref: mask, rules. -/
import Derived.Test.YtmgcndpcbpkjaaaFilter
import Derived.Deep.QuietTactic
import Derived.BigQuiet
namespace Go.Proofs.Ytmgcndpcbpkjaaa
open Go.RowKit
set_option linter.unusedSimpArgs false
set_option linter.unusedVariables false

def cutB (a : Int) (k : Nat) : Int := a / 2 ^ k * 2 ^ k

theorem cutB_zero (a : Int) : cutB a 0 = a := by simp [cutB]

theorem cutB_bd (a : Int) (k : Nat) (h0 : 0 ≤ a) (h1 : a < 4294967296) : 0 ≤ cutB a k ∧ cutB a k < 4294967296 := by
  unfold cutB
  have hp : (0:Int) < 2 ^ k := Int.pow_pos (by decide)
  have h2 : 0 ≤ a / 2 ^ k := Int.ediv_nonneg h0 (by omega)
  have h3 := Int.ediv_mul_le a (Int.ne_of_gt hp)
  exact ⟨Int.mul_nonneg h2 (by omega), by omega⟩

theorem cutB_succ (a : Int) (k : Nat) : cutB a k / 2 ^ (k + 1) * 2 ^ (k + 1) = cutB a (k + 1) := by
  unfold cutB
  have hp : (0:Int) < 2 ^ k := Int.pow_pos (by decide)
  congr 1
  rw [Int.pow_succ, ← Int.ediv_ediv_of_nonneg (by omega), Int.mul_ediv_cancel _ (by omega), ← Int.ediv_ediv_of_nonneg (by omega)]

theorem cutB_eq (a : Int) (k : Nat) : cutB a k = a ↔ a % 2 ^ k = 0 := by
  unfold cutB
  have := Int.emod_def a (2 ^ k)
  rw [Int.mul_comm] at this
  constructor <;> intro h <;> omega

set_option maxHeartbeats 400000 in
theorem mask_any (a l : Int) (w : World) (h0 : 0 ≤ a) (h1 : a < 4294967296) (l0 : 0 ≤ l) (l1 : l ≤ 32) :
    Calls Try.prog 21 #[.int .u32 a, .int .i64 l] w fun e w' => e = .returned (.int .u32 (cutB a (32 - l.toNat))) ∧ w' = w := by
  go_enter Try.func21, Try.ntmps21
  go_wp2_with fail
  go_loop [0, 5] (fun x i => ∃ k : Nat, (k : Int) ≤ 32 - l ∧ i = .int .i64 k ∧ x = .int .u32 (cutB a k)) (fun _ i => 32 - (intOf i).toNat)
  case atStart => exact ⟨0, by omega, rfl, by rw [cutB_zero]⟩
  case round =>
    obtain ⟨k, hk, rfl, rfl⟩ := hrel
    have hb := cutB_bd a k h0 h1
    have hb2 := cutB_bd a (k + 1) h0 h1
    obtain ⟨hb0, hb1⟩ := hb
    by_cases hlt : (k : Int) < 32 - l
    · go_wp2_with fail
      go_round
      case rel => exact ⟨k + 1, by omega, by go_num, by rw [cutB_succ, Int.emod_eq_of_lt hb2.1 hb2.2]⟩
      case measure => simp [intOf]; omega
    · have hk2 : 32 - l.toNat = k := by omega
      have Hk2 : Hid (32 - l.toNat = k) := hk2
      clear hb2 hk2
      go_wp2_with fail
      go_ret
      exact ⟨by rw [Hk2.out]; rfl, rfl⟩

theorem ruleB_mask (r : Rl) (h0 : 0 ≤ r.l) (h1 : r.l ≤ 32) (h2 : r.l ≤ r.g) (h3 : r.g ≤ r.e) (h4 : r.e ≤ 32) : ruleB r = true ↔ cutB r.a (32 - r.l.toNat) = r.a := by
  rw [cutB_eq]
  simp [ruleB, betB, h0, h1, h2, h3, h4]

theorem ruleB_false (r : Rl) (h : ¬ (0 ≤ r.l ∧ r.l ≤ 32 ∧ r.l ≤ r.g ∧ r.g ≤ r.e ∧ r.e ≤ 32)) : ruleB r = false := by
  rw [Bool.eq_false_iff]
  intro h1
  simp [ruleB, betB] at h1
  omega

set_option maxHeartbeats 1000000 in
theorem rules_any (ao : Option Addr) (n cap : Nat) (r : Nat → Rl) (w : World) (h : RsAt w (.slice ao n cap) n r) :
    Calls Try.prog 16 #[.slice ao n cap] w fun e w' => e = .returned (.bool (fltB n r)) ∧ Below w.heap.size w w' := by
  obtain ⟨⟨ao', cap', hv, hn, hc, hcell⟩, hrg⟩ := h
  obtain ⟨rfl, _, rfl⟩ : ao = ao' ∧ n = n ∧ cap = cap' := by simpa using hv
  unfold maxLen at hc
  clear hv
  by_cases h8 : n ≤ 8
  · have H8 : Hid (fltB n r = allB n r) := by simp [Hid, fltB, h8]
    go_enter Try.func16, Try.ntmps16
    go_wp2_with fail
    go_loopw [3] (fun i wr => ∃ k : Nat, k ≤ n ∧ i = .int .i64 k ∧ (∀ j < k, ruleB (r j) = true) ∧ Below w.heap.size w wr) (fun i _ => n - (intOf i).toNat)
    case atStart => exact ⟨0, Nat.zero_le _, rfl, fun j hj => by omega, Below.refl _ _⟩
    case round =>
      obtain ⟨k, hk, rfl, hall, hB⟩ := hrel
      have Hall : Hid (∀ j < k, ruleB (r j) = true) := hall
      clear hall
      by_cases hlt : k < n
      · obtain ⟨b, o, hao, hcs⟩ := hcell (by omega)
        subst hao
        obtain ⟨c0, c1, c2, c3, c4⟩ := rule_cells' hB hcs k hlt
        obtain ⟨ra0, ra1⟩ := hrg k hlt
        clear hcs hcell hrg
        by_cases hgood : 0 ≤ (r k).l ∧ (r k).l ≤ 32 ∧ (r k).l ≤ (r k).g ∧ (r k).g ≤ (r k).e ∧ (r k).e ≤ 32
        · obtain ⟨g0, g1, g2, g3, g4⟩ := hgood
          have HM : Hid (ruleB (r k) = true ↔ cutB (r k).a (32 - (r k).l.toNat) = (r k).a) := ruleB_mask (r k) g0 g1 g2 g3 g4
          go_wp2_with fail
          go_quiet ((go_at_call 21; exact Calls.quiet_of_same (mask_any _ _ _ ra0 ra1 g0 g1)))
          go_wp2_with fail
          · have hne : (cutB (r k).a (32 - (r k).l.toNat) != (r k).a) = true := by assumption
            have hf : ruleB (r k) = false := by
              rw [Bool.eq_false_iff]
              intro h1
              rw [HM.out.1 h1] at hne
              simp at hne
            go_ret
            exact ⟨by rw [H8.out, allB_false hlt hf]; rfl, below_drewN (hB.alloc hB.size _) _⟩
          · have hne : (cutB (r k).a (32 - (r k).l.toNat) != (r k).a) = false := by assumption
            have ht : ruleB (r k) = true := HM.out.2 (by simpa using hne)
            go_roundw
            case rel => exact ⟨k + 1, by omega, by go_num, all_step Hall.out ht, below_drewN (hB.alloc hB.size _) _⟩
            case measure => simp [intOf]; omega
        · have Hf : Hid (ruleB (r k) = false) := ruleB_false _ hgood
          go_wp2_with fail
          all_goals go_ret
          all_goals exact ⟨by rw [H8.out, allB_false hlt Hf.out]; rfl, hB.alloc hB.size _⟩
      · have hkn : k = n := by omega
        subst hkn
        have ht := allB_true Hall.out
        go_wp2_with fail
        go_ret
        exact ⟨by rw [H8.out, ht]; rfl, hB⟩
  · go_enter Try.func16, Try.ntmps16
    go_wp2_with fail
    go_ret
    exact ⟨by simp [fltB, h8], Below.refl _ _⟩

end Go.Proofs.Ytmgcndpcbpkjaaa
