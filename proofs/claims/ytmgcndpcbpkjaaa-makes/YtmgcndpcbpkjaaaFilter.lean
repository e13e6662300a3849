/- Filters, as package config looks at them. -/
import Derived.Test.YtmgcndpcbpkjaaaLeaf
namespace Go.Proofs.Ytmgcndpcbpkjaaa
open Go.RowKit
set_option linter.unusedSimpArgs false
set_option linter.unusedVariables false

theorem RsAt.cell {w w' : World} {v : Value} {n : Nat} {r : Nat → Rl} (h : RsAt w v n r) (hB : Below w.heap.size w w') : RsAt w' v n r := by
  refine ⟨?_, h.2⟩
  obtain ⟨ao, cap, hv, hn, hm, hc⟩ := h.1
  refine ⟨ao, cap, hv, hn, hm, fun h0 => ?_⟩
  obtain ⟨b, o, hao, hcell⟩ := hc h0
  refine ⟨b, o, hao, fun i hi k u hu => ?_⟩
  have := hcell i hi k u hu
  rw [hB.cell (World.block_lt_of_cell? _ _ this)]
  exact this

/-- The five cells of rule k. -/
theorem rule_cells {w : World} {b o n : Nat} {r : Nat → Rl}
    (h : ∀ i < n, ∀ k u, ((r i).cells)[k]? = some u → w.cell? ⟨b, o + i * 5 + k, none⟩ = some u) (k : Nat) (hk : k < n) :
    w.cell? ⟨b, o + k * 5, none⟩ = some (.bool (r k).p) ∧ w.cell? ⟨b, o + k * 5 + 1, none⟩ = some (.int .u32 (r k).a) ∧ w.cell? ⟨b, o + k * 5 + 2, none⟩ = some (.int .i64 (r k).l) ∧
      w.cell? ⟨b, o + k * 5 + 3, none⟩ = some (.int .i64 (r k).g) ∧ w.cell? ⟨b, o + k * 5 + 4, none⟩ = some (.int .i64 (r k).e) :=
  ⟨h k hk 0 _ rfl, h k hk 1 _ rfl, h k hk 2 _ rfl, h k hk 3 _ rfl, h k hk 4 _ rfl⟩

theorem rule_cells' {w wr : World} {b o n : Nat} {r : Nat → Rl} (hB : Below w.heap.size w wr)
    (h : ∀ i < n, ∀ k u, ((r i).cells)[k]? = some u → w.cell? ⟨b, o + i * 5 + k, none⟩ = some u) (k : Nat) (hk : k < n) :
    wr.cell? ⟨b, o + k * 5, none⟩ = some (.bool (r k).p) ∧ wr.cell? ⟨b, o + k * 5 + 1, none⟩ = some (.int .u32 (r k).a) ∧ wr.cell? ⟨b, o + k * 5 + 2, none⟩ = some (.int .i64 (r k).l) ∧
      wr.cell? ⟨b, o + k * 5 + 3, none⟩ = some (.int .i64 (r k).g) ∧ wr.cell? ⟨b, o + k * 5 + 4, none⟩ = some (.int .i64 (r k).e) :=
  rule_cells (fun i hi k u hu => by have := h i hi k u hu; rw [hB.cell (World.block_lt_of_cell? _ _ this)]; exact this) k hk

theorem all_step {Q : Nat → Prop} {k : Nat} (h : ∀ j < k, Q j) (hk : Q k) : ∀ j < k + 1, Q j := by
  intro j hj
  rcases Nat.lt_succ_iff_lt_or_eq.1 hj with h1 | h1
  · exact h j h1
  · exact h1 ▸ hk

theorem allB_true {n : Nat} {r : Nat → Rl} (h : ∀ j < n, ruleB (r j) = true) : allB n r = true := by
  simp only [allB, List.all_eq_true, List.mem_range]; exact h
theorem allB_false {n k : Nat} {r : Nat → Rl} (hk : k < n) (h : ruleB (r k) = false) : allB n r = false := by
  rw [Bool.eq_false_iff]; intro ha
  simp only [allB, List.all_eq_true, List.mem_range] at ha
  rw [ha k hk] at h; exact absurd h (by decide)

set_option maxHeartbeats 400000 in
theorem index_any (ao : Option Addr) (n cap : Nat) (r : Nat → Rl) (w : World) (h : RsAt w (.slice ao n cap) n r) :
    Calls Try.prog 29 #[.slice ao n cap, .func (.func 27) #[] #[]] w fun e w' =>
      ∃ k : Int, e = .returned (.int .i64 k) ∧ decide (0 ≤ k) = !allB n r ∧ Below w.heap.size w w' := by
  obtain ⟨⟨ao', cap', hv, hn, hc, hcell⟩, _⟩ := h
  obtain ⟨rfl, _, rfl⟩ : ao = ao' ∧ n = n ∧ cap = cap' := by simpa using hv
  unfold maxLen at hc
  clear hv
  go_enter Try.func29, Try.ntmps29
  go_wp2_with fail
  go_loopw [8] (fun i wr => ∃ k : Nat, k ≤ n ∧ i = .int .i64 k ∧ (∀ j < k, ruleB (r j) = true) ∧ Below w.heap.size w wr) (fun i _ => n - (intOf i).toNat)
  case atStart => exact ⟨0, Nat.zero_le _, rfl, fun j hj => by omega, Below.refl _ _⟩
  case round =>
    obtain ⟨k, hk, rfl, hall, hB⟩ := hrel
    by_cases hlt : k < n
    · obtain ⟨b, o, hao, hcs⟩ := hcell (by omega)
      subst hao
      obtain ⟨c0, c1, c2, c3, c4⟩ := rule_cells' hB hcs k hlt
      clear hcs hcell
      have hall' : Hid (∀ j < k, ruleB (r j) = true) := hall
      clear hall
      go_wp2_with (go_at_call 27; refine (clos_any _ _ _ _ _ _).mono ?_; rintro e w' ⟨rfl, hb⟩)
      · go_ret
        have h0 : (!ruleB (r k)) = true := by assumption
        have hf : ruleB (r k) = false := by simpa using h0
        exact ⟨k, rfl, by rw [allB_false hlt hf]; simp, hB.trans (hb.mono hB.size)⟩
      · have h0 : (!ruleB (r k)) = false := by assumption
        have ht : ruleB (r k) = true := by simpa using h0
        go_roundw
        case rel => exact ⟨k + 1, by omega, by go_num, all_step hall'.out ht, hB.trans (hb.mono hB.size)⟩
        case measure => simp [intOf]; omega
    · have : k = n := by omega
      subst this
      have ht := allB_true hall
      go_wp2
      go_ret
      exact ⟨-1, rfl, by rw [ht]; simp, hB⟩

set_option maxHeartbeats 400000 in
theorem contains_any (ao : Option Addr) (n cap : Nat) (r : Nat → Rl) (w : World) (h : RsAt w (.slice ao n cap) n r) :
    Calls Try.prog 26 #[.slice ao n cap, .func (.func 27) #[] #[]] w fun e w' =>
      e = .returned (.bool (!allB n r)) ∧ Below w.heap.size w w' := by
  go_enter Try.func26, Try.ntmps26
  have H : Hid (RsAt w (.slice ao n cap) n r) := h
  clear h
  go_wp2_with fail
  refine (index_any _ _ _ r _ H.out).mono ?_
  rintro e w' ⟨k, rfl, hk, hB⟩
  have HK : Hid (decide (0 ≤ k) = !allB n r) := hk
  clear hk
  go_wp2
  go_ret
  exact ⟨by rw [← HK.out]; rfl, hB⟩

set_option maxHeartbeats 400000 in
theorem filterMayBe_any (ao : Option Addr) (n cap : Nat) (r : Nat → Rl) (w : World) (h : RsAt w (.slice ao n cap) n r) :
    Calls Try.prog 25 #[.slice ao n cap] w fun e w' => e = .returned (.bool (fltB n r)) ∧ Below w.heap.size w w' := by
  have H : Hid (RsAt w (.slice ao n cap) n r) := h
  have hc : n ≤ 9223372036854775807 := by obtain ⟨⟨ao', cap', hv, hn, hc, hcell⟩, _⟩ := h; unfold maxLen at hc; omega
  clear h
  by_cases h8 : n ≤ 8
  · go_enter Try.func25, Try.ntmps25
    go_wp2_with fail
    refine (contains_any _ _ _ r _ H.out).mono ?_
    rintro e w' ⟨rfl, hB⟩
    go_wp2
    go_ret
    exact ⟨by simp [fltB, h8], hB⟩
  · go_enter Try.func25, Try.ntmps25
    go_wp2_with fail
    go_ret
    exact ⟨by simp [fltB, h8], Below.refl _ _⟩

end Go.Proofs.Ytmgcndpcbpkjaaa
