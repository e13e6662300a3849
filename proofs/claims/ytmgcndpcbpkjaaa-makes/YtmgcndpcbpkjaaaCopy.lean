/- Copies of a configuration. -/
import Derived.Test.YtmgcndpcbpkjaaaCheck
import Derived.Lib.SliceRun
namespace Go.Proofs.Ytmgcndpcbpkjaaa
open Go.RowKit
set_option linter.unusedSimpArgs false
set_option linter.unusedVariables false

/-- The cells of n elements, one behind the other. -/
def flat (c : Nat → List Value) : Nat → List Value
  | 0 => []
  | n + 1 => flat c n ++ c n

theorem flat_length {c : Nat → List Value} {size : Nat} : ∀ n, (∀ i < n, (c i).length = size) → (flat c n).length = n * size := by
  intro n
  induction n with
  | zero => intro _; simp [flat]
  | succ n ih => intro h; simp only [flat, List.length_append, ih (fun i hi => h i (by omega)), h n (by omega), Nat.succ_mul]

theorem flat_mem {c : Nat → List Value} {u : Value} : ∀ n, u ∈ flat c n → ∃ i < n, u ∈ c i := by
  intro n
  induction n with
  | zero => intro h; simp [flat] at h
  | succ n ih =>
    intro h
    rcases List.mem_append.1 h with h1 | h1
    · obtain ⟨i, hi, hu⟩ := ih h1; exact ⟨i, by omega, hu⟩
    · exact ⟨n, by omega, h1⟩

theorem flat_get {c : Nat → List Value} {size : Nat} : ∀ n, (∀ i < n, (c i).length = size) → ∀ i < n, ∀ k < size, (flat c n)[i * size + k]? = (c i)[k]? := by
  intro n
  induction n with
  | zero => intro _ i hi; omega
  | succ n ih =>
    intro h i hi k hk
    have hl := flat_length n (fun i hi => h i (by omega))
    simp only [flat]
    rcases Nat.lt_succ_iff_lt_or_eq.1 hi with h1 | h1
    · rw [List.getElem?_append_left, ih (fun i hi => h i (by omega)) i h1 k hk]
      rw [hl]
      have : (i + 1) * size ≤ n * size := Nat.mul_le_mul_right _ h1
      rw [Nat.succ_mul] at this; omega
    · subst h1
      rw [List.getElem?_append_right (by rw [hl]; omega), hl]
      congr 1; omega

/-- Each cell of the list lies where the elements' cells lie. -/
theorem flat_cells {w : World} {b o n size : Nat} {c : Nat → List Value} (hs : 0 < size) (hl : ∀ i < n, (c i).length = size)
    (h : ∀ i < n, ∀ k u, (c i)[k]? = some u → w.cell? ⟨b, o + i * size + k, none⟩ = some u) :
    ∀ (j : Nat) (u : Value), (flat c n)[j]? = some u → w.cell? ((⟨b, o, none⟩ : Addr).add j) = some u := by
  intro j u hu
  have hj : j < n * size := by rw [← flat_length n hl]; exact (List.getElem?_eq_some_iff.1 hu).1
  have hi : j / size < n := by rw [Nat.div_lt_iff_lt_mul hs]; exact hj
  have hk : j % size < size := Nat.mod_lt _ hs
  have hd : j / size * size + j % size = j := by rw [Nat.mul_comm]; exact Nat.div_add_mod j size
  rw [← hd, flat_get n hl _ hi _ hk] at hu
  have := h _ hi _ _ hu
  rw [show o + j / size * size + j % size = o + j by omega] at this
  by_cases h0 : j = 0
  · subst h0; simpa [Addr.add] using this
  · simpa [Addr.add, h0] using this

theorem Try.infoRule : (Try.prog.info? 50).map (fun i => (i.zero, i.size, i.bytes)) = some (some (.agg #[.bool false, .int .u32 0, .int .i64 0, .int .i64 0, .int .i64 0]), 5, 32) := by kernel_rfl
theorem Try.infoPeer : (Try.prog.info? 34).map (fun i => (i.zero, i.size, i.bytes)) = some (some (.agg #[.int .i64 0, .int .i64 0, .int .i64 0, .int .i64 0, .int .i64 0, .slice none 0 0, .slice none 0 0]), 7, 88) := by kernel_rfl

set_option maxHeartbeats 400000 in
theorem cloneRules_any (ao : Option Addr) (n cap : Nat) (r : Nat → Rl) (w : World) (h : RsAt w (.slice ao n cap) n r) (h8 : n ≤ 8) :
    Calls Try.prog 20 #[.slice ao n cap] w fun e w' =>
      ∃ ao' cap', e = .returned (.slice ao' n cap') ∧ Below w.heap.size w w' := by
  obtain ⟨⟨ao', cap', hv, hn, hc, hcell⟩, _⟩ := h
  obtain ⟨rfl, _, rfl⟩ : ao = ao' ∧ n = n ∧ cap = cap' := by simpa using hv
  clear hv
  cases ao with
  | none =>
    have h0 : n = 0 := by
      rcases Nat.eq_zero_or_pos n with h0 | h0
      · exact h0
      · obtain ⟨b, o, hh, _⟩ := hcell h0; cases hh
    subst h0
    have hq := fun w => Lib.run_eql_slice_nil (P := Try.prog) w 31 _ none 0 cap 0 0 Try.underlying31
    clear hcell
    go_enter Try.func20, Try.ntmps20
    go_wp2_with fail
    go_ret
    exact ⟨⟨none, 0, rfl⟩, Below.refl _ _⟩
  | some ad =>
    have hq := fun w => Lib.run_eql_slice_nil (P := Try.prog) w 31 _ (some ad) n cap 0 0 Try.underlying31
    obtain ⟨i0, hi, hz0, hz1, hz2⟩ := info_parts Try.infoRule
    have hl : (flat (fun i => (r i).cells) n).length = n * 5 := flat_length n (fun _ _ => rfl)
    have HN : Hid (∀ (j : Nat) (u : Value), (flat (fun i => (r i).cells) n)[j]? = some u → (w.alloc (.cells #[] 50)).cell? (ad.add j) = some u) := by
      intro j u hu
      rcases Nat.eq_zero_or_pos n with h0 | h0
      · subst h0; simp [flat] at hu
      · obtain ⟨b, o, hh, hcs⟩ := hcell h0
        obtain rfl : ad = ⟨b, o, none⟩ := by simpa using hh
        have := flat_cells (size := 5) (by decide) (fun _ _ => rfl) hcs j u hu
        rw [World.cell?_alloc_lt _ _ _ (World.block_lt_of_cell? _ _ this)]; exact this
    have H1 : Hid (∀ u ∈ flat (fun i => (r i).cells) n, u.oneCell' = true) := by
      intro u hu
      obtain ⟨i, _, hu⟩ := flat_mem n hu
      simp only [Rl.cells, List.mem_cons, List.not_mem_nil, or_false] at hu
      rcases hu with rfl | rfl | rfl | rfl | rfl <;> rfl
    have HL : Hid ((flat (fun i => (r i).cells) n).length = n * 5) := hl
    clear hl hcell
    go_enter Try.func20, Try.ntmps20
    go_wp2_with (at_builtin; go_loud (refine wpList_append_own _ rfl (.tmp 5) (.tmp 6) 31 rfl w.heap.size 50 i0 (.agg #[.bool false, .int .u32 0, .int .i64 0, .int .i64 0, .int .i64 0]) 5 32 Try.underlying31 hi hz0 hz1 hz2 rfl (by decide) _ 0 [] rfl (World.ownsRow_made w #[] 0 (Nat.le_refl _) (by decide) rfl) ad n cap (flat (fun i => (r i).cells) n) rfl HL.out HN.out H1.out (by unfold maxLen; omega) (by omega) (by simp) ?_); intro v' w1 hown hgrow _)
    rw [Nat.zero_add] at hown
    have hB : Below w.heap.size w w1 := ((Below.refl _ _).alloc (Nat.le_refl _) _).grown hgrow (by simp) (by intro k hk; simp [Value.ownBlock, Act.eval] at hk; omega)
    have hex : ∃ ao' cap', v' = .slice ao' n cap' := by
      rcases hown.2 with ⟨rfl, rfl⟩ | ⟨g, c, cur, rfl, _⟩
      · exact ⟨none, 0, rfl⟩
      · exact ⟨_, _, rfl⟩
    clear hown hgrow
    obtain ⟨ao', cap', rfl⟩ := hex
    go_ret
    exact ⟨⟨ao', cap', rfl⟩, hB⟩

/-- A slice of n peers in memory of the call's own. -/
def OwnPs (B : Nat) (w : World) (v : Value) (n : Nat) (c : Nat → List Value) : Prop :=
  (v = .slice none 0 0 ∧ n = 0) ∨ ∃ g cap, v = .slice (some ⟨g, 0, none⟩) n cap ∧ n ≤ cap ∧ cap ≤ maxLen ∧ B ≤ g ∧ g < w.heap.size ∧ (∀ off, w.frozen? ⟨g, off, none⟩ = false) ∧
    ∀ i < n, ∀ k u, (c i)[k]? = some u → w.cell? ⟨g, i * 7 + k, none⟩ = some u

set_option maxHeartbeats 400000 in
theorem clonePeers_any (ao : Option Addr) (n cap : Nat) (P : Nat → Pr) (w : World) (h : PsAt w (.slice ao n cap) n P) (h8 : n ≤ 8) :
    Calls Try.prog 19 #[.slice ao n cap] w fun e w' =>
      ∃ v', e = .returned v' ∧ OwnPs w.heap.size w' v' n (fun i => (P i).cells) ∧ Below w.heap.size w w' := by
  obtain ⟨⟨ao', cap', hv, hn, hc, hcell⟩, hrs⟩ := h
  obtain ⟨rfl, _, rfl⟩ : ao = ao' ∧ n = n ∧ cap = cap' := by simpa using hv
  clear hv
  cases ao with
  | none =>
    have h0 : n = 0 := by
      rcases Nat.eq_zero_or_pos n with h0 | h0
      · exact h0
      · obtain ⟨b, o, hh, _⟩ := hcell h0; cases hh
    subst h0
    have hq := fun w => Lib.run_eql_slice_nil (P := Try.prog) w 23 _ none 0 cap 0 0 Try.underlying23
    clear hcell hrs
    go_enter Try.func19, Try.ntmps19
    go_wp2_with fail
    go_ret
    exact ⟨_, rfl, .inl ⟨rfl, rfl⟩, Below.refl _ _⟩
  | some ad =>
    have hq := fun w => Lib.run_eql_slice_nil (P := Try.prog) w 23 _ (some ad) n cap 0 0 Try.underlying23
    obtain ⟨i0, hi, hz0, hz1, hz2⟩ := info_parts Try.infoPeer
    have HL : Hid ((flat (fun i => (P i).cells) n).length = n * 7) := flat_length n (fun _ _ => rfl)
    have HN : Hid (∀ (j : Nat) (u : Value), (flat (fun i => (P i).cells) n)[j]? = some u → (w.alloc (.cells #[] 34)).cell? (ad.add j) = some u) := by
      intro j u hu
      rcases Nat.eq_zero_or_pos n with h0 | h0
      · subst h0; simp [flat] at hu
      · obtain ⟨b, o, hh, hcs⟩ := hcell h0
        obtain rfl : ad = ⟨b, o, none⟩ := by simpa using hh
        have := flat_cells (size := 7) (by decide) (fun _ _ => rfl) hcs j u hu
        rw [World.cell?_alloc_lt _ _ _ (World.block_lt_of_cell? _ _ this)]; exact this
    have H1 : Hid (∀ u ∈ flat (fun i => (P i).cells) n, u.oneCell' = true) := by
      intro u hu
      obtain ⟨i, hin, hu⟩ := flat_mem n hu
      obtain ⟨_, _, e1⟩ := (hrs i hin).1.isSlice
      obtain ⟨_, _, e2⟩ := (hrs i hin).2.isSlice
      simp only [Pr.cells, List.mem_cons, List.not_mem_nil, or_false] at hu
      rcases hu with rfl | rfl | rfl | rfl | rfl | rfl | rfl
      · rfl
      · rfl
      · rfl
      · rfl
      · rfl
      · rw [e1]; rfl
      · rw [e2]; rfl
    clear hcell hrs
    go_enter Try.func19, Try.ntmps19
    go_wp2_with (at_builtin; go_loud (refine wpList_append_own _ rfl (.tmp 5) (.tmp 6) 23 rfl w.heap.size 34 i0 (.agg #[.int .i64 0, .int .i64 0, .int .i64 0, .int .i64 0, .int .i64 0, .slice none 0 0, .slice none 0 0]) 7 88 Try.underlying23 hi hz0 hz1 hz2 rfl (by decide) _ 0 [] rfl (World.ownsRow_made w #[] 0 (Nat.le_refl _) (by decide) rfl) ad n cap (flat (fun i => (P i).cells) n) rfl HL.out HN.out H1.out (by unfold maxLen; omega) (by omega) (by simp) ?_); intro v' w1 hown hgrow _)
    rw [Nat.zero_add] at hown
    have hB : Below w.heap.size w w1 := ((Below.refl _ _).alloc (Nat.le_refl _) _).grown hgrow (by simp) (by intro k hk; simp [Value.ownBlock, Act.eval] at hk; omega)
    have hex : OwnPs w.heap.size w1 v' n (fun i => (P i).cells) := by
      rcases hown.2 with ⟨rfl, rfl⟩ | ⟨g, c, cur, rfl, hbg, hcur, hnc, hcm, _, htk⟩
      · exact .inl ⟨rfl, rfl⟩
      · refine .inr ⟨g, c, rfl, hnc, hcm, hbg, (Array.getElem?_eq_some_iff.1 hcur).1, fun off => frozen_of_row _ _ _ _ _ hcur, fun i hin k u hu => ?_⟩
        have hk7 : k < 7 := (List.getElem?_eq_some_iff.1 hu).1
        have := flat_get n (size := 7) (c := fun i => (P i).cells) (fun _ _ => rfl) i hin k hk7
        rw [hu] at this
        rw [cell_of_row _ _ _ _ _ _ hcur]
        rw [List.nil_append] at htk
        rw [← htk] at this
        rw [List.getElem?_take] at this
        split at this
        · simpa using this
        · cases this
    clear hown hgrow
    go_ret
    exact ⟨v', rfl, hex, hB⟩

end Go.Proofs.Ytmgcndpcbpkjaaa
