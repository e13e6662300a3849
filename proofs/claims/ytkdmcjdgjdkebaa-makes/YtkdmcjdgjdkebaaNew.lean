/- config.Copy and waypost.New. -/
import Derived.Test.YtkdmcjdgjdkebaaCopy
import Derived.RegionTactic
import Derived.BigRegion
import Derived.Deep.RegionWith
namespace Go.Proofs.Ytkdmcjdgjdkebaa
open Go.RowKit
set_option linter.unusedSimpArgs false
set_option linter.unusedVariables false

/-- What is still to be cloned of own peers: their two filters, from k on. -/
def Rest (w : World) (g n k : Nat) (P : Nat → Pr) : Prop :=
  ∀ i, k ≤ i → i < n → w.cell? ⟨g, i * 7 + 5, none⟩ = some (P i).im ∧ w.cell? ⟨g, i * 7 + 6, none⟩ = some (P i).ex

theorem Rest.below {w w' : World} {g n k : Nat} {P : Nat → Pr} (h : Rest w g n k P) (hB : Below w.heap.size w w') : Rest w' g n k P := by
  intro i h1 h2
  obtain ⟨a, b⟩ := h i h1 h2
  exact ⟨(hB.cell (World.block_lt_of_cell? _ _ a)).trans a, (hB.cell (World.block_lt_of_cell? _ _ b)).trans b⟩

theorem Rest.stored {w : World} {g n k j : Nat} {P : Nat → Pr} (h : Rest w g n k P) (hj : k < n → j < k * 7 + 7) (hk : k < n → k * 7 ≤ j) (v : Value) : Rest (w.setCell ⟨g, j, none⟩ v) g n (k + 1) P := by
  intro i h1 h2
  obtain ⟨a, b⟩ := h i (by omega) h2
  have := hj (by omega)
  have := hk (by omega)
  exact ⟨(World.cell?_setCell_other _ _ _ _ (by first | omega | (simp only [World.size_alloc, World.size_setCell, World.size_drew]; omega) | simp)).trans a, (World.cell?_setCell_other _ _ _ _ (by first | omega | (simp only [World.size_alloc, World.size_setCell, World.size_drew]; omega) | simp)).trans b⟩

set_option maxHeartbeats 1000000 in
theorem copy_any (au id nh : Int) (ao : Option Addr) (n cap : Nat) (P : Nat → Pr) (w : World) (h : PsAt w (.slice ao n cap) n P) (h8 : n ≤ 8)
    (hr : ∀ i < n, (P i).ni ≤ 8 ∧ (P i).ne ≤ 8) :
    Calls Try.prog 13 #[.agg #[.int .i64 au, .int .u32 id, .int .u32 nh, .slice ao n cap]] w fun e w' =>
      ∃ ao' cap', e = .returned (.agg #[.int .i64 au, .int .u32 id, .int .u32 nh, .slice ao' n cap']) ∧ Below w.heap.size w w' := by
  have H : Hid (PsAt w (.slice ao n cap) n P) := h
  have Hr : Hid (∀ i < n, (P i).ni ≤ 8 ∧ (P i).ne ≤ 8) := hr
  clear h hr
  go_enter Try.func13, Try.ntmps13
  go_wp2_with fail
  refine (clonePeers_any _ _ _ P _ (H.out.cell (((Below.refl _ _).alloc (Nat.le_refl _) _).alloc (by simp) _)) h8).mono ?_
  rintro e w1 ⟨v', rfl, hown, hB⟩
  have hB0 : Below w.heap.size w w1 := (((Below.refl _ _).alloc (Nat.le_refl _) _).alloc (by simp) _).trans (hB.mono (by simp only [World.size_alloc]; omega))
  have hz : w.heap.size + 1 < w1.heap.size := by have := hB.size; simp only [World.size_alloc] at this; omega
  have hbx : w1.heap[w.heap.size]? = some (.cells #[.int .i64 au, .int .u32 id, .int .u32 nh, .slice ao n cap] 25) := by
    rw [hB.block _ (by simp only [World.size_alloc]; omega)]; exact heap_alloc2_old _ _ _
  have hby : w1.heap[w.heap.size + 1]? = some (.cells #[.int .i64 0, .int .u32 0, .int .u32 0, .slice none 0 0] 25) := by
    rw [hB.block _ (by simp only [World.size_alloc]; omega)]; exact heap_alloc2_new _ _ _
  have hex : ∃ ao' cap', v' = .slice ao' n cap' := by
    rcases hown with ⟨rfl, rfl⟩ | ⟨g, c, rfl, _⟩
    · exact ⟨none, 0, rfl⟩
    · exact ⟨_, _, rfl⟩
  obtain ⟨ao', cap', rfl⟩ := hex
  simp only [World.size_alloc] at hown
  have Hown : Hid (OwnPs (w.heap.size + 1 + 1) w1 (.slice ao' n cap') n (fun i => (P i).cells)) := hown
  have fx : ∀ o, w1.frozen? ⟨w.heap.size, o, none⟩ = false := fun o => frozen_of_row _ _ _ _ _ hbx
  have cx0 : w1.cell? ⟨w.heap.size, 0, none⟩ = some (.int .i64 au) := cell_of_row _ _ _ _ _ _ hbx
  have cx1 : w1.cell? ⟨w.heap.size, 1, none⟩ = some (.int .u32 id) := cell_of_row _ _ _ _ _ _ hbx
  have cx2 : w1.cell? ⟨w.heap.size, 2, none⟩ = some (.int .u32 nh) := cell_of_row _ _ _ _ _ _ hbx
  have cx3 : w1.cell? ⟨w.heap.size, 3, none⟩ = some (.slice ao n cap) := cell_of_row _ _ _ _ _ _ hbx
  clear hown hB
  go_wp2_with fail
  go_loopw [12] (fun i wr => ∃ k : Nat, k ≤ n ∧ i = .int .i64 k ∧ Below w.heap.size w wr ∧ Below (w.heap.size + 2) (w1.setCell ⟨w.heap.size, 3, none⟩ (.slice ao' n cap')) wr ∧
      (∀ g, ao' = some ⟨g, 0, none⟩ → (∀ off, wr.frozen? ⟨g, off, none⟩ = false) ∧ Rest wr g n k P)) (fun i _ => n - (intOf i).toNat)
  case atStart =>
    refine ⟨0, Nat.zero_le _, rfl, hB0.setCell (by simp) _, Below.refl _ _, fun g hg => ?_⟩
    rcases Hown.out with ⟨he, h0⟩ | ⟨g', c, he, _, _, hbg, hgl, hfz, hcs⟩
    · simp at he; rw [he.1] at hg; cases hg
    · simp at he
      rw [he.1] at hg
      obtain rfl : g' = g := by simpa using hg
      refine ⟨fun off => (World.frozen?_setCell _ _ _ _).trans (hfz off), fun i _ h2 => ?_⟩
      exact ⟨(World.cell?_setCell_other _ _ _ _ (by first | omega | (simp only [World.size_alloc, World.size_setCell, World.size_drew]; omega) | simp)).trans (hcs i h2 5 _ rfl), (World.cell?_setCell_other _ _ _ _ (by first | omega | (simp only [World.size_alloc, World.size_setCell, World.size_drew]; omega) | simp)).trans (hcs i h2 6 _ rfl)⟩
  case round =>
    obtain ⟨k, hk, rfl, hBr, hBs, hrest⟩ := hrel
    have dx3 : wr.cell? ⟨w.heap.size, 3, none⟩ = some (.slice ao' n cap') := (hBs.cell (by first | omega | (simp only [World.size_alloc, World.size_setCell, World.size_drew]; omega) | simp)).trans (World.cell?_setCell_same _ _ _ cx3)
    have dx0 : wr.cell? ⟨w.heap.size, 0, none⟩ = some (.int .i64 au) := (hBs.cell (by first | omega | (simp only [World.size_alloc, World.size_setCell, World.size_drew]; omega) | simp)).trans ((World.cell?_setCell_other _ _ _ _ (by simp)).trans cx0)
    have dx1 : wr.cell? ⟨w.heap.size, 1, none⟩ = some (.int .u32 id) := (hBs.cell (by first | omega | (simp only [World.size_alloc, World.size_setCell, World.size_drew]; omega) | simp)).trans ((World.cell?_setCell_other _ _ _ _ (by simp)).trans cx1)
    have dx2 : wr.cell? ⟨w.heap.size, 2, none⟩ = some (.int .u32 nh) := (hBs.cell (by first | omega | (simp only [World.size_alloc, World.size_setCell, World.size_drew]; omega) | simp)).trans ((World.cell?_setCell_other _ _ _ _ (by simp)).trans cx2)
    have hsz : (w1.setCell ⟨w.heap.size, 3, none⟩ (.slice ao' n cap')).heap.size = w1.heap.size := World.size_setCell _ _ _
    have hzr : w.heap.size + 1 < wr.heap.size := by have := hBs.size; omega
    clear cx0 cx1 cx2 cx3
    by_cases hlt : k < n
    · obtain ⟨g, hao, hbg⟩ : ∃ g, ao' = some ⟨g, 0, none⟩ ∧ w.heap.size + 1 + 1 ≤ g := by
        rcases Hown.out with ⟨he, h0⟩ | ⟨g', c, he, _, _, hbg, hgl, hfz, hcs⟩
        · omega
        · simp at he; exact ⟨g', he.1, hbg⟩
      subst hao
      obtain ⟨hfz, hre⟩ := hrest g rfl
      have hrs := H.out.2
      obtain ⟨hri, hrx⟩ := hrs k hlt
      obtain ⟨ai, ci, ei⟩ := hri.isSlice
      obtain ⟨ae, ce, ee⟩ := hrx.isSlice
      obtain ⟨c5, c6⟩ := hre k (Nat.le_refl _) hlt
      obtain ⟨hn1, hn2⟩ := Hr.out k hlt
      rw [ei] at hri c5
      rw [ee] at hrx c6
      have hgl : g < wr.heap.size := World.block_lt_of_cell? _ _ c5
      have Hri : Hid (RsAt w (.slice ai (P k).ni ci) (P k).ni (P k).ir) := hri
      have Hrx : Hid (RsAt w (.slice ae (P k).ne ce) (P k).ne (P k).er) := hrx
      have Hre : Hid (Rest wr g n k P) := hre
      have Hb : Hid (w.heap.size + 1 + 1 ≤ g) := hbg
      have f5 := hfz (k * 7 + 5)
      have f6 := hfz (k * 7 + 6)
      have Hfz : Hid (∀ off, wr.frozen? ⟨g, off, none⟩ = false) := hfz
      clear hrest hrs hri hrx ei ee hfz hre
      have hcap : n ≤ cap' := by
        rcases Hown.out with ⟨he, h0⟩ | ⟨g', c, he, hnc, _⟩
        · omega
        · simp at he; omega
      go_wp2_with fail
      refine (cloneRules_any _ _ _ (P k).ir _ (Hri.out.cell hBr) hn1).mono ?_
      rintro e w2 ⟨ao2, cap2, rfl, hB2⟩
      have d5 := (hB2.cell (p := ⟨g, k * 7 + 5, none⟩) hgl).trans c5
      have d6 := (hB2.cell (p := ⟨g, k * 7 + 6, none⟩) hgl).trans c6
      have e5 := (hB2.frozen (p := ⟨g, k * 7 + 5, none⟩) hgl).trans f5
      have e6 := (hB2.frozen (p := ⟨g, k * 7 + 6, none⟩) hgl).trans f6
      clear c5 c6 f5 f6
      go_wp2_with fail
      have hBa : Below w.heap.size w (w2.setCell ⟨g, k * 7 + 5, none⟩ (.slice ao2 (P k).ni cap2)) := (hBr.trans (hB2.mono hBr.size)).setCell (by first | omega | (simp only [World.size_alloc, World.size_setCell, World.size_drew]; omega) | simp) _
      refine (cloneRules_any _ _ _ (P k).er _ (Hrx.out.cell hBa) hn2).mono ?_
      rintro e w3 ⟨ao3, cap3, rfl, hB3⟩
      have hz3 : (w2.setCell ⟨g, k * 7 + 5, none⟩ (.slice ao2 (P k).ni cap2)).heap.size = w2.heap.size := World.size_setCell _ _ _
      have hgl2 : g < w2.heap.size := World.block_lt_of_cell? _ _ d6
      have g6 := (hB3.cell (p := ⟨g, k * 7 + 6, none⟩) (by rw [hz3]; exact hgl2)).trans ((World.cell?_setCell_other _ _ _ _ (by simp)).trans d6)
      have h6 := (hB3.frozen (p := ⟨g, k * 7 + 6, none⟩) (by rw [hz3]; exact hgl2)).trans ((World.frozen?_setCell _ _ _ _).trans e6)
      have hfin : ∀ g', (some ⟨g, 0, none⟩ : Option Addr) = some ⟨g', 0, none⟩ → (∀ off, (w3.setCell ⟨g, k * 7 + 6, none⟩ (.slice ao3 (P k).ne cap3)).frozen? ⟨g', off, none⟩ = false) ∧ Rest (w3.setCell ⟨g, k * 7 + 6, none⟩ (.slice ao3 (P k).ne cap3)) g' n (k + 1) P := by
        intro g' hg'
        obtain rfl : g = g' := by simpa using hg'
        refine ⟨fun off => ?_, ?_⟩
        · rw [World.frozen?_setCell, hB3.frozen (by rw [hz3]; exact hgl2), World.frozen?_setCell, hB2.frozen hgl]; exact Hfz.out off
        · have r2 : Rest w2 g n k P := Hre.out.below hB2
          have r3 : Rest (w2.setCell ⟨g, k * 7 + 5, none⟩ (.slice ao2 (P k).ni cap2)) g n (k + 1) P := r2.stored (by omega) (by omega) _
          have r4 : Rest w3 g n (k + 1) P := r3.below hB3
          intro i h1 h2
          obtain ⟨a, b⟩ := r4 i h1 h2
          exact ⟨(World.cell?_setCell_other _ _ _ _ (by first | omega | (simp only [World.size_alloc, World.size_setCell, World.size_drew]; omega) | simp)).trans a, (World.cell?_setCell_other _ _ _ _ (by first | omega | (simp only [World.size_alloc, World.size_setCell, World.size_drew]; omega) | simp)).trans b⟩
      have Hfin : Hid (∀ g', (some ⟨g, 0, none⟩ : Option Addr) = some ⟨g', 0, none⟩ → (∀ off, (w3.setCell ⟨g, k * 7 + 6, none⟩ (.slice ao3 (P k).ne cap3)).frozen? ⟨g', off, none⟩ = false) ∧ Rest (w3.setCell ⟨g, k * 7 + 6, none⟩ (.slice ao3 (P k).ne cap3)) g' n (k + 1) P) := hfin
      have hB4 : Below w.heap.size w (w3.setCell ⟨g, k * 7 + 6, none⟩ (.slice ao3 (P k).ne cap3)) := (hBa.trans (hB3.mono hBa.size)).setCell (by first | omega | (simp only [World.size_alloc, World.size_setCell, World.size_drew]; omega) | simp) _
      have hB5 : Below (w.heap.size + 2) wr (w3.setCell ⟨g, k * 7 + 6, none⟩ (.slice ao3 (P k).ne cap3)) :=
        (((hB2.mono (by omega)).setCell (by first | omega | (simp only [World.size_alloc, World.size_setCell, World.size_drew]; omega) | simp) _).trans (hB3.mono (by rw [hz3]; omega))).setCell (by first | omega | (simp only [World.size_alloc, World.size_setCell, World.size_drew]; omega) | simp) _
      clear hfin d5 d6 e5 e6 hz3
      go_wp2_with fail
      go_roundw
      case rel => exact ⟨k + 1, by omega, by go_num, hB4, hBs.trans hB5, Hfin.out⟩
      case measure => simp [intOf]; omega
    · have ey : ∀ o, wr.frozen? ⟨w.heap.size + 1, o, none⟩ = false := fun o => (hBs.frozen (by first | omega | (simp only [World.size_alloc, World.size_setCell, World.size_drew]; omega) | simp)).trans ((World.frozen?_setCell _ _ _ _).trans (frozen_of_row _ _ _ _ _ hby))
      have cy : ∀ o, wr.cell? ⟨w.heap.size + 1, o, none⟩ = #[Value.int .i64 0, .int .u32 0, .int .u32 0, .slice none 0 0][o]? := fun o => (hBs.cell (by first | omega | (simp only [World.size_alloc, World.size_setCell, World.size_drew]; omega) | simp)).trans ((World.cell?_setCell_other _ _ _ _ (by simp)).trans (cell_of_row _ _ _ _ _ _ hby))
      have cy0 := cy 0
      have cy1 := cy 1
      have cy2 := cy 2
      have cy3 := cy 3
      have ey0 := ey 0
      have ey1 := ey 1
      have ey2 := ey 2
      have ey3 := ey 3
      clear ey cy hrest
      go_wp2_with fail
      refine bodyPost_ret (v := .agg #[.int .i64 au, .int .u32 id, .int .u32 nh, .slice ao' n cap']) (by simp [results, Try.results13, go_sem, *]) rfl ⟨ao', cap', rfl, (((hBr.setCell (by simp) _).setCell (by simp) _).setCell (by simp) _).setCell (by simp) _⟩

theorem fault_zero {au id : Int} {n : Nat} {P : Nat → Pr} (h : (faultOf au id n P).1 = 0) : spkB au id n = true ∧ (∀ i < n, peerB (P i) = true) := by
  unfold faultOf at h
  split at h
  · rename_i hs
    refine ⟨hs, ?_⟩
    split at h
    · rename_i hf
      intro i hi
      cases hp : peerB (P i)
      · exfalso
        have : ∀ d, d ≤ i → (∀ j, j < d → peerB (P j) = true) := by
          intro d
          induction d with
          | zero => intro _ j hj; omega
          | succ d ih =>
            intro hd j hj
            rcases Nat.lt_succ_iff_lt_or_eq.1 hj with h1 | h1
            · exact ih (by omega) j h1
            · subst h1
              cases hq : peerB (P j)
              · have := firstBad_at n 0 j (by omega) (fun x _ h2 => ih (by omega) x (by omega)) (by rw [Nat.zero_add]; exact hq); omega
              · rfl
        have := firstBad_at n 0 i hi (fun x _ h2 => this i (Nat.le_refl _) x (by omega)) (by rw [Nat.zero_add]; exact hp); omega
      · rfl
    · simp at h
  · simp at h

theorem fault_one {au id : Int} {n : Nat} {P : Nat → Pr} : (faultOf au id n P).1 = 0 ∧ (faultOf au id n P).2 = 0 ∨ (faultOf au id n P).1 = 1 := by
  unfold faultOf
  split
  · split
    · exact .inl ⟨rfl, rfl⟩
    · exact .inr rfl
  · exact .inr rfl

theorem Try.infoInt : (Try.prog.info? 3).map (fun i => (i.zero, i.size, i.bytes)) = some (some (.int .i64 0), 1, 8) := by kernel_rfl

set_option maxHeartbeats 1000000 in
theorem new_any (au id nh : Int) (ao : Option Addr) (n cap : Nat) (P : Nat → Pr) (w : World) (h : PsAt w (.slice ao n cap) n P) :
    Calls Try.prog 6 #[.agg #[.int .i64 au, .int .u32 id, .int .u32 nh, .slice ao n cap]] w fun e w' =>
      ∃ p, e = .returned (.tuple #[.pointer p, .agg #[.int .i64 (faultOf au id n P).1, .int .i64 (faultOf au id n P).2]]) ∧ (p = none ↔ (faultOf au id n P).1 ≠ 0) ∧ Below w.heap.size w w' := by
  have H : Hid (PsAt w (.slice ao n cap) n P) := h
  clear h
  go_enter Try.func6, Try.ntmps6
  go_wp2_with fail
  refine (check_any _ _ _ _ _ _ P _ (H.out.cell (((Below.refl _ _).alloc (Nat.le_refl _) _).alloc (by simp) _))).mono ?_
  rintro e w1 ⟨rfl, hB⟩
  have hB0 : Below w.heap.size w w1 := (((Below.refl _ _).alloc (Nat.le_refl _) _).alloc (by simp) _).trans (hB.mono (by simp only [World.size_alloc]; omega))
  have hz : w.heap.size + 1 < w1.heap.size := by have := hB.size; simp only [World.size_alloc] at this; omega
  have hbx : w1.heap[w.heap.size]? = some (.cells #[.int .i64 au, .int .u32 id, .int .u32 nh, .slice ao n cap] 25) := by
    rw [hB.block _ (by simp only [World.size_alloc]; omega)]; exact heap_alloc2_old _ _ _
  have hby : w1.heap[w.heap.size + 1]? = some (.cells #[.int .i64 0, .int .i64 0] 38) := by
    rw [hB.block _ (by simp only [World.size_alloc]; omega)]; exact heap_alloc2_new _ _ _
  have cx0 : w1.cell? ⟨w.heap.size, 0, none⟩ = some (.int .i64 au) := cell_of_row _ _ _ _ _ _ hbx
  have cx1 : w1.cell? ⟨w.heap.size, 1, none⟩ = some (.int .u32 id) := cell_of_row _ _ _ _ _ _ hbx
  have cx2 : w1.cell? ⟨w.heap.size, 2, none⟩ = some (.int .u32 nh) := cell_of_row _ _ _ _ _ _ hbx
  have cx3 : w1.cell? ⟨w.heap.size, 3, none⟩ = some (.slice ao n cap) := cell_of_row _ _ _ _ _ _ hbx
  have cy0 : w1.cell? ⟨w.heap.size + 1, 0, none⟩ = some (.int .i64 0) := cell_of_row _ _ _ _ _ _ hby
  have cy1 : w1.cell? ⟨w.heap.size + 1, 1, none⟩ = some (.int .i64 0) := cell_of_row _ _ _ _ _ _ hby
  have ey0 : w1.frozen? ⟨w.heap.size + 1, 0, none⟩ = false := frozen_of_row _ _ _ _ _ hby
  have ey1 : w1.frozen? ⟨w.heap.size + 1, 1, none⟩ = false := frozen_of_row _ _ _ _ _ hby
  clear hB hbx hby
  rcases fault_one (au := au) (id := id) (n := n) (P := P) with ⟨h1, h2⟩ | h1
  · have hfz := fault_zero h1
    rw [h1, h2]
    have Hf : Hid (spkB au id n = true ∧ (∀ i < n, peerB (P i) = true)) := hfz
    have H1 : Hid ((faultOf au id n P).1 = 0) := h1
    have H2 : Hid ((faultOf au id n P).2 = 0) := h2
    clear h1 h2 hfz
    obtain ⟨i0, hi, hz0, hz1, hz2⟩ := info_parts Try.infoInt
    have h8 : n ≤ 8 := by have := Hf.out.1; simp [spkB] at this; omega
    obtain ⟨MK, hMK⟩ : ∃ MK, MK = madeCells (Value.int .i64 0).cells (n * i0.size) := ⟨_, rfl⟩
    have hmk : ∀ wx, Sem.run Try.prog (Instr.makeSlice 54 (.int .i64 (n : Int)) (.int .i64 (n : Int))) wx = .ok (.slice (some ⟨wx.heap.size, 0, none⟩) n n) (wx.alloc (.cells MK 3)) := by
      intro wx
      rw [run_make wx 54 3 i0 (.int .i64 0) Try.underlying54 hi hz0 .i64 .i64 n n (by omega) (Int.le_refl _) (by rw [hz2]; omega) (by omega), Int.toNat_natCast, ← hMK]
    clear hMK hi hz0 hz1 hz2
    have Hr : Hid (∀ i < n, (P i).ni ≤ 8 ∧ (P i).ne ≤ 8) := by
      intro i hi
      have := Hf.out.2 i hi
      simp [peerB, fltB] at this
      omega
    have h9 : n ≤ 9223372036854775807 := by omega
    have hz0 : w.heap.size < w1.heap.size := by omega
    go_wp2_with fail
    go_region_with (go_at_call 13; go_loud (refine (copy_any _ _ _ _ _ _ P _ (PsAt.cell H.out (by repeat (first | exact hB0 | refine Below.drew ?_ | refine Below.alloc ?_ (by first | omega | (simp only [World.size_alloc, World.size_setCell, World.size_drew]; omega) | simp) _))) h8 Hr.out).mono ?_); go_loud (rintro e w2 ⟨ao2, cap2, rfl, hB2⟩); go_loud (have hBW : Below w1.heap.size w1 w2 := Below.trans (by repeat (first | exact Below.refl _ _ | refine Below.drew ?_ | refine Below.alloc ?_ (by first | omega | (simp only [World.size_alloc, World.size_setCell, World.size_drew]; omega) | simp) _)) (hB2.mono (by first | omega | (simp only [World.size_alloc, World.size_setCell, World.size_drew]; omega) | simp))); go_loud (have hz2 : w.heap.size + 1 < w2.heap.size := Nat.lt_of_lt_of_le hz hBW.size); go_loud (have hz20 : w.heap.size < w2.heap.size := by omega); go_loud (have kx3 := (hBW.cell (p := ⟨w.heap.size, 3, none⟩) (by first | omega | (simp only [World.size_alloc, World.size_setCell, World.size_drew]; omega) | simp)).trans cx3); go_loud (have ky0 := (hBW.cell (p := ⟨w.heap.size + 1, 0, none⟩) (by first | omega | (simp only [World.size_alloc, World.size_setCell, World.size_drew]; omega) | simp)).trans cy0); go_loud (have ky1 := (hBW.cell (p := ⟨w.heap.size + 1, 1, none⟩) (by first | omega | (simp only [World.size_alloc, World.size_setCell, World.size_drew]; omega) | simp)).trans cy1); go_loud (have ke0 := (hBW.frozen (p := ⟨w.heap.size + 1, 0, none⟩) (by first | omega | (simp only [World.size_alloc, World.size_setCell, World.size_drew]; omega) | simp)).trans ey0); go_loud (have ke1 := (hBW.frozen (p := ⟨w.heap.size + 1, 1, none⟩) (by first | omega | (simp only [World.size_alloc, World.size_setCell, World.size_drew]; omega) | simp)).trans ey1); go_loud (clear hB2))
    all_goals go_wp2_with fail
    all_goals refine bodyPost_ret (v := .tuple #[.pointer (some _), .agg #[.int .i64 0, .int .i64 0]]) (by simp [results, Try.results6, go_sem, *] <;> rfl) rfl ⟨some _, by rw [H1.out, H2.out], by simp [H1.out], ?_⟩
    all_goals (repeat (first | exact hB0.trans (hBW.mono hB0.size) | refine Below.drew ?_ | refine Below.setCell ?_ (by first | omega | simp) _ | refine Below.alloc ?_ (by first | omega | (simp only [World.size_alloc, World.size_setCell, World.size_drew]; omega) | simp) _))
  · rw [h1]
    obtain ⟨q, hq⟩ : ∃ q, (faultOf au id n P).2 = q := ⟨_, rfl⟩
    rw [hq]
    have H1 : Hid ((faultOf au id n P).1 = 1) := h1
    have H2 : Hid ((faultOf au id n P).2 = q) := hq
    clear h1 hq
    go_wp2_with fail
    go_region
    all_goals go_wp2_with fail
    all_goals exact bodyPost_ret (v := .tuple #[.pointer none, .agg #[.int .i64 1, .int .i64 q]]) (by simp [results, Try.results6, go_sem, *]) rfl ⟨none, by rw [H1.out, H2.out], by simp [H1.out], by
      repeat (first | exact hB0 | refine Below.drew ?_ | refine Below.setCell ?_ (by first | omega | (simp only [World.size_alloc, World.size_setCell, World.size_drew]; omega) | simp) _ | refine Below.alloc ?_ (by first | omega | (simp only [World.size_alloc, World.size_setCell, World.size_drew]; omega) | simp) _)⟩

end Go.Proofs.Ytkdmcjdgjdkebaa
