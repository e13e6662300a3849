/- config.Copy and waypost.New. -/
import Derived.Test.YtmgcndpcbpkjaaaCopy
import Derived.RegionTactic
import Derived.BigRegion
import Derived.Deep.RegionWith
namespace Go.Proofs.Ytmgcndpcbpkjaaa
open Go.RowKit
set_option linter.unusedSimpArgs false
set_option linter.unusedVariables false

/-- What is still to be cloned of own peers: their two filters, from k on. -/
def Rest (w : World) (g n k : Nat) (P : Nat → Pr) : Prop :=
  ∀ i, k ≤ i → i < n → w.cell? ⟨g, i * 7 + 5, none⟩ = some (P i).im ∧ w.cell? ⟨g, i * 7 + 6, none⟩ = some (P i).ex

theorem Rest.below {w w' : World} {g n k : Nat} {P : Nat → Pr} (h : Rest w g n k P) (hB : Below w.heap.size w w') : Rest w' g n k P := by
  intro i h1 h2
  obtain ⟨a, b⟩ := h i h1 h2
  exact ⟨(hB.cell (World.block_lt_of_cell? _ _ a)).trans a, (hB.cell (World.block_lt_of_cell? _ _ b)).trans b⟩

theorem Rest.stored {w : World} {g n k j : Nat} {P : Nat → Pr} (h : Rest w g n k P) (hj : k < n → j < k * 7 + 7) (hk : k < n → k * 7 ≤ j) (v : Value) : Rest (w.setCell ⟨g, j, none⟩ v) g n (k + 1) P := by
  intro i h1 h2
  obtain ⟨a, b⟩ := h i (by omega) h2
  have := hj (by omega)
  have := hk (by omega)
  exact ⟨(World.cell?_setCell_other _ _ _ _ (by first | omega | (simp only [World.size_alloc, World.size_setCell, World.size_drew]; omega) | simp)).trans a, (World.cell?_setCell_other _ _ _ _ (by first | omega | (simp only [World.size_alloc, World.size_setCell, World.size_drew]; omega) | simp)).trans b⟩

/-- Own peers can be read: their numbers, and two slices each. -/
def Has7 (w : World) (g n : Nat) (P : Nat → Pr) : Prop :=
  ∀ i, i < n → (∀ k u, [Value.int .i64 (P i).au, .int .i64 (P i).hold, .int .i64 (P i).lim, .int .i64 (P i).pref, .int .i64 (P i).wait][k]? = some u → w.cell? ⟨g, i * 7 + k, none⟩ = some u) ∧
    (∃ a m c, w.cell? ⟨g, i * 7 + 5, none⟩ = some (.slice a m c)) ∧ ∃ a m c, w.cell? ⟨g, i * 7 + 6, none⟩ = some (.slice a m c)

theorem Has7.below {w w' : World} {g n : Nat} {P : Nat → Pr} (h : Has7 w g n P) (hB : Below w.heap.size w w') : Has7 w' g n P := by
  intro i hi
  obtain ⟨a, ⟨a5, m5, c5, b⟩, ⟨a6, m6, c6, c⟩⟩ := h i hi
  exact ⟨fun k u hu => (hB.cell (World.block_lt_of_cell? _ _ (a k u hu))).trans (a k u hu), ⟨a5, m5, c5, (hB.cell (World.block_lt_of_cell? _ _ b)).trans b⟩, ⟨a6, m6, c6, (hB.cell (World.block_lt_of_cell? _ _ c)).trans c⟩⟩

theorem Has7.other {w : World} {g n : Nat} {P : Nat → Pr} (h : Has7 w g n P) (p : Addr) (hp : p.block ≠ g) (v : Value) : Has7 (w.setCell p v) g n P := by
  intro i hi
  obtain ⟨a, ⟨a5, m5, c5, b⟩, ⟨a6, m6, c6, c⟩⟩ := h i hi
  have ho : ∀ o, p ≠ (⟨g, o, none⟩ : Addr) := fun o e => hp (by rw [e])
  exact ⟨fun k u hu => (World.cell?_setCell_other _ _ _ _ (ho _)).trans (a k u hu), ⟨a5, m5, c5, (World.cell?_setCell_other _ _ _ _ (ho _)).trans b⟩, ⟨a6, m6, c6, (World.cell?_setCell_other _ _ _ _ (ho _)).trans c⟩⟩

theorem Has7.stored {w : World} {g n j : Nat} {P : Nat → Pr} (h : Has7 w g n P) (hj : j % 7 = 5 ∨ j % 7 = 6) (a : Option Addr) (m c : Nat) : Has7 (w.setCell ⟨g, j, none⟩ (.slice a m c)) g n P := by
  intro i hi
  obtain ⟨q, ⟨a5, m5, c5, b⟩, ⟨a6, m6, c6, d⟩⟩ := h i hi
  refine ⟨fun k u hu => ?_, ?_, ?_⟩
  · have hk : k < 5 := (List.getElem?_eq_some_iff.1 hu).1
    exact (World.cell?_setCell_other _ _ _ _ (by intro e; have := congrArg Addr.off e; simp only at this; omega)).trans (q k u hu)
  · by_cases e : i * 7 + 5 = j
    · subst e; exact ⟨a, m, c, World.cell?_setCell_same _ _ _ b⟩
    · exact ⟨a5, m5, c5, (World.cell?_setCell_other _ _ _ _ (fun h => e (congrArg Addr.off h).symm)).trans b⟩
  · by_cases e : i * 7 + 6 = j
    · subst e; exact ⟨a, m, c, World.cell?_setCell_same _ _ _ d⟩
    · exact ⟨a6, m6, c6, (World.cell?_setCell_other _ _ _ _ (fun h => e (congrArg Addr.off h).symm)).trans d⟩

set_option maxHeartbeats 1000000 in
theorem copy_any (au id nh : Int) (ao : Option Addr) (n cap : Nat) (P : Nat → Pr) (w : World) (h : PsAt w (.slice ao n cap) n P) (h8 : n ≤ 8)
    (hr : ∀ i < n, (P i).ni ≤ 8 ∧ (P i).ne ≤ 8) :
    Calls Try.prog 13 #[.agg #[.int .i64 au, .int .u32 id, .int .u32 nh, .slice ao n cap]] w fun e w' =>
      ∃ ao' cap', e = .returned (.agg #[.int .i64 au, .int .u32 id, .int .u32 nh, .slice ao' n cap']) ∧ Below w.heap.size w w' ∧ (0 < n → n ≤ cap' ∧ ∃ g, w.heap.size ≤ g ∧ ao' = some ⟨g, 0, none⟩ ∧ Has7 w' g n P) := by
  have H : Hid (PsAt w (.slice ao n cap) n P) := h
  have Hr : Hid (∀ i < n, (P i).ni ≤ 8 ∧ (P i).ne ≤ 8) := hr
  clear h hr
  go_enter Try.func13, Try.ntmps13
  go_wp2_with fail
  refine (clonePeers_any _ _ _ P _ (H.out.cell (((Below.refl _ _).alloc (Nat.le_refl _) _).alloc (by simp) _)) h8).mono ?_
  rintro e w1 ⟨v', rfl, hown, hB⟩
  have hB0 : Below w.heap.size w w1 := (((Below.refl _ _).alloc (Nat.le_refl _) _).alloc (by simp) _).trans (hB.mono (by simp only [World.size_alloc]; omega))
  have hz : w.heap.size + 1 < w1.heap.size := by have := hB.size; simp only [World.size_alloc] at this; omega
  have hbx : w1.heap[w.heap.size]? = some (.cells #[.int .i64 au, .int .u32 id, .int .u32 nh, .slice ao n cap] 25) := by
    rw [hB.block _ (by simp only [World.size_alloc]; omega)]; exact heap_alloc2_old _ _ _
  have hby : w1.heap[w.heap.size + 1]? = some (.cells #[.int .i64 0, .int .u32 0, .int .u32 0, .slice none 0 0] 25) := by
    rw [hB.block _ (by simp only [World.size_alloc]; omega)]; exact heap_alloc2_new _ _ _
  have hex : ∃ ao' cap', v' = .slice ao' n cap' := by
    rcases hown with ⟨rfl, rfl⟩ | ⟨g, c, rfl, _⟩
    · exact ⟨none, 0, rfl⟩
    · exact ⟨_, _, rfl⟩
  obtain ⟨ao', cap', rfl⟩ := hex
  simp only [World.size_alloc] at hown
  have Hown : Hid (OwnPs (w.heap.size + 1 + 1) w1 (.slice ao' n cap') n (fun i => (P i).cells)) := hown
  have fx : ∀ o, w1.frozen? ⟨w.heap.size, o, none⟩ = false := fun o => frozen_of_row _ _ _ _ _ hbx
  have cx0 : w1.cell? ⟨w.heap.size, 0, none⟩ = some (.int .i64 au) := cell_of_row _ _ _ _ _ _ hbx
  have cx1 : w1.cell? ⟨w.heap.size, 1, none⟩ = some (.int .u32 id) := cell_of_row _ _ _ _ _ _ hbx
  have cx2 : w1.cell? ⟨w.heap.size, 2, none⟩ = some (.int .u32 nh) := cell_of_row _ _ _ _ _ _ hbx
  have cx3 : w1.cell? ⟨w.heap.size, 3, none⟩ = some (.slice ao n cap) := cell_of_row _ _ _ _ _ _ hbx
  clear hown hB
  go_wp2_with fail
  go_loopw [12] (fun i wr => ∃ k : Nat, k ≤ n ∧ i = .int .i64 k ∧ Below w.heap.size w wr ∧ Below (w.heap.size + 2) (w1.setCell ⟨w.heap.size, 3, none⟩ (.slice ao' n cap')) wr ∧
      (∀ g, ao' = some ⟨g, 0, none⟩ → (∀ off, wr.frozen? ⟨g, off, none⟩ = false) ∧ Rest wr g n k P ∧ Has7 wr g n P)) (fun i _ => n - (intOf i).toNat)
  case atStart =>
    refine ⟨0, Nat.zero_le _, rfl, hB0.setCell (by simp) _, Below.refl _ _, fun g hg => ?_⟩
    rcases Hown.out with ⟨he, h0⟩ | ⟨g', c, he, _, _, hbg, hgl, hfz, hcs⟩
    · simp at he; rw [he.1] at hg; cases hg
    · simp at he
      rw [he.1] at hg
      obtain rfl : g' = g := by simpa using hg
      refine ⟨fun off => (World.frozen?_setCell _ _ _ _).trans (hfz off), fun i _ h2 => ?_, ?_⟩
      rotate_left
      · refine Has7.other ?_ _ (by simp; omega) _
        intro i h2
        refine ⟨fun k u hu => hcs i h2 k u ?_, ?_, ?_⟩
        · simp only [Pr.cells]
          have hk : k < 5 := (List.getElem?_eq_some_iff.1 hu).1
          match k, hk, hu with
          | 0, _, hu => exact hu
          | 1, _, hu => exact hu
          | 2, _, hu => exact hu
          | 3, _, hu => exact hu
          | 4, _, hu => exact hu
        · obtain ⟨a, c, e⟩ := (H.out.2 i h2).1.isSlice
          exact ⟨a, _, c, hcs i h2 5 _ (by simp only [Pr.cells, e]; rfl)⟩
        · obtain ⟨a, c, e⟩ := (H.out.2 i h2).2.isSlice
          exact ⟨a, _, c, hcs i h2 6 _ (by simp only [Pr.cells, e]; rfl)⟩
      exact ⟨(World.cell?_setCell_other _ _ _ _ (by first | omega | (simp only [World.size_alloc, World.size_setCell, World.size_drew]; omega) | simp)).trans (hcs i h2 5 _ rfl), (World.cell?_setCell_other _ _ _ _ (by first | omega | (simp only [World.size_alloc, World.size_setCell, World.size_drew]; omega) | simp)).trans (hcs i h2 6 _ rfl)⟩
  case round =>
    obtain ⟨k, hk, rfl, hBr, hBs, hrest⟩ := hrel
    have dx3 : wr.cell? ⟨w.heap.size, 3, none⟩ = some (.slice ao' n cap') := (hBs.cell (by first | omega | (simp only [World.size_alloc, World.size_setCell, World.size_drew]; omega) | simp)).trans (World.cell?_setCell_same _ _ _ cx3)
    have dx0 : wr.cell? ⟨w.heap.size, 0, none⟩ = some (.int .i64 au) := (hBs.cell (by first | omega | (simp only [World.size_alloc, World.size_setCell, World.size_drew]; omega) | simp)).trans ((World.cell?_setCell_other _ _ _ _ (by simp)).trans cx0)
    have dx1 : wr.cell? ⟨w.heap.size, 1, none⟩ = some (.int .u32 id) := (hBs.cell (by first | omega | (simp only [World.size_alloc, World.size_setCell, World.size_drew]; omega) | simp)).trans ((World.cell?_setCell_other _ _ _ _ (by simp)).trans cx1)
    have dx2 : wr.cell? ⟨w.heap.size, 2, none⟩ = some (.int .u32 nh) := (hBs.cell (by first | omega | (simp only [World.size_alloc, World.size_setCell, World.size_drew]; omega) | simp)).trans ((World.cell?_setCell_other _ _ _ _ (by simp)).trans cx2)
    have hsz : (w1.setCell ⟨w.heap.size, 3, none⟩ (.slice ao' n cap')).heap.size = w1.heap.size := World.size_setCell _ _ _
    have hzr : w.heap.size + 1 < wr.heap.size := by have := hBs.size; omega
    clear cx0 cx1 cx2 cx3
    by_cases hlt : k < n
    · obtain ⟨g, hao, hbg⟩ : ∃ g, ao' = some ⟨g, 0, none⟩ ∧ w.heap.size + 1 + 1 ≤ g := by
        rcases Hown.out with ⟨he, h0⟩ | ⟨g', c, he, _, _, hbg, hgl, hfz, hcs⟩
        · omega
        · simp at he; exact ⟨g', he.1, hbg⟩
      subst hao
      obtain ⟨hfz, hre, hh7⟩ := hrest g rfl
      have Hh7 : Hid (Has7 wr g n P) := hh7
      clear hh7
      have hrs := H.out.2
      obtain ⟨hri, hrx⟩ := hrs k hlt
      obtain ⟨ai, ci, ei⟩ := hri.isSlice
      obtain ⟨ae, ce, ee⟩ := hrx.isSlice
      obtain ⟨c5, c6⟩ := hre k (Nat.le_refl _) hlt
      obtain ⟨hn1, hn2⟩ := Hr.out k hlt
      rw [ei] at hri c5
      rw [ee] at hrx c6
      have hgl : g < wr.heap.size := World.block_lt_of_cell? _ _ c5
      have Hri : Hid (RsAt w (.slice ai (P k).ni ci) (P k).ni (P k).ir) := hri
      have Hrx : Hid (RsAt w (.slice ae (P k).ne ce) (P k).ne (P k).er) := hrx
      have Hre : Hid (Rest wr g n k P) := hre
      have Hb : Hid (w.heap.size + 1 + 1 ≤ g) := hbg
      have f5 := hfz (k * 7 + 5)
      have f6 := hfz (k * 7 + 6)
      have Hfz : Hid (∀ off, wr.frozen? ⟨g, off, none⟩ = false) := hfz
      clear hrest hrs hri hrx ei ee hfz hre
      have hcap : n ≤ cap' := by
        rcases Hown.out with ⟨he, h0⟩ | ⟨g', c, he, hnc, _⟩
        · omega
        · simp at he; omega
      go_wp2_with fail
      refine (cloneRules_any _ _ _ (P k).ir _ (Hri.out.cell hBr) hn1).mono ?_
      rintro e w2 ⟨ao2, cap2, rfl, hB2⟩
      have d5 := (hB2.cell (p := ⟨g, k * 7 + 5, none⟩) hgl).trans c5
      have d6 := (hB2.cell (p := ⟨g, k * 7 + 6, none⟩) hgl).trans c6
      have e5 := (hB2.frozen (p := ⟨g, k * 7 + 5, none⟩) hgl).trans f5
      have e6 := (hB2.frozen (p := ⟨g, k * 7 + 6, none⟩) hgl).trans f6
      clear c5 c6 f5 f6
      go_wp2_with fail
      have hBa : Below w.heap.size w (w2.setCell ⟨g, k * 7 + 5, none⟩ (.slice ao2 (P k).ni cap2)) := (hBr.trans (hB2.mono hBr.size)).setCell (by first | omega | (simp only [World.size_alloc, World.size_setCell, World.size_drew]; omega) | simp) _
      refine (cloneRules_any _ _ _ (P k).er _ (Hrx.out.cell hBa) hn2).mono ?_
      rintro e w3 ⟨ao3, cap3, rfl, hB3⟩
      have hz3 : (w2.setCell ⟨g, k * 7 + 5, none⟩ (.slice ao2 (P k).ni cap2)).heap.size = w2.heap.size := World.size_setCell _ _ _
      have hgl2 : g < w2.heap.size := World.block_lt_of_cell? _ _ d6
      have g6 := (hB3.cell (p := ⟨g, k * 7 + 6, none⟩) (by rw [hz3]; exact hgl2)).trans ((World.cell?_setCell_other _ _ _ _ (by simp)).trans d6)
      have h6 := (hB3.frozen (p := ⟨g, k * 7 + 6, none⟩) (by rw [hz3]; exact hgl2)).trans ((World.frozen?_setCell _ _ _ _).trans e6)
      have hfin : ∀ g', (some ⟨g, 0, none⟩ : Option Addr) = some ⟨g', 0, none⟩ → (∀ off, (w3.setCell ⟨g, k * 7 + 6, none⟩ (.slice ao3 (P k).ne cap3)).frozen? ⟨g', off, none⟩ = false) ∧ Rest (w3.setCell ⟨g, k * 7 + 6, none⟩ (.slice ao3 (P k).ne cap3)) g' n (k + 1) P ∧ Has7 (w3.setCell ⟨g, k * 7 + 6, none⟩ (.slice ao3 (P k).ne cap3)) g' n P := by
        intro g' hg'
        obtain rfl : g = g' := by simpa using hg'
        refine ⟨fun off => ?_, ?_, (((Hh7.out.below (hB2.mono (Nat.le_refl _))).stored (by omega) _ _ _).below hB3).stored (by omega) _ _ _⟩
        · rw [World.frozen?_setCell, hB3.frozen (by rw [hz3]; exact hgl2), World.frozen?_setCell, hB2.frozen hgl]; exact Hfz.out off
        · have r2 : Rest w2 g n k P := Hre.out.below hB2
          have r3 : Rest (w2.setCell ⟨g, k * 7 + 5, none⟩ (.slice ao2 (P k).ni cap2)) g n (k + 1) P := r2.stored (by omega) (by omega) _
          have r4 : Rest w3 g n (k + 1) P := r3.below hB3
          intro i h1 h2
          obtain ⟨a, b⟩ := r4 i h1 h2
          exact ⟨(World.cell?_setCell_other _ _ _ _ (by first | omega | (simp only [World.size_alloc, World.size_setCell, World.size_drew]; omega) | simp)).trans a, (World.cell?_setCell_other _ _ _ _ (by first | omega | (simp only [World.size_alloc, World.size_setCell, World.size_drew]; omega) | simp)).trans b⟩
      have Hfin : Hid (∀ g', (some ⟨g, 0, none⟩ : Option Addr) = some ⟨g', 0, none⟩ → (∀ off, (w3.setCell ⟨g, k * 7 + 6, none⟩ (.slice ao3 (P k).ne cap3)).frozen? ⟨g', off, none⟩ = false) ∧ Rest (w3.setCell ⟨g, k * 7 + 6, none⟩ (.slice ao3 (P k).ne cap3)) g' n (k + 1) P ∧ Has7 (w3.setCell ⟨g, k * 7 + 6, none⟩ (.slice ao3 (P k).ne cap3)) g' n P) := hfin
      have hB4 : Below w.heap.size w (w3.setCell ⟨g, k * 7 + 6, none⟩ (.slice ao3 (P k).ne cap3)) := (hBa.trans (hB3.mono hBa.size)).setCell (by first | omega | (simp only [World.size_alloc, World.size_setCell, World.size_drew]; omega) | simp) _
      have hB5 : Below (w.heap.size + 2) wr (w3.setCell ⟨g, k * 7 + 6, none⟩ (.slice ao3 (P k).ne cap3)) :=
        (((hB2.mono (by omega)).setCell (by first | omega | (simp only [World.size_alloc, World.size_setCell, World.size_drew]; omega) | simp) _).trans (hB3.mono (by rw [hz3]; omega))).setCell (by first | omega | (simp only [World.size_alloc, World.size_setCell, World.size_drew]; omega) | simp) _
      clear hfin d5 d6 e5 e6 hz3
      go_wp2_with fail
      go_roundw
      case rel => exact ⟨k + 1, by omega, by go_num, hB4, hBs.trans hB5, Hfin.out⟩
      case measure => simp [intOf]; omega
    · have ey : ∀ o, wr.frozen? ⟨w.heap.size + 1, o, none⟩ = false := fun o => (hBs.frozen (by first | omega | (simp only [World.size_alloc, World.size_setCell, World.size_drew]; omega) | simp)).trans ((World.frozen?_setCell _ _ _ _).trans (frozen_of_row _ _ _ _ _ hby))
      have cy : ∀ o, wr.cell? ⟨w.heap.size + 1, o, none⟩ = #[Value.int .i64 0, .int .u32 0, .int .u32 0, .slice none 0 0][o]? := fun o => (hBs.cell (by first | omega | (simp only [World.size_alloc, World.size_setCell, World.size_drew]; omega) | simp)).trans ((World.cell?_setCell_other _ _ _ _ (by simp)).trans (cell_of_row _ _ _ _ _ _ hby))
      have cy0 := cy 0
      have cy1 := cy 1
      have cy2 := cy 2
      have cy3 := cy 3
      have ey0 := ey 0
      have ey1 := ey 1
      have ey2 := ey 2
      have ey3 := ey 3
      have Hrest : Hid (∀ g, ao' = some ⟨g, 0, none⟩ → (∀ off, wr.frozen? ⟨g, off, none⟩ = false) ∧ Rest wr g n k P ∧ Has7 wr g n P) := hrest
      clear ey cy hrest
      have hfin : 0 < n → n ≤ cap' ∧ ∃ g, w.heap.size ≤ g ∧ ao' = some ⟨g, 0, none⟩ ∧ g ≠ w.heap.size + 1 ∧ Has7 wr g n P := by
        intro hn
        rcases Hown.out with ⟨he, h0⟩ | ⟨g', c, he, hnc, _, hbg, _⟩
        · omega
        · simp at he
          exact ⟨by omega, g', by omega, he.1, by omega, (Hrest.out g' he.1).2.2⟩
      have Hfin : Hid (0 < n → n ≤ cap' ∧ ∃ g, w.heap.size ≤ g ∧ ao' = some ⟨g, 0, none⟩ ∧ g ≠ w.heap.size + 1 ∧ Has7 wr g n P) := hfin
      clear hfin
      go_wp2_with fail
      refine bodyPost_ret (v := .agg #[.int .i64 au, .int .u32 id, .int .u32 nh, .slice ao' n cap']) (by simp [results, Try.results13, go_sem, *]) rfl ⟨ao', cap', rfl, (((hBr.setCell (by simp) _).setCell (by simp) _).setCell (by simp) _).setCell (by simp) _, fun hn => ?_⟩
      obtain ⟨h0, g, h1, h2, h3, h4⟩ := Hfin.out hn
      exact ⟨h0, g, h1, h2, (((h4.other _ (by simp; omega) _).other _ (by simp; omega) _).other _ (by simp; omega) _).other _ (by simp; omega) _⟩

theorem fault_zero {au id : Int} {n : Nat} {P : Nat → Pr} (h : (faultOf au id n P).1 = 0) : spkB au id n = true ∧ (∀ i < n, peerB (P i) = true) := by
  unfold faultOf at h
  split at h
  · rename_i hs
    refine ⟨hs, ?_⟩
    split at h
    · rename_i hf
      intro i hi
      cases hp : peerB (P i)
      · exfalso
        have : ∀ d, d ≤ i → (∀ j, j < d → peerB (P j) = true) := by
          intro d
          induction d with
          | zero => intro _ j hj; omega
          | succ d ih =>
            intro hd j hj
            rcases Nat.lt_succ_iff_lt_or_eq.1 hj with h1 | h1
            · exact ih (by omega) j h1
            · subst h1
              cases hq : peerB (P j)
              · have := firstBad_at n 0 j (by omega) (fun x _ h2 => ih (by omega) x (by omega)) (by rw [Nat.zero_add]; exact hq); omega
              · rfl
        have := firstBad_at n 0 i hi (fun x _ h2 => this i (Nat.le_refl _) x (by omega)) (by rw [Nat.zero_add]; exact hp); omega
      · rfl
    · simp at h
  · simp at h

theorem fault_one {au id : Int} {n : Nat} {P : Nat → Pr} : (faultOf au id n P).1 = 0 ∧ (faultOf au id n P).2 = 0 ∨ (faultOf au id n P).1 = 1 := by
  unfold faultOf
  split
  · split
    · exact .inl ⟨rfl, rfl⟩
    · exact .inr rfl
  · exact .inr rfl

end Go.Proofs.Ytmgcndpcbpkjaaa
