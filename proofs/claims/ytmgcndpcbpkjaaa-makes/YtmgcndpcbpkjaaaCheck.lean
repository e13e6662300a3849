/- Configurations, as package config looks at them. -/
import Derived.Test.YtmgcndpcbpkjaaaFilter
namespace Go.Proofs.Ytmgcndpcbpkjaaa
open Go.RowKit
set_option linter.unusedSimpArgs false
set_option linter.unusedVariables false

set_option maxHeartbeats 1000000 in
theorem peerMayBe_any (au hold lim pref wait : Int) (ai ae : Option Addr) (ni ci ne ce : Nat) (ir er : Nat → Rl) (w : World)
    (hi : RsAt w (.slice ai ni ci) ni ir) (he : RsAt w (.slice ae ne ce) ne er) :
    Calls Try.prog 18 #[.agg #[.int .i64 au, .int .i64 hold, .int .i64 lim, .int .i64 pref, .int .i64 wait, .slice ai ni ci, .slice ae ne ce]] w fun e w' =>
      e = .returned (.bool (peerB ⟨au, hold, lim, pref, wait, .slice ai ni ci, ni, ir, .slice ae ne ce, ne, er⟩)) ∧ Below w.heap.size w w' := by
  have Hi : Hid (RsAt w (.slice ai ni ci) ni ir) := hi
  have He : Hid (RsAt w (.slice ae ne ce) ne er) := he
  clear hi he
  go_enter Try.func18, Try.ntmps18
  go_wp2_with (first | (go_at_call 22; refine (asMayBe_any _ _).mono ?_; rintro e w' ⟨rfl, rfl⟩) | (go_at_call 23; refine (holdMayBe_any _ _).mono ?_; rintro e w' ⟨rfl, rfl⟩) | (go_at_call 24; refine (between_any _ _ _ _).mono ?_; rintro e w' ⟨rfl, rfl⟩) | fail)
  case isTrue =>
    refine (filterMayBe_any _ _ _ ir _ (Hi.out.cell ((Below.refl _ _).alloc (Nat.le_refl _) _))).mono ?_
    rintro e w1 ⟨rfl, hB⟩
    have c6 : w1.cell? ⟨w.heap.size, 6, none⟩ = some (.slice ae ne ce) := (hB.cell (p := ⟨w.heap.size, 6, none⟩) (by simp)).trans (World.cell?_alloc_new _ _ _ _)
    go_wp2_with fail
    · refine (filterMayBe_any _ _ _ er _ (He.out.cell (((Below.refl _ _).alloc (Nat.le_refl _) _).trans (hB.mono (by simp))))).mono ?_
      rintro e w2 ⟨rfl, hB2⟩
      go_wp2_with fail
      go_ret
      exact ⟨by simp [peerB, *], ((Below.refl _ _).alloc (Nat.le_refl _) _).trans ((hB.mono (by simp)).trans (hB2.mono (by have := hB.size; simp at this; omega)))⟩
    · go_ret
      exact ⟨by simp [peerB, *], ((Below.refl _ _).alloc (Nat.le_refl _) _).trans (hB.mono (by simp))⟩
  all_goals go_ret
  all_goals exact ⟨by simp [peerB, *] <;> intros <;> omega, (Below.refl _ _).alloc (Nat.le_refl _) _⟩

set_option maxHeartbeats 400000 in
theorem speakerMayBe_any (au id nh : Int) (ao : Option Addr) (n cap : Nat) (w : World) (hn : n ≤ 9223372036854775807) :
    Calls Try.prog 17 #[.agg #[.int .i64 au, .int .u32 id, .int .u32 nh, .slice ao n cap]] w fun e w' =>
      e = .returned (.bool (spkB au id n)) ∧ Below w.heap.size w w' := by
  go_enter Try.func17, Try.ntmps17
  go_wp2_with (go_at_call 22; refine (asMayBe_any _ _).mono ?_; rintro e w' ⟨rfl, rfl⟩)
  all_goals go_ret
  all_goals (refine ⟨?_, (Below.refl _ _).alloc (Nat.le_refl _) _⟩)
  all_goals (have hd : decide ((n : Int) ≤ 8) = decide (n ≤ 8) := by rw [Bool.eq_iff_iff]; simp only [decide_eq_true_iff]; omega)
  all_goals simp [spkB, *]

theorem PsAt.cell {w w' : World} {v : Value} {n : Nat} {P : Nat → Pr} (h : PsAt w v n P) (hB : Below w.heap.size w w') : PsAt w' v n P := by
  obtain ⟨⟨ao, cap, hv, hn, hm, hc⟩, h2⟩ := h
  refine ⟨⟨ao, cap, hv, hn, hm, fun h0 => ?_⟩, fun i hi => ⟨(h2 i hi).1.cell hB, (h2 i hi).2.cell hB⟩⟩
  obtain ⟨b, o, hao, hcell⟩ := hc h0
  refine ⟨b, o, hao, fun i hi k u hu => ?_⟩
  have := hcell i hi k u hu
  rw [hB.cell (World.block_lt_of_cell? _ _ this)]
  exact this

/-- The seven cells of peer k, in a world behind. -/
theorem peer_cells {w wr : World} {b o n : Nat} {P : Nat → Pr} (hB : Below w.heap.size w wr)
    (h : ∀ i < n, ∀ k u, ((P i).cells)[k]? = some u → w.cell? ⟨b, o + i * 7 + k, none⟩ = some u) (k : Nat) (hk : k < n) :
    wr.cell? ⟨b, o + k * 7, none⟩ = some (.int .i64 (P k).au) ∧ wr.cell? ⟨b, o + k * 7 + 1, none⟩ = some (.int .i64 (P k).hold) ∧ wr.cell? ⟨b, o + k * 7 + 2, none⟩ = some (.int .i64 (P k).lim) ∧
      wr.cell? ⟨b, o + k * 7 + 3, none⟩ = some (.int .i64 (P k).pref) ∧ wr.cell? ⟨b, o + k * 7 + 4, none⟩ = some (.int .i64 (P k).wait) ∧ wr.cell? ⟨b, o + k * 7 + 5, none⟩ = some (P k).im ∧
      wr.cell? ⟨b, o + k * 7 + 6, none⟩ = some (P k).ex := by
  have hs : ∀ j u, ((P k).cells)[j]? = some u → wr.cell? ⟨b, o + k * 7 + j, none⟩ = some u := fun j u hu => by
    have := h k hk j u hu; rw [hB.cell (World.block_lt_of_cell? _ _ this)]; exact this
  exact ⟨hs 0 _ rfl, hs 1 _ rfl, hs 2 _ rfl, hs 3 _ rfl, hs 4 _ rfl, hs 5 _ rfl, hs 6 _ rfl⟩

theorem RsAt.isSlice {w : World} {v : Value} {n : Nat} {r : Nat → Rl} (h : RsAt w v n r) : ∃ ao cap, v = .slice ao n cap := by
  obtain ⟨⟨ao, cap, hv, _⟩, _⟩ := h; exact ⟨ao, cap, hv⟩

theorem firstBad_good {P : Nat → Pr} : ∀ (m k : Nat), (∀ j, k ≤ j → j < k + m → peerB (P j) = true) → firstBad P k m = 0 := by
  intro m
  induction m with
  | zero => intro k _; rfl
  | succ m ih => intro k h; simp only [firstBad, h k (by omega) (by omega), if_true]; exact ih (k + 1) (fun j h1 h2 => h j (by omega) (by omega))

theorem firstBad_at {P : Nat → Pr} : ∀ (m k d : Nat), d < m → (∀ j, k ≤ j → j < k + d → peerB (P j) = true) → peerB (P (k + d)) = false → firstBad P k m = k + d + 1 := by
  intro m
  induction m with
  | zero => intro k d h; omega
  | succ m ih =>
    intro k d hd h hf
    cases d with
    | zero => simp only [Nat.add_zero] at hf; simp [firstBad, hf]
    | succ d =>
      simp only [firstBad, h k (by omega) (by omega), if_true]
      rw [ih (k + 1) d (by omega) (fun j h1 h2 => h j (by omega) (by omega)) (by rw [← hf]; congr 2; omega)]; omega

set_option maxHeartbeats 1000000 in
theorem check_any (au id nh : Int) (ao : Option Addr) (n cap : Nat) (P : Nat → Pr) (w : World) (h : PsAt w (.slice ao n cap) n P) :
    Calls Try.prog 12 #[.agg #[.int .i64 au, .int .u32 id, .int .u32 nh, .slice ao n cap]] w fun e w' =>
      e = .returned (.agg #[.int .i64 (faultOf au id n P).1, .int .i64 (faultOf au id n P).2]) ∧ Below w.heap.size w w' := by
  have hc : n ≤ 9223372036854775807 := by obtain ⟨⟨ao', cap', hv, hn, hc, hcell⟩, _⟩ := h; unfold maxLen at hc; omega
  have H : Hid (PsAt w (.slice ao n cap) n P) := h
  clear h
  go_enter Try.func12, Try.ntmps12
  go_wp2_with fail
  refine (speakerMayBe_any _ _ _ _ _ _ _ hc).mono ?_
  rintro e w1 ⟨rfl, hB⟩
  have cf0 : w1.cell? ⟨w.heap.size + 1, 0, none⟩ = some (.int .i64 0) := (hB.cell (p := ⟨w.heap.size + 1, 0, none⟩) (by simp)).trans ((World.cell?_alloc_at _ _ _ _ (by simp)).trans rfl)
  have cf1 : w1.cell? ⟨w.heap.size + 1, 1, none⟩ = some (.int .i64 0) := (hB.cell (p := ⟨w.heap.size + 1, 1, none⟩) (by simp)).trans ((World.cell?_alloc_at _ _ _ _ (by simp)).trans rfl)
  have cc3 : w1.cell? ⟨w.heap.size, 3, none⟩ = some (.slice ao n cap) := (hB.cell (p := ⟨w.heap.size, 3, none⟩) (by simp only [World.size_alloc]; omega)).trans ((World.cell?_alloc_past _ _ _ (by simp)).trans (World.cell?_alloc_new _ _ _ _))
  have ff0 : w1.frozen? ⟨w.heap.size + 1, 0, none⟩ = false := (hB.frozen (p := ⟨w.heap.size + 1, 0, none⟩) (by simp)).trans (World.frozen?_alloc_at _ _ _ _ (by simp))
  have ff1 : w1.frozen? ⟨w.heap.size + 1, 1, none⟩ = false := (hB.frozen (p := ⟨w.heap.size + 1, 1, none⟩) (by simp)).trans (World.frozen?_alloc_at _ _ _ _ (by simp))
  have hz : w.heap.size + 1 < w1.heap.size := by have := hB.size; simp only [World.size_alloc] at this; omega
  have hBw : Below w.heap.size w w1 := (((Below.refl _ _).alloc (Nat.le_refl _) _).alloc (by simp) _).trans (hB.mono (by simp only [World.size_alloc]; omega))
  clear hB
  cases hs : spkB au id n
  · have Hs : Hid (spkB au id n = false) := hs
    clear hs
    go_wp2_with fail
    exact bodyPost_ret (v := .agg #[.int .i64 1, .int .i64 0]) (by simp [results, Try.results12, go_sem, *]) rfl ⟨by simp [faultOf, Hs.out], (hBw.setCell (by simp) _).setCell (by simp) _⟩
  · have Hs : Hid (spkB au id n = true) := hs
    clear hs
    go_wp2_with fail
    have hB := hBw
    clear hBw
    go_loopw [12] (fun i wr => ∃ k : Nat, k ≤ n ∧ i = .int .i64 k ∧ (∀ j < k, peerB (P j) = true) ∧ Below w1.heap.size w1 wr) (fun i _ => n - (intOf i).toNat)
    case atStart => exact ⟨0, Nat.zero_le _, rfl, fun j hj => by omega, Below.refl _ _⟩
    case round =>
      obtain ⟨k, hk, rfl, hall, hBr⟩ := hrel
      have gf0 := (hBr.cell (p := ⟨w.heap.size + 1, 0, none⟩) hz).trans cf0
      have gf1 := (hBr.cell (p := ⟨w.heap.size + 1, 1, none⟩) hz).trans cf1
      have gz0 := (hBr.frozen (p := ⟨w.heap.size + 1, 0, none⟩) hz).trans ff0
      have gz1 := (hBr.frozen (p := ⟨w.heap.size + 1, 1, none⟩) hz).trans ff1
      have hzr : w.heap.size + 1 < wr.heap.size := Nat.lt_of_lt_of_le hz hBr.size
      have Hall : Hid (∀ j < k, peerB (P j) = true) := hall
      have hBt : Below w.heap.size w wr := hB.trans (hBr.mono (by omega))
      clear hall cf0 cf1 ff0 ff1 cc3
      by_cases hlt : k < n
      · obtain ⟨⟨ao', cap', hv, hcn, _, hcell⟩, hrs⟩ := H.out.cell hBt
        obtain ⟨rfl, _, rfl⟩ : ao = ao' ∧ n = n ∧ cap = cap' := by simpa using hv
        obtain ⟨b, o, hao, hcs⟩ := hcell (by omega)
        subst hao
        obtain ⟨c0, c1, c2, c3, c4, c5, c6⟩ := peer_cells (Below.refl _ _) hcs k hlt
        obtain ⟨hri, hre⟩ := hrs k hlt
        obtain ⟨ai, ci, ei⟩ := hri.isSlice
        obtain ⟨ae, ce, ee⟩ := hre.isSlice
        rw [ei] at hri c5
        rw [ee] at hre c6
        have Hri : Hid (RsAt wr (.slice ai (P k).ni ci) (P k).ni (P k).ir) := hri
        have Hre : Hid (RsAt wr (.slice ae (P k).ne ce) (P k).ne (P k).er) := hre
        have Hp : Hid (peerB ⟨(P k).au, (P k).hold, (P k).lim, (P k).pref, (P k).wait, .slice ai (P k).ni ci, (P k).ni, (P k).ir, .slice ae (P k).ne ce, (P k).ne, (P k).er⟩ = peerB (P k)) := rfl
        clear hcs hcell hv hri hre hrs ei ee
        go_wp2_with fail
        refine (peerMayBe_any _ _ _ _ _ _ _ _ _ _ _ _ _ _ (Hri.out.cell ((Below.refl _ _).alloc (Nat.le_refl _) _)) (Hre.out.cell ((Below.refl _ _).alloc (Nat.le_refl _) _))).mono ?_
        rintro e w2 ⟨rfl, hB2⟩
        rw [Hp.out]
        have hB3 : Below wr.heap.size wr w2 := ((Below.refl _ _).alloc (Nat.le_refl _) _).trans (hB2.mono (by simp only [World.size_alloc]; omega))
        clear hB2 Hri Hre Hp c0 c1 c2 c3 c4 c5 c6
        have ef0 := (hB3.cell (p := ⟨w.heap.size + 1, 0, none⟩) hzr).trans gf0
        have ef1 := (hB3.cell (p := ⟨w.heap.size + 1, 1, none⟩) hzr).trans gf1
        have ez0 := (hB3.frozen (p := ⟨w.heap.size + 1, 0, none⟩) hzr).trans gz0
        have ez1 := (hB3.frozen (p := ⟨w.heap.size + 1, 1, none⟩) hzr).trans gz1
        have hBe : Below w.heap.size w w2 := hBt.trans (hB3.mono (by omega))
        clear gf0 gf1 gz0 gz1
        cases hpk : peerB (P k)
        · have Hpk : Hid (peerB (P k) = false) := hpk
          clear hpk
          go_wp2_with fail
          have hfb := firstBad_at n 0 k hlt (fun j _ h2 => Hall.out j (by omega)) (by rw [Nat.zero_add]; exact Hpk.out)
          refine bodyPost_ret (v := .agg #[.int .i64 1, .int .i64 (k + 1)]) (by simp [results, Try.results12, go_sem, *]) rfl ⟨?_, (hBe.setCell (by simp) _).setCell (by simp) _⟩
          simp only [faultOf, Hs.out, if_true, hfb]
          rw [if_neg (by omega)]
          simp
        · have Hpk : Hid (peerB (P k) = true) := hpk
          clear hpk
          go_wp2_with fail
          go_roundw
          case rel => exact ⟨k + 1, by omega, by go_num, all_step Hall.out Hpk.out, hBr.trans (hB3.mono hBr.size)⟩
          case measure => simp [intOf]; omega
      · have hkn : k = n := by omega
        subst hkn
        go_wp2_with fail
        have hfb := firstBad_good k 0 (fun j _ h2 => Hall.out j (by omega))
        exact bodyPost_ret (v := .agg #[.int .i64 0, .int .i64 0]) (by simp [results, Try.results12, go_sem, *]) rfl ⟨by simp [faultOf, Hs.out, hfb], (hBt.setCell (by simp) _).setCell (by simp) _⟩

end Go.Proofs.Ytmgcndpcbpkjaaa
