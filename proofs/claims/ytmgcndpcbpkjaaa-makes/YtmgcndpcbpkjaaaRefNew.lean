/- waypostref.New. -/
import Derived.Test.YtmgcndpcbpkjaaaMask
import Derived.Test.YtmgcndpcbpkjaaaCheck
import Derived.Test.YtmgcndpcbpkjaaaStepOwn
import Derived.RegionTactic
import Derived.BigRegion
import Derived.Deep.RegionWith
import Derived.Deep.RegionLaw
import Derived.Deep.Cut
import Derived.Deep.CutRange
namespace Go.Proofs.Ytmgcndpcbpkjaaa
open Go.RowKit
set_option linter.unusedSimpArgs false
set_option linter.unusedVariables false

set_option maxHeartbeats 1000000 in
theorem refNew_bad (au id nh : Int) (ao : Option Addr) (n cap : Nat) (w : World) (hn : n ≤ 9223372036854775807) (hs : ¬ (1 ≤ au ∧ au ≤ 65535 ∧ id ≠ 0 ∧ n ≤ 8)) :
    Calls Try.prog 7 #[.agg #[.int .i64 au, .int .u32 id, .int .u32 nh, .slice ao n cap]] w fun e w' =>
      e = .returned (.tuple #[.pointer none, .agg #[.int .i64 1, .int .i64 0]]) ∧ Below w.heap.size w w' := by
  have Hs : Hid (¬ (1 ≤ au ∧ au ≤ 65535 ∧ id ≠ 0 ∧ n ≤ 8)) := hs
  clear hs
  go_enter Try.func7, Try.ntmps7
  go_wp2_with fail
  all_goals first
    | (refine bodyPost_ret (v := .tuple #[.pointer none, .agg #[.int .i64 1, .int .i64 0]]) (by simp [results, Try.results7, go_sem, *]) rfl ⟨rfl, ?_⟩
       repeat (first | exact Below.refl _ _ | refine Below.setCell ?_ (by first | omega | simp) _ | refine Below.alloc ?_ (by first | omega | (simp only [World.size_alloc, World.size_setCell, World.size_drew]; omega) | simp) _))
    | (exfalso; exact Hs.out ⟨by omega, by omega, by omega, by omega⟩)

def oneB (p : Pr) : Bool := betB p.au 1 65535 && holdB p.hold && decide (0 ≤ p.lim) && betB p.pref 0 2147483648 && betB p.wait 0 1000

theorem peerB_parts (p : Pr) : peerB p = (oneB p && fltB p.ni p.ir && fltB p.ne p.er) := rfl

/-- The loop's state: what is known of the memory at peer k. -/
structure RefAt (w wr : World) (ao : Option Addr) (n cap k : Nat) : Prop where
  below : Below w.heap.size w wr
  size : w.heap.size + 1 + 1 < wr.heap.size
  peers : wr.cell? ⟨w.heap.size, 3, none⟩ = some (.slice ao n cap)
  r0 : ∃ u, wr.cell? ⟨w.heap.size + 1, 0, none⟩ = some u
  r1 : ∃ u, wr.cell? ⟨w.heap.size + 1, 1, none⟩ = some u
  f0 : wr.frozen? ⟨w.heap.size + 1, 0, none⟩ = false
  f1 : wr.frozen? ⟨w.heap.size + 1, 1, none⟩ = false
  fs : wr.frozen? ⟨w.heap.size + 1 + 1, 5, none⟩ = false
  own : ∃ v xs, wr.cell? ⟨w.heap.size + 1 + 1, 5, none⟩ = some v ∧ wr.ownsRow (w.heap.size + 3) 73 1 v k xs

theorem RefAt.go {w wr w' : World} {ao : Option Addr} {n cap k : Nat} (h : RefAt w wr ao n cap k) (hB : Below wr.heap.size wr w') : RefAt w w' ao n cap k := by
  have h1 := h.size
  obtain ⟨v, xs, h2, h3⟩ := h.own
  obtain ⟨u0, hu0⟩ := h.r0
  obtain ⟨u1, hu1⟩ := h.r1
  have hz := hB.size
  exact ⟨h.below.trans (hB.mono h.below.size), by omega, (hB.cell (by simp <;> omega)).trans h.peers, ⟨u0, (hB.cell (by simp <;> omega)).trans hu0⟩, ⟨u1, (hB.cell (by simp <;> omega)).trans hu1⟩, (hB.frozen (by simp <;> omega)).trans h.f0, (hB.frozen (by simp <;> omega)).trans h.f1,
    (hB.frozen (by simp <;> omega)).trans h.fs, v, xs, (hB.cell (by simp <;> omega)).trans h2, ownsRow_below h3 hB⟩

theorem RefAt.next {w w3 w4 : World} {ao : Option Addr} {n cap k : Nat} {v : Value} {xs : List Value} (h : RefAt w w3 ao n cap k) (hB : Below (w.heap.size + 3) w3 w4)
    (hown : w4.ownsRow (w.heap.size + 3) 73 1 v (k + 1) xs) : RefAt w (w4.setCell ⟨w.heap.size + 1 + 1, 5, none⟩ v) ao n cap (k + 1) := by
  have h1 := h.size
  obtain ⟨v0, xs0, h2, h3⟩ := h.own
  obtain ⟨u0, hu0⟩ := h.r0
  obtain ⟨u1, hu1⟩ := h.r1
  have hz := hB.size
  have o : ∀ (a b : Nat), a ≠ w.heap.size + 1 + 1 → (w4.setCell ⟨w.heap.size + 1 + 1, 5, none⟩ v).cell? ⟨a, b, none⟩ = w4.cell? ⟨a, b, none⟩ := fun a b hab => World.cell?_setCell_other _ _ _ _ (by simp <;> omega)
  refine ⟨(h.below.trans (hB.mono (by omega))).setCell (by simp <;> omega) _, by rw [World.size_setCell]; omega, ?_, ⟨u0, ?_⟩, ⟨u1, ?_⟩, ?_, ?_, ?_, v, xs, ?_, ownsRow_setCell_below hown (by simp) _⟩
  · rw [o _ _ (by omega), hB.cell (by simp)]; exact h.peers
  · rw [o _ _ (by omega), hB.cell (by simp)]; exact hu0
  · rw [o _ _ (by omega), hB.cell (by simp)]; exact hu1
  · rw [World.frozen?_setCell, hB.frozen (by simp)]; exact h.f0
  · rw [World.frozen?_setCell, hB.frozen (by simp)]; exact h.f1
  · rw [World.frozen?_setCell, hB.frozen (by simp)]; exact h.fs
  · exact World.cell?_setCell_same _ _ _ ((hB.cell (by simp)).trans h2)

theorem Try.infoSess : (Try.prog.info? 73).map (fun i => (i.zero, i.size, i.bytes)) = some (some (.pointer none), 1, 8) := by kernel_rfl

set_option maxRecDepth 100000 in
set_option maxHeartbeats 2000000 in
theorem refNew_good (au id nh : Int) (ao : Option Addr) (n cap : Nat) (P : Nat → Pr) (w : World) (h : PsAt w (.slice ao n cap) n P) (s1 : 1 ≤ au) (s2 : au ≤ 65535) (s3 : (id == 0) = false) (s4 : n ≤ 8) :
    Calls Try.prog 7 #[.agg #[.int .i64 au, .int .u32 id, .int .u32 nh, .slice ao n cap]] w fun e w' =>
      ∃ p, e = .returned (.tuple #[.pointer p, .agg #[.int .i64 (faultOf au id n P).1, .int .i64 (faultOf au id n P).2]]) ∧ (p = none ↔ (faultOf au id n P).1 ≠ 0) ∧ Below w.heap.size w w' := by
  have H : Hid (PsAt w (.slice ao n cap) n P) := h
  have Hs : Hid (spkB au id n = true) := by simp [Hid, spkB, betB, s1, s2, s4]; simpa using s3
  clear h
  have h9 : n ≤ 9223372036854775807 := by omega
  go_enter Try.func7, Try.ntmps7
  go_wp2_with fail
  go_loopw [5] (fun i wr => ∃ k : Nat, k ≤ n ∧ i = .int .i64 k ∧ (∀ j < k, peerB (P j) = true) ∧ RefAt w wr ao n cap k) (fun i _ => n - (intOf i).toNat)
  case atStart =>
    refine ⟨0, Nat.zero_le _, rfl, fun j hj => by omega, (((Below.refl _ _).alloc (Nat.le_refl _) _).alloc (by simp) _).alloc (by simp only [World.size_alloc]; omega) _, by simp, ?_, ⟨.int .i64 0, ?_⟩, ⟨.int .i64 0, ?_⟩, ?_, ?_, ?_, ⟨.slice none 0 0, [], ?_, World.ownsRow_nil _ _ _ _⟩⟩
    · rw [World.cell?_alloc_past _ _ _ (by simp only [World.size_alloc]; omega), World.cell?_alloc_past _ _ _ (by simp only [World.size_alloc]; omega), World.cell?_alloc_new]; rfl
    · rw [World.cell?_alloc_past _ _ _ (by simp only [World.size_alloc]; omega), World.cell?_alloc_at _ _ _ _ (by simp only [World.size_alloc])]; rfl
    · rw [World.cell?_alloc_past _ _ _ (by simp only [World.size_alloc]; omega), World.cell?_alloc_at _ _ _ _ (by simp only [World.size_alloc])]; rfl
    · rw [World.frozen?_alloc_past _ _ _ (by simp only [World.size_alloc]; omega), World.frozen?_alloc_at _ _ _ _ (by simp only [World.size_alloc])]
    · rw [World.frozen?_alloc_past _ _ _ (by simp only [World.size_alloc]; omega), World.frozen?_alloc_at _ _ _ _ (by simp only [World.size_alloc])]
    · rw [World.frozen?_alloc_at _ _ _ _ (by simp only [World.size_alloc])]
    · rw [World.cell?_alloc_at _ _ _ _ (by simp only [World.size_alloc])]; rfl
  case round =>
    obtain ⟨k, hk, rfl, hall, hR⟩ := hrel
    have Hall : Hid (∀ j < k, peerB (P j) = true) := hall
    clear hall
    have hcp := hR.peers
    have hzr := hR.size
    have hBt := hR.below
    have HR : Hid (RefAt w wr ao n cap k) := hR
    clear hR
    by_cases hlt : k < n
    · obtain ⟨⟨ao', cap', hv, hcn, _, hcell⟩, hrs⟩ := H.out.cell hBt
      obtain ⟨rfl, _, rfl⟩ : ao = ao' ∧ n = n ∧ cap = cap' := by simpa using hv
      obtain ⟨b, o, hao, hcs⟩ := hcell (by omega)
      subst hao
      obtain ⟨c0, c1, c2, c3, c4, c5, c6⟩ := peer_cells (Below.refl _ _) hcs k hlt
      obtain ⟨hri, hre⟩ := hrs k hlt
      obtain ⟨ai, ci, ei⟩ := hri.isSlice
      obtain ⟨ae, ce, ee⟩ := hre.isSlice
      rw [ei] at hri c5
      rw [ee] at hre c6
      have Hri : Hid (RsAt wr (.slice ai (P k).ni ci) (P k).ni (P k).ir) := hri
      have Hre : Hid (RsAt wr (.slice ae (P k).ne ce) (P k).ne (P k).er) := hre
      clear hcs hcell hv hri hre hrs ei ee
      go_upto_region 8 with fail
      go_cut [7] from 33 to 103 (fun v wx => v = .bool (oneB (P k)) ∧ wx = wr.alloc (.cells #[.int .i64 (P k).au, .int .i64 (P k).hold, .int .i64 (P k).lim, .int .i64 (P k).pref, .int .i64 (P k).wait, .slice ai (P k).ni ci, .slice ae (P k).ne ce] 34))
      case first =>
        by_cases hh : ((P k).hold == 0) = true
        · have Hh : Hid (holdB (P k).hold = true) := by simp [Hid, holdB, hh]
          go_wp2_with (go_at_call 15; refine (in_any _ _ _ _).mono ?_; rintro e w' ⟨rfl, rfl⟩)
          all_goals go_meet
          all_goals case rel => exact ⟨by simp [oneB, Hh.out, *] <;> intros <;> omega, rfl⟩
        · have hh' : ((P k).hold == 0) = false := by simpa using hh
          have Hh : Hid (holdB (P k).hold = betB (P k).hold 3 65535) := by simp [Hid, holdB, hh']
          clear hh
          go_wp2_with (go_at_call 15; refine (in_any _ _ _ _).mono ?_; rintro e w' ⟨rfl, rfl⟩)
          all_goals go_meet
          all_goals case rel => exact ⟨by simp [oneB, Hh.out, *] <;> intros <;> omega, rfl⟩
      case rest =>
        obtain ⟨rfl, hwc⟩ := hcut
        have hBc : Below wr.heap.size wr wc := by rw [hwc]; exact (Below.refl _ _).alloc (Nat.le_refl _) _
        have hzc : wc.heap.size = wr.heap.size + 1 := by rw [hwc, World.size_alloc]
        have hpc : wc.heap[wr.heap.size]? = some (.cells #[.int .i64 (P k).au, .int .i64 (P k).hold, .int .i64 (P k).lim, .int .i64 (P k).pref, .int .i64 (P k).wait, .slice ai (P k).ni ci, .slice ae (P k).ne ce] 34) := by rw [hwc]; exact heap_alloc_new _ _
        clear hwc c0 c1 c2 c3 c4 c5 c6
        have q5 : wc.cell? ⟨wr.heap.size, 5, none⟩ = some (.slice ai (P k).ni ci) := cell_of_row _ _ _ _ _ _ hpc
        obtain ⟨one, hone⟩ : ∃ one, oneB (P k) = one := ⟨_, rfl⟩
        rw [hone]
        have Hone : Hid (oneB (P k) = one) := hone
        clear hone
        go_wp2_with fail
        refine (rules_any _ _ _ (P k).ir _ (Hri.out.cell hBc)).mono ?_
        rintro e w2 ⟨rfl, hB2⟩
        have hpc2 : w2.heap[wr.heap.size]? = _ := (hB2.block wr.heap.size (by omega)).trans hpc
        have q6 : w2.cell? ⟨wr.heap.size, 6, none⟩ = some (.slice ae (P k).ne ce) := cell_of_row _ _ _ _ _ _ hpc2
        have hBc2 : Below wr.heap.size wr w2 := hBc.trans (hB2.mono (by omega))
        have hz2 : wr.heap.size < w2.heap.size := by have := hB2.size; omega
        clear q5
        go_wp2_with fail
        refine (rules_any _ _ _ (P k).er _ (Hre.out.cell hBc2)).mono ?_
        rintro e w3 ⟨rfl, hB3⟩
        have hpc3 : w3.heap[wr.heap.size]? = _ := (hB3.block wr.heap.size hz2).trans hpc2
        have hBc3 : Below wr.heap.size wr w3 := hBc2.trans (hB3.mono (by omega))
        have hz3 : wr.heap.size < w3.heap.size := by have := hB3.size; omega
        have hR3 : RefAt w w3 (some ⟨b, o, none⟩) n cap k := HR.out.go hBc3
        clear q6 hB2 hB3 hpc hpc2 hBc hBc2
        have Hpc3 : Hid (w3.heap[wr.heap.size]? = some (.cells #[.int .i64 (P k).au, .int .i64 (P k).hold, .int .i64 (P k).lim, .int .i64 (P k).pref, .int .i64 (P k).wait, .slice ai (P k).ni ci, .slice ae (P k).ne ce] 34)) := hpc3
        clear hpc3
        have HR3 : Hid (RefAt w w3 (some ⟨b, o, none⟩) n cap k) := hR3
        clear hR3
        cases hpk : peerB (P k)
        · have Hpk : Hid (peerB (P k) = false) := hpk
          have Hfb : Hid (firstBad P 0 n = k + 1) := by
            have := firstBad_at n 0 k hlt (fun j _ h2 => Hall.out j (by omega)) (by rw [Nat.zero_add]; exact hpk)
            rw [Nat.zero_add] at this; exact this
          clear hpk
          obtain ⟨u0, hu0⟩ := HR3.out.r0
          obtain ⟨u1, hu1⟩ := HR3.out.r1
          have ey0 := HR3.out.f0
          have ey1 := HR3.out.f1
          have hBt3 := HR3.out.below
          go_wp2_with fail
          all_goals first
            | (refine bodyPost_ret (v := .tuple #[.pointer none, .agg #[.int .i64 1, .int .i64 (k + 1)]]) (by simp [results, Try.results7, go_sem, *]) rfl ⟨none, by simp [faultOf, Hs.out, Hfb.out], by simp [faultOf, Hs.out, Hfb.out], ?_⟩
               repeat (first | exact hBt3 | refine Below.setCell ?_ (by first | omega | simp) _))
            | (exfalso
               have h1 : one = true := by assumption
               have h2 : fltB (P k).ni (P k).ir = true := by assumption
               have h3 : (!fltB (P k).ne (P k).er) = false := by assumption
               have h4 := Hpk.out
               rw [peerB_parts, Hone.out, h1, h2] at h4
               simp at h4 h3
               rw [h4] at h3
               exact absurd h3 (by decide))
        · have Hpk : Hid (peerB (P k) = true) := hpk
          have Hg : one = true ∧ fltB (P k).ni (P k).ir = true ∧ fltB (P k).ne (P k).er = true := by
            rw [peerB_parts, Hone.out] at hpk; simpa [and_assoc] using hpk
          obtain ⟨g1, g2, g3⟩ := Hg
          subst g1
          rw [g2, g3]
          clear hpk g2 g3
          obtain ⟨sv, xs, hsv, hown⟩ := HR3.out.own
          obtain ⟨sa, scap, rfl, hlt3⟩ := ownsRow_slice hown
          have p0 : w3.cell? ⟨wr.heap.size, 0, none⟩ = some (.int .i64 (P k).au) := cell_of_row _ _ _ _ _ _ Hpc3.out
          have p1 : w3.cell? ⟨wr.heap.size, 1, none⟩ = some (.int .i64 (P k).hold) := cell_of_row _ _ _ _ _ _ Hpc3.out
          have p2 : w3.cell? ⟨wr.heap.size, 2, none⟩ = some (.int .i64 (P k).lim) := cell_of_row _ _ _ _ _ _ Hpc3.out
          have p3 : w3.cell? ⟨wr.heap.size, 3, none⟩ = some (.int .i64 (P k).pref) := cell_of_row _ _ _ _ _ _ Hpc3.out
          have p4 : w3.cell? ⟨wr.heap.size, 4, none⟩ = some (.int .i64 (P k).wait) := cell_of_row _ _ _ _ _ _ Hpc3.out
          have p5 : w3.cell? ⟨wr.heap.size, 5, none⟩ = some (.slice ai (P k).ni ci) := cell_of_row _ _ _ _ _ _ Hpc3.out
          have p6 : w3.cell? ⟨wr.heap.size, 6, none⟩ = some (.slice ae (P k).ne ce) := cell_of_row _ _ _ _ _ _ Hpc3.out
          have fs3 := HR3.out.fs
          have zs2 : w.heap.size + 1 + 1 < w3.heap.size := HR3.out.size
          have zs1 : w.heap.size + 1 < w3.heap.size := by omega
          have zs0 : w.heap.size < w3.heap.size := by omega
          obtain ⟨i0, hi, hz0, hz1, hz2'⟩ := info_parts Try.infoSess
          have Hown : Hid (w3.ownsRow (w.heap.size + 3) 73 1 (.slice sa k scap) k xs) := hown
          have Hlt3 : Hid (∀ j, (Value.slice sa k scap).ownBlock = some j → w.heap.size + 3 ≤ j ∧ j < w3.heap.size) := hlt3
          clear hown hlt3 hcp hBt hBc3
          go_wp2_with fail
          go_region_law (go_loud (refine step_append_own rfl (.tmp 96) (.tmp 100) 67 rfl (w.heap.size + 3) 73 i0 (.pointer none) 1 8 Try.underlying67 hi hz0 hz1 hz2' rfl (by decide) (.slice sa k scap) k xs (by simp [Act.eval, Act.put]) (by repeat (first | exact Hown.out | refine World.ownsRow.alloc ?_ _ | refine World.ownsRow.drew ?_)) ⟨w3.heap.size + 1, 0, none⟩ 1 1 [.pointer (some ⟨w3.heap.size, 0, none⟩)] (by simp [Act.eval, Act.put]) rfl (by intro j u hu; match j, hu with | 0, hu => simp at hu; subst hu; simp [Addr.add]) (by intro u hu; simp at hu; subst hu; rfl) (by unfold maxLen; omega) (by omega) (by simp <;> omega) ?_); go_loud (intro v' w4 hown4 hgrow4); go_loud (obtain ⟨sa', scap', e4, hlt4⟩ := ownsRow_slice hown4); go_loud (subst e4); go_loud (have hB34 : Below (w.heap.size + 3) w3 w4 := Below.grown (by repeat (first | exact Below.refl _ _ | refine Below.drew ?_ | refine Below.alloc ?_ (by first | omega | (simp only [World.size_alloc, World.size_setCell, World.size_drew]; omega) | simp) _)) hgrow4 (by first | omega | (simp only [World.size_alloc, World.size_setCell, World.size_drew]; omega)) (fun j hj => (Hlt3.out j hj).1)); go_loud (have t5 := (hB34.cell (p := ⟨w.heap.size + 1 + 1, 5, none⟩) (by simp)).trans hsv); go_loud (have t6 := (hB34.frozen (p := ⟨w.heap.size + 1 + 1, 5, none⟩) (by simp)).trans fs3); go_loud (have Hown4 : Hid (w4.ownsRow (w.heap.size + 3) 73 1 (.slice sa' (k + 1) scap') (k + 1) (xs ++ [.pointer (some ⟨w3.heap.size, 0, none⟩)])) := hown4); clear hown4 hgrow4 hlt4)
          all_goals go_wp2_with fail
          all_goals go_roundw
          all_goals first
            | case rel => exact ⟨k + 1, by omega, by go_num, all_step Hall.out Hpk.out, HR3.out.next hB34 Hown4.out⟩
            | case measure => simp [intOf]; omega
    · have hkn : k = n := by omega
      subst hkn
      obtain ⟨u0, hu0⟩ := HR.out.r0
      obtain ⟨u1, hu1⟩ := HR.out.r1
      have ey0 := HR.out.f0
      have ey1 := HR.out.f1
      have hfb := firstBad_good k 0 (fun j _ h2 => Hall.out j (by omega))
      have Hfb : Hid (firstBad P 0 k = 0) := hfb
      clear hfb
      go_wp2_with fail
      refine bodyPost_ret (v := .tuple #[.pointer (some ⟨w.heap.size + 1 + 1, 0, none⟩), .agg #[.int .i64 0, .int .i64 0]]) (by simp [results, Try.results7, go_sem, *]) rfl ⟨_, by simp [faultOf, Hs.out, Hfb.out]; rfl, by simp [faultOf, Hs.out, Hfb.out], ?_⟩
      repeat (first | exact hBt | refine Below.setCell ?_ (by first | omega | simp) _)

theorem refNew_any (au id nh : Int) (ao : Option Addr) (n cap : Nat) (P : Nat → Pr) (w : World) (h : PsAt w (.slice ao n cap) n P) :
    Calls Try.prog 7 #[.agg #[.int .i64 au, .int .u32 id, .int .u32 nh, .slice ao n cap]] w fun e w' =>
      ∃ p, e = .returned (.tuple #[.pointer p, .agg #[.int .i64 (faultOf au id n P).1, .int .i64 (faultOf au id n P).2]]) ∧ (p = none ↔ (faultOf au id n P).1 ≠ 0) ∧ Below w.heap.size w w' := by
  by_cases hs : 1 ≤ au ∧ au ≤ 65535 ∧ id ≠ 0 ∧ n ≤ 8
  · obtain ⟨s1, s2, s3, s4⟩ := hs
    exact refNew_good au id nh ao n cap P w h s1 s2 (by simpa using s3) s4
  · have hc : n ≤ 9223372036854775807 := by obtain ⟨⟨ao', cap', hv, hn, hc, hcell⟩, _⟩ := h; unfold maxLen at hc; omega
    refine (refNew_bad au id nh ao n cap w hc hs).mono ?_
    rintro e w' ⟨rfl, hB⟩
    have hk : spkB au id n = false := by
      rw [Bool.eq_false_iff]; intro h1; apply hs
      simp [spkB, betB] at h1
      exact ⟨h1.1.1.1, h1.1.1.2, h1.1.2, h1.2⟩
    exact ⟨none, by simp [faultOf, hk], by simp [faultOf, hk], hB⟩

end Go.Proofs.Ytmgcndpcbpkjaaa
