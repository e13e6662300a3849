/- waypostlaw.made. -/
import Derived.Test.YtmgcndpcbpkjaaaMadeDefs
import Derived.RegionTactic
import Derived.BigRegion
import Derived.Deep.RegionWith
import Derived.Deep.QuietTactic
import Derived.BigQuiet
import Derived.Deep.Cut
import Derived.Deep.CutRange
namespace Go.Proofs.Ytmgcndpcbpkjaaa
open Go.RowKit
set_option linter.unusedSimpArgs false
set_option linter.unusedVariables false

theorem grownBy_drew {w w' : World} {row : Option Nat} (h : w.drew.grownBy w' row) : w.grownBy w' row := ⟨h.os, h.tape, h.output, h.size, h.block⟩

theorem hide {p : Prop} (h : p) : Hid p := h

theorem Try.infoRules : (Try.prog.info? 31).map (fun i => (i.zero, i.size, i.bytes)) = some (some (.slice none 0 0), 1, 24) := by kernel_rfl

set_option maxRecDepth 100000 in
set_option maxHeartbeats 4000000 in
theorem made_any (au id nh : Int) (ao : Option Addr) (n cap : Nat) (P : Nat → Pr) (w : World) (h : PsAt w (.slice ao n cap) n P) (hn88 : n * 88 ≤ 140737488351232)
    (hbd : ∀ i < n, (P i).ni ≤ 4398046511104 ∧ (P i).ne ≤ 4398046511104) :
    Calls Try.prog 4 #[.agg #[.int .i64 au, .int .u32 id, .int .u32 nh, .slice ao n cap]] w fun e w' =>
      ∃ p, e = .returned (.tuple #[.pointer p, .bool true]) ∧ (p = none ↔ (faultOf au id n P).1 ≠ 0) ∧ Below w.heap.size w w' := by
  have H : Hid (PsAt w (.slice ao n cap) n P) := h
  have Hbd : Hid (∀ i < n, (P i).ni ≤ 4398046511104 ∧ (P i).ne ≤ 4398046511104) := hbd
  clear h hbd
  obtain ⟨i0, hi, hz0, hz1, hz2⟩ := info_parts Try.infoPeer
  obtain ⟨MK, hMK⟩ : ∃ MK, MK = madeCells (Value.agg #[.int .i64 0, .int .i64 0, .int .i64 0, .int .i64 0, .int .i64 0, .slice none 0 0, .slice none 0 0]).cells ((n + 8) * i0.size) := ⟨_, rfl⟩
  have hsz : MK.size = (n + 8) * 7 := by rw [hMK, size_madeCells, hz1]
  have hmk : ∀ wx, Sem.run Try.prog (Instr.makeSlice 23 (.int .i64 ((n : Int) + 8)) (.int .i64 ((n : Int) + 8))) wx = .ok (.slice (some ⟨wx.heap.size, 0, none⟩) (n + 8) (n + 8)) (wx.alloc (.cells MK 34)) := by
    intro wx
    have e : ((n : Int) + 8) = ((n + 8 : Nat) : Int) := by omega
    rw [e, run_make wx 23 34 i0 _ Try.underlying23 hi hz0 .i64 .i64 ((n + 8 : Nat) : Int) ((n + 8 : Nat) : Int) (by omega) (Int.le_refl _) (by rw [hz2]; omega) (by omega), Int.toNat_natCast, ← hMK]
  have Hsz : Hid (MK.size = (n + 8) * 7) := hsz
  clear hMK hsz hi hz0 hz1 hz2
  obtain ⟨w1, hw1⟩ : ∃ w1, w1 = w.alloc (.cells #[.int .i64 au, .int .u32 id, .int .u32 nh, .slice ao n cap] 25) := ⟨_, rfl⟩
  have Hw1 : Hid (w1 = w.alloc (.cells #[.int .i64 au, .int .u32 id, .int .u32 nh, .slice ao n cap] 25)) := hw1
  clear hw1
  go_enter Try.func4, Try.ntmps4
  go_wp2_with fail
  go_loopw [6, 7] (fun v i wr => ∃ (k : Nat) (R : Nat → Nat), k ≤ n + 8 ∧ i = .int .i64 k ∧ L1 w1 wr (w.heap.size + 1) n k P R v) (fun _ i _ => n + 8 - (intOf i).toNat)
  case atStart =>
    refine ⟨0, fun _ => 0, Nat.zero_le _, rfl, ?_⟩
    have := Hw1.out
    subst this
    exact L1.start (World.size_alloc _ _) Hsz.out
  case round =>
    obtain ⟨k, R, hk, rfl, hL⟩ := hrel
    have HL : Hid (L1 w1 wr (w.heap.size + 1) n k P R u6) := hL
    clear hL
    have hz1 : w1.heap.size = w.heap.size + 1 := by rw [Hw1.out, World.size_alloc]
    have hBr := HL.out.below
    have hBw : Below w.heap.size w wr := Below.trans (by rw [Hw1.out]; exact (Below.refl _ _).alloc (Nat.le_refl _) _) (hBr.mono (by omega))
    have hbox : wr.heap[w.heap.size]? = some (.cells #[.int .i64 au, .int .u32 id, .int .u32 nh, .slice ao n cap] 25) := by
      rw [hBr.block _ (by omega), Hw1.out]; exact heap_alloc_new _ _
    have hzr := HL.out.all.lt
    by_cases hlt : k < n + 8
    · obtain ⟨q0, y0⟩ := HL.out.all.cellSome (k * 7) (by omega)
      obtain ⟨q1, y1⟩ := HL.out.all.cellSome (k * 7 + 1) (by omega)
      obtain ⟨q2, y2⟩ := HL.out.all.cellSome (k * 7 + 2) (by omega)
      obtain ⟨q3, y3⟩ := HL.out.all.cellSome (k * 7 + 3) (by omega)
      obtain ⟨q4, y4⟩ := HL.out.all.cellSome (k * 7 + 4) (by omega)
      obtain ⟨q5, y5⟩ := HL.out.all.cellSome (k * 7 + 5) (by omega)
      obtain ⟨q6, y6⟩ := HL.out.all.cellSome (k * 7 + 6) (by omega)
      have f0 := HL.out.all.frozen (k * 7)
      have f1 := HL.out.all.frozen (k * 7 + 1)
      have f2 := HL.out.all.frozen (k * 7 + 2)
      have f3 := HL.out.all.frozen (k * 7 + 3)
      have f4 := HL.out.all.frozen (k * 7 + 4)
      have f5 := HL.out.all.frozen (k * 7 + 5)
      have f6 := HL.out.all.frozen (k * 7 + 6)
      by_cases hin : k < n
      · clear y0 y1 y2 y3 y4 y5 y6 f0 f1 f2 f3 f4 f5 f6
        have x3 : wr.cell? ⟨w.heap.size, 3, none⟩ = some (.slice ao n cap) := cell_of_row _ _ _ _ _ _ hbox
        obtain ⟨⟨ao', cap', hv, hcn, _, hcell⟩, hrs⟩ := H.out.cell hBw
        obtain ⟨rfl, _, rfl⟩ : ao = ao' ∧ n = n ∧ cap = cap' := by simpa using hv
        obtain ⟨b, o, hao, hcs⟩ := hcell (by omega)
        subst hao
        obtain ⟨c0, c1, c2, c3, c4, c5, c6⟩ := peer_cells (Below.refl _ _) hcs k hin
        obtain ⟨hri, hre⟩ := hrs k hin
        obtain ⟨ai, ci, ei⟩ := hri.isSlice
        obtain ⟨ae, ce, ee⟩ := hre.isSlice
        have Hei : Hid ((P k).im = .slice ai (P k).ni ci) := ei
        have Hee : Hid ((P k).ex = .slice ae (P k).ne ce) := ee
        obtain ⟨hb1, hb2⟩ := Hbd.out k hin
        have hbl : b < w.heap.size := by
          obtain ⟨⟨ao2, cap2, hv2, _, _, hcell2⟩, _⟩ := H.out
          obtain ⟨b2, o2, hao2, hcs2⟩ := hcell2 (by omega)
          simp at hv2
          rw [← hv2.1] at hao2
          obtain ⟨rfl, rfl⟩ : b = b2 ∧ o = o2 := by simpa using hao2
          exact World.block_lt_of_cell? _ _ (hcs2 k hin 0 _ rfl)
        rw [ei] at hri c5
        rw [ee] at hre c6
        have Hri : Hid (RsAt wr (.slice ai (P k).ni ci) (P k).ni (P k).ir) := hri
        have Hre : Hid (RsAt wr (.slice ae (P k).ne ce) (P k).ne (P k).er) := hre
        have hbr : b < wr.heap.size := by omega
        clear hcs hcell hv hri hre hrs ei ee
        go_wp2_with fail
        refine (room_any _ _ _ (P k).ir _ Hri.out hb1).mono ?_
        rintro e w2 ⟨rfl, hrx, hB2⟩
        have z2 := hrx.lt
        have X3 : w2.cell? ⟨w.heap.size, 3, none⟩ = _ := (hB2.cell (by simp <;> omega)).trans x3
        have C6 : w2.cell? ⟨b, o + k * 7 + 6, none⟩ = _ := (hB2.cell (by simp <;> omega)).trans c6
        have Hrx : Hid (RuleRow w2 wr.heap.size ((P k).ni + 8) ((P k).ni + 8) (roomR (P k).ni (P k).ir)) := hrx
        clear hrx
        go_wp2_with fail
        refine (room_any _ _ _ (P k).er _ (Hre.out.cell hB2) hb2).mono ?_
        rintro e w3 ⟨rfl, hry, hB3⟩
        have z3 := hry.lt
        have Hry : Hid (RuleRow w3 w2.heap.size ((P k).ne + 8) ((P k).ne + 8) (roomR (P k).ne (P k).er)) := hry
        clear hry X3 C6
        obtain ⟨i0', hi', hz0', hz1', hz2'⟩ := info_parts Try.infoRules
        have Hown : Hid (∀ o, (w3.alloc o).ownsRow (w.heap.size + 1 + 1) 31 1 u6 (2 * min k n) ((List.range (2 * min k n)).map (roomV P R))) :=
          fun o => (ownsRow_below HL.out.own (hB2.trans (hB3.mono (by omega)))).alloc o
        go_wp2_with (at_builtin; go_loud (refine wpList_append_own _ rfl (.tmp 51) (.tmp 54) 30 rfl (w.heap.size + 1 + 1) 31 i0' (.slice none 0 0) 1 24 Try.underlying30 hi' hz0' hz1' hz2' rfl (by decide) u6 (2 * min k n) ((List.range (2 * min k n)).map (roomV P R)) rfl (Hown.out _) ⟨w3.heap.size, 0, none⟩ 2 2 [.slice (some ⟨wr.heap.size, 0, none⟩) ((P k).ni + 8) ((P k).ni + 8), .slice (some ⟨w2.heap.size, 0, none⟩) ((P k).ne + 8) ((P k).ne + 8)] rfl rfl ?qhc (by intro u hu; simp at hu; rcases hu with rfl | rfl <;> rfl) (by unfold maxLen; omega) (by omega) (by simp only [World.size_alloc]; omega) ?qnext))
        case qhc =>
          intro j u hu
          match j, hu with
          | 0, hu => simp at hu; subst hu; exact World.cell?_alloc_new _ _ _ _
          | 1, hu => simp at hu; subst hu; exact World.cell?_alloc_new _ _ _ _
          | j + 2, hu => simp at hu
        case qnext =>
          intro v' w5 hown5 hgrow5 hne5
          clear hne5
          have hg5 : (w3.alloc (.cells #[.slice (some ⟨wr.heap.size, 0, none⟩) ((P k).ni + 8) ((P k).ni + 8), .slice (some ⟨w2.heap.size, 0, none⟩) ((P k).ne + 8) ((P k).ne + 8)] 31)).grownBy w5 u6.ownBlock := hgrow5
          have hmid := HL.out.mid hin hzr Hrx.out hB2 Hry.out hB3 hown5 hg5
          have hfin := hmid.fin hin
          rw [Hei.out, Hee.out] at hfin
          have hB5 : Below (w.heap.size + 1) wr w5 := ((((hB2.mono (by omega)).trans (hB3.mono (by omega))).alloc (by omega) _).grown hg5 (by simp only [World.size_alloc]; omega) (fun j hj => by have := (HL.out.own.lt j hj).1; omega))
          have X3 := (hB5.cell (p := ⟨w.heap.size, 3, none⟩) (by simp <;> omega)).trans x3
          have D0 := (hB5.cell (p := ⟨b, o + k * 7, none⟩) (by simp <;> omega)).trans c0
          have D1 := (hB5.cell (p := ⟨b, o + k * 7 + 1, none⟩) (by simp <;> omega)).trans c1
          have D2 := (hB5.cell (p := ⟨b, o + k * 7 + 2, none⟩) (by simp <;> omega)).trans c2
          have D3 := (hB5.cell (p := ⟨b, o + k * 7 + 3, none⟩) (by simp <;> omega)).trans c3
          have D4 := (hB5.cell (p := ⟨b, o + k * 7 + 4, none⟩) (by simp <;> omega)).trans c4
          have D5 := (hB5.cell (p := ⟨b, o + k * 7 + 5, none⟩) (by simp <;> omega)).trans c5
          have D6 := (hB5.cell (p := ⟨b, o + k * 7 + 6, none⟩) (by simp <;> omega)).trans c6
          obtain ⟨r0, y0⟩ := hmid.all.cellSome (k * 7) (by omega)
          obtain ⟨r1, y1⟩ := hmid.all.cellSome (k * 7 + 1) (by omega)
          obtain ⟨r2, y2⟩ := hmid.all.cellSome (k * 7 + 2) (by omega)
          obtain ⟨r3, y3⟩ := hmid.all.cellSome (k * 7 + 3) (by omega)
          obtain ⟨r4, y4⟩ := hmid.all.cellSome (k * 7 + 4) (by omega)
          obtain ⟨r5, y5⟩ := hmid.all.cellSome (k * 7 + 5) (by omega)
          obtain ⟨r6, y6⟩ := hmid.all.cellSome (k * 7 + 6) (by omega)
          have f0 := hmid.all.frozen (k * 7)
          have f1 := hmid.all.frozen (k * 7 + 1)
          have f2 := hmid.all.frozen (k * 7 + 2)
          have f3 := hmid.all.frozen (k * 7 + 3)
          have f4 := hmid.all.frozen (k * 7 + 4)
          have f5 := hmid.all.frozen (k * 7 + 5)
          have f6 := hmid.all.frozen (k * 7 + 6)
          have hbG : b ≠ w.heap.size + 1 := by omega
          have Hfin := hide hfin
          clear hfin hmid hown5 hgrow5 hg5 Hown HL c0 c1 c2 c3 c4 c5 c6 x3 hbox hBr hBw hB2 hB3 hB5 Hrx Hry Hri Hre Hei Hee hi' hz0' hz1' hz2'
          go_wp2_with fail
          go_roundw
          case rel => exact ⟨k + 1, _, by omega, by go_num, Hfin.out⟩
          case measure => simp [intOf]; omega
      · have hst := HL.out.stepOwn (by omega) hlt
        have Hst := hide hst
        clear HL hbox hBw hBr hst
        go_wp2_with fail
        go_roundw
        case rel => exact ⟨k + 1, R, by omega, by go_num, Hst.out⟩
        case measure => simp [intOf]; omega
    · have hkn : k = n + 8 := by omega
      subst hkn
      obtain ⟨va, vcap, hv6, hvlt⟩ := ownsRow_slice HL.out.own
      subst hv6
      have x0 : wr.cell? ⟨w.heap.size, 0, none⟩ = some (.int .i64 au) := cell_of_row _ _ _ _ _ _ hbox
      have x1 : wr.cell? ⟨w.heap.size, 1, none⟩ = some (.int .u32 id) := cell_of_row _ _ _ _ _ _ hbox
      have x2 : wr.cell? ⟨w.heap.size, 2, none⟩ = some (.int .u32 nh) := cell_of_row _ _ _ _ _ _ hbox
      have x3 : wr.cell? ⟨w.heap.size, 3, none⟩ = some (.slice ao n cap) := cell_of_row _ _ _ _ _ _ hbox
      have hzr0 : w.heap.size < wr.heap.size := by omega
      clear hbox hBr hvlt hlt hmk
      have hps := HL.out.ps H.out (by omega) Hbd.out
      go_wp2_with fail
      refine (new_any _ _ _ _ _ _ (newP P R) _ (hps.cell ((Below.refl _ _).alloc (Nat.le_refl _) _))).mono ?_
      rintro e w4 ⟨p1, rfl, hp1, hB4⟩
      rw [faultOf_new] at hp1 ⊢
      have hB4' : Below wr.heap.size wr w4 := ((Below.refl _ _).alloc (Nat.le_refl _) _).trans (hB4.mono (by simp only [World.size_alloc]; omega))
      obtain ⟨F1, hF1⟩ : ∃ F1, (faultOf au id n P).1 = F1 := ⟨_, rfl⟩
      obtain ⟨F2, hF2⟩ : ∃ F2, (faultOf au id n P).2 = F2 := ⟨_, rfl⟩
      rw [hF1, hF2]
      rw [hF1] at hp1
      have HF1 := hide hF1
      have HF2 := hide hF2
      have Hp1 := hide hp1
      have X0 := (hB4'.cell (p := ⟨w.heap.size, 0, none⟩) hzr0).trans x0
      have X1 := (hB4'.cell (p := ⟨w.heap.size, 1, none⟩) hzr0).trans x1
      have X2 := (hB4'.cell (p := ⟨w.heap.size, 2, none⟩) hzr0).trans x2
      have X3 := (hB4'.cell (p := ⟨w.heap.size, 3, none⟩) hzr0).trans x3
      have hz4 : w.heap.size + 1 < w4.heap.size := by have := hB4'.size; omega
      have hz40 : w.heap.size < w4.heap.size := by omega
      clear hF1 hF2 hp1 hB4 hps x0 x1 x2 x3
      go_wp2_with fail
      refine (refNew_any _ _ _ _ _ _ P _ (H.out.cell (hBw.trans ((hB4'.mono hBw.size).trans (((Below.refl _ _).alloc (Nat.le_refl _) _).mono (by omega)))))).mono ?_
      rintro e w6 ⟨p2, rfl, hp2, hB6⟩
      rw [HF1.out, HF2.out]
      rw [HF1.out] at hp2
      have hB6' : Below w4.heap.size w4 w6 := ((Below.refl _ _).alloc (Nat.le_refl _) _).trans (hB6.mono (by simp only [World.size_alloc]; omega))
      have hf : w6.heap[w4.heap.size]? = some (.cells #[.int .i64 F1, .int .i64 F2] 38) := (hB6.block _ (by simp only [World.size_alloc]; omega)).trans (heap_alloc_new _ _)
      have g0 : w6.cell? ⟨w4.heap.size, 0, none⟩ = some (.int .i64 F1) := cell_of_row _ _ _ _ _ _ hf
      have g1 : w6.cell? ⟨w4.heap.size, 1, none⟩ = some (.int .i64 F2) := cell_of_row _ _ _ _ _ _ hf
      have Y0 := (hB6'.cell (p := ⟨w.heap.size, 0, none⟩) hz40).trans X0
      have Y1 := (hB6'.cell (p := ⟨w.heap.size, 1, none⟩) hz40).trans X1
      have Y2 := (hB6'.cell (p := ⟨w.heap.size, 2, none⟩) hz40).trans X2
      have Y3 := (hB6'.cell (p := ⟨w.heap.size, 3, none⟩) hz40).trans X3
      have hz46 : w4.heap.size < w6.heap.size := by have := hB6.size; simp only [World.size_alloc] at this; omega
      have hz6 : w.heap.size + 1 < w6.heap.size := by omega
      have hz60 : w.heap.size < w6.heap.size := by omega
      have hpp : (p1 = none ↔ p2 = none) := by rw [Hp1.out, hp2]
      have Hpp := hide hpp
      clear X0 X1 X2 X3 hf hp2 hB6 hpp
      go_upto_region 19 with fail
      go_cut [129] from 109 (fun v wx => v = .bool false ∧ Below w6.heap.size w6 wx)
      case first =>
        cases p1 with
        | none =>
          obtain rfl : p2 = none := Hpp.out.1 rfl
          go_wp2_with fail
          go_quiet ((go_at_call 8; exact Calls.quiet_of_same (num_any _ _)))
          go_wp2_with fail
          go_meet
          case rel => exact ⟨rfl, below_drewN ((((Below.refl _ _).alloc (Nat.le_refl _) _))) _⟩
        | some a1 =>
          cases p2 with
          | none => exact absurd (Hpp.out.2 rfl) (by simp)
          | some a2 =>
            go_wp2_with fail
            go_quiet ((go_at_call 8; exact Calls.quiet_of_same (num_any _ _)))
            go_wp2_with fail
            go_meet
            case rel => exact ⟨rfl, below_drewN ((((Below.refl _ _).alloc (Nat.le_refl _) _))) _⟩
      case rest =>
        obtain ⟨hv, hBc⟩ := hcut
        subst hv
        have hBall : Below wr.heap.size wr wc := (hB4'.trans (hB6'.mono (by have := hB4'.size; omega))).trans (hBc.mono (by have := hB4'.size; omega))
        have hLc := HL.out.go hBall
        have HLc := hide hLc
        have hzc : w.heap.size + 1 < wc.heap.size := hLc.all.lt
        have hzc0 : w.heap.size < wc.heap.size := by omega
        have Z3 := (hBc.cell (p := ⟨w.heap.size, 3, none⟩) hz60).trans Y3
        clear g0 g1 hLc Y0 Y1 Y2 Y3 hB4' hB6' hBc hBall hz4 hz40 hz46 hz6 hz60 hzr hzr0
        go_wp2_with fail
        go_loopw [15] (fun i wx => ∃ m : Nat, n ≤ m ∧ m ≤ n + 8 ∧ i = .int .i64 m ∧ Below wc.heap.size wc wx) (fun i _ => n + 8 - (intOf i).toNat)
        case atStart => exact ⟨n, Nat.le_refl _, by omega, rfl, Below.refl _ _⟩
        case round =>
          obtain ⟨m, hm1, hm2, rfl, hBx⟩ := hrel
          by_cases hm : m < n + 8
          · have hLx := HLc.out.go hBx
            have c0 : wr.cell? ⟨w.heap.size + 1, m * 7, none⟩ = some (.int .i64 77) := hLx.own7 hm1 hm 0 _ rfl
            have c1 : wr.cell? ⟨w.heap.size + 1, m * 7 + 1, none⟩ = some (.int .i64 78) := hLx.own7 hm1 hm 1 _ rfl
            have c2 : wr.cell? ⟨w.heap.size + 1, m * 7 + 2, none⟩ = some (.int .i64 79) := hLx.own7 hm1 hm 2 _ rfl
            have c3 : wr.cell? ⟨w.heap.size + 1, m * 7 + 3, none⟩ = some (.int .i64 80) := hLx.own7 hm1 hm 3 _ rfl
            have c4 : wr.cell? ⟨w.heap.size + 1, m * 7 + 4, none⟩ = some (.int .i64 81) := hLx.own7 hm1 hm 4 _ rfl
            have c5 : wr.cell? ⟨w.heap.size + 1, m * 7 + 5, none⟩ = some (.slice none 0 0) := hLx.own7 hm1 hm 5 _ rfl
            have c6 : wr.cell? ⟨w.heap.size + 1, m * 7 + 6, none⟩ = some (.slice none 0 0) := hLx.own7 hm1 hm 6 _ rfl
            clear hLx
            go_wp2_with (go_at_call 9; refine (own_any _).mono ?_; rintro e w' ⟨rfl, hBo⟩)
            go_roundw
            case rel => exact ⟨m + 1, by omega, by omega, by go_num, hBx.trans (hBo.mono hBx.size)⟩
            case measure => simp [intOf]; omega
          · have hmn : m = n + 8 := by omega
            subst hmn
            have hL3 := (HLc.out.go hBx).three
            rw [show min (n + 8) n = n from by omega] at hL3
            have HL3 := hide hL3
            clear hL3 hm hm1 hm2
            have hzx : wc.heap.size ≤ wr.heap.size := hBx.size
            clear hBx hBw HL HLc hzc hzc0 Z3 hzx
            go_wp2_with fail
            go_loopw [17] (fun i wx => ∃ k : Nat, k ≤ n ∧ i = .int .i64 k ∧ L3 w1 wx (w.heap.size + 1) n k (2 * k) P R (.slice va (2 * n) vcap)) (fun i _ => n - (intOf i).toNat)
            case atStart => exact ⟨0, Nat.zero_le _, rfl, HL3.out⟩
            case round =>
              obtain ⟨k, hk, rfl, hT⟩ := hrel
              clear HL3
              have hBr := hT.below
              have hBw : Below w.heap.size w wr := Below.trans (by rw [Hw1.out]; exact (Below.refl _ _).alloc (Nat.le_refl _) _) (hBr.mono (by omega))
              have hzr := hT.all.lt
              by_cases hin : k < n
              · have hbox : wr.heap[w.heap.size]? = some (.cells #[.int .i64 au, .int .u32 id, .int .u32 nh, .slice ao n cap] 25) := by
                  rw [hBr.block _ (by omega), Hw1.out]; exact heap_alloc_new _ _
                have x3 : wr.cell? ⟨w.heap.size, 3, none⟩ = some (.slice ao n cap) := cell_of_row _ _ _ _ _ _ hbox
                obtain ⟨⟨ao', cap', hv, hcn, _, hcell⟩, hrs⟩ := H.out
                obtain ⟨rfl, _, rfl⟩ : ao = ao' ∧ n = n ∧ cap = cap' := by simpa using hv
                obtain ⟨b, o, hao, hcs⟩ := hcell (by omega)
                subst hao
                have hbl : b < w.heap.size := World.block_lt_of_cell? _ _ (hcs k hin 0 _ rfl)
                obtain ⟨c0, c1, c2, c3, c4, c5, c6⟩ := peer_cells hBw hcs k hin
                obtain ⟨hri, hre⟩ := hrs k hin
                obtain ⟨ai, ci, ei⟩ := hri.isSlice
                obtain ⟨ae, ce, ee⟩ := hre.isSlice
                obtain ⟨hb1, hb2⟩ := Hbd.out k hin
                rw [ei] at hri c5
                rw [ee] at hre c6
                have Hri := hide hri
                have Hre := hide hre
                obtain ⟨rb, hva, hrb1, hrb2, hrb3, hrbc⟩ := hT.room (by omega)
                subst hva
                obtain ⟨d0, d1, d2, d3, d4, d5, d6⟩ := hT.peer hin
                have HT := hide hT
                have e0 : wr.cell? ⟨rb, 2 * k, none⟩ = some (.slice (some ⟨R (2 * k), 0, none⟩) ((P k).ni + 8) ((P k).ni + 8)) := by
                  have := hrbc (2 * k) (by omega); rw [roomV, nf_even] at this; exact this
                have e1 : wr.cell? ⟨rb, 2 * k + 1, none⟩ = some (.slice (some ⟨R (2 * k + 1), 0, none⟩) ((P k).ne + 8) ((P k).ne + 8)) := by
                  have := hrbc (2 * k + 1) (by omega); rw [roomV, nf_odd] at this; exact this
                have hbr : b < wr.heap.size := by omega
                have hzr0 : w.heap.size < wr.heap.size := by omega
                have hrow0 := HT.out.rooms.row (2 * k) (Nat.le_refl _) (by omega)
                rw [nf_even, rf_even] at hrow0
                have Hrow0 := hide hrow0
                have hR0 := HT.out.rooms.base (2 * k) (by omega)
                have hR0' := hrow0.lt
                have hR1 := HT.out.rooms.base (2 * k + 1) (by omega)
                have Hfar : Hid (∀ (v : Option Addr) (m c : Nat) (r : Nat → Rl) (g : Nat), RsAt w (.slice v m c) m r → w.heap.size ≤ g → ∀ b o, v = some ⟨b, o, none⟩ → 0 < m → b ≠ g) := by
                  intro v m c r g hr hg b2 o2 hv2 hm2
                  obtain ⟨⟨ao3, cap3, hv3, _, _, hcell3⟩, _⟩ := hr
                  obtain ⟨b3, o3, hao3, hcs3⟩ := hcell3 hm2
                  simp at hv3
                  rw [← hv3.1, hv2] at hao3
                  simp at hao3
                  have := World.block_lt_of_cell? _ _ (hcs3 0 hm2 0 _ rfl)
                  simp at this
                  omega
                have Hbw := hide hBw
                have q1 : IntKind.i64.wrap (2 * (k : Int)) = 2 * (k : Int) := by rw [IntKind.wrap_i64]; omega
                have q2 : (2 * (k : Int)).toNat = 2 * k := by omega
                have q3 : 0 ≤ 2 * (k : Int) := by omega
                have q4 : 2 * (k : Int) < 2 * (n : Int) := by omega
                have q5 : IntKind.i64.wrap (2 * (k : Int) + 1) = 2 * (k : Int) + 1 := by rw [IntKind.wrap_i64]; omega
                have q6 : (2 * (k : Int) + 1).toNat = 2 * k + 1 := by omega
                have q7 : 0 ≤ 2 * (k : Int) + 1 := by omega
                have q8 : 2 * (k : Int) + 1 < 2 * (n : Int) := by omega
                clear hT hcs hcell hv hri hre hrs ei ee hrbc hbox hBr hrow0 hBw
                go_wp2_with fail
                go_cut [20] from 144 to 237 (fun v wx => v = .bool true ∧ ((wr.alloc (.cells #[.int .i64 (P k).au, .int .i64 (P k).hold, .int .i64 (P k).lim, .int .i64 (P k).pref, .int .i64 (P k).wait, .slice (some ⟨R (2 * k), 0, none⟩) (P k).ni ((P k).ni + 8), .slice (some ⟨R (2 * k + 1), 0, none⟩) (P k).ne ((P k).ne + 8)] 34)).alloc (.cells #[.int .i64 (P k).au, .int .i64 (P k).hold, .int .i64 (P k).lim, .int .i64 (P k).pref, .int .i64 (P k).wait, .slice ai (P k).ni ci, .slice ae (P k).ne ce] 34)).grownBy wx (some (R (2 * k))))
                case first =>
                  go_region_with (go_at_call 10; go_loud (refine (still_any (R (2 * k)) ai (P k).ni ci (P k).ir _ (by exact Hrow0.out.below (B := wr.heap.size) (by repeat (first | exact Below.refl _ _ | refine Below.drew ?_ | refine Below.alloc ?_ (by simp <;> omega) _)) hR0') (Hri.out.cell (by repeat (first | exact Hbw.out | refine Below.drew ?_ | refine Below.alloc ?_ (by first | omega | (simp only [World.size_alloc]; omega)) _)) ) (Hfar.out _ _ _ _ _ Hri.out (by omega)) hb1).mono ?_); go_loud (rintro e w' ⟨rfl, hgr⟩))
                  all_goals go_wp2_with fail
                  all_goals go_meet
                  all_goals case rel => exact ⟨rfl, grownBy_drew hgr⟩
                case rest =>
                  obtain ⟨hv20, hgr⟩ := hcut
                  subst hv20
                  have hBX : Below wr.heap.size wr ((wr.alloc (.cells #[.int .i64 (P k).au, .int .i64 (P k).hold, .int .i64 (P k).lim, .int .i64 (P k).pref, .int .i64 (P k).wait, .slice (some ⟨R (2 * k), 0, none⟩) (P k).ni ((P k).ni + 8), .slice (some ⟨R (2 * k + 1), 0, none⟩) (P k).ne ((P k).ne + 8)] 34)).alloc (.cells #[.int .i64 (P k).au, .int .i64 (P k).hold, .int .i64 (P k).lim, .int .i64 (P k).pref, .int .i64 (P k).wait, .slice ai (P k).ni ci, .slice ae (P k).ne ce] 34)) := ((Below.refl _ _).alloc (Nat.le_refl _) _).alloc (by simp only [World.size_alloc]; omega) _
                  have hzX : ((wr.alloc (.cells #[.int .i64 (P k).au, .int .i64 (P k).hold, .int .i64 (P k).lim, .int .i64 (P k).pref, .int .i64 (P k).wait, .slice (some ⟨R (2 * k), 0, none⟩) (P k).ni ((P k).ni + 8), .slice (some ⟨R (2 * k + 1), 0, none⟩) (P k).ne ((P k).ne + 8)] 34)).alloc (.cells #[.int .i64 (P k).au, .int .i64 (P k).hold, .int .i64 (P k).lim, .int .i64 (P k).pref, .int .i64 (P k).wait, .slice ai (P k).ni ci, .slice ae (P k).ne ce] 34)).heap.size = wr.heap.size + 1 + 1 := by simp only [World.size_alloc]
                  have hgx : wc.heap[wr.heap.size]? = _ := (hgr.block wr.heap.size (by rw [hzX]; omega) (by simp <;> omega)).trans (heap_alloc2_old wr (.cells #[.int .i64 (P k).au, .int .i64 (P k).hold, .int .i64 (P k).lim, .int .i64 (P k).pref, .int .i64 (P k).wait, .slice (some ⟨R (2 * k), 0, none⟩) (P k).ni ((P k).ni + 8), .slice (some ⟨R (2 * k + 1), 0, none⟩) (P k).ne ((P k).ne + 8)] 34) (.cells #[.int .i64 (P k).au, .int .i64 (P k).hold, .int .i64 (P k).lim, .int .i64 (P k).pref, .int .i64 (P k).wait, .slice ai (P k).ni ci, .slice ae (P k).ne ce] 34))
                  have hgy : wc.heap[wr.heap.size + 1]? = _ := (hgr.block (wr.heap.size + 1) (by rw [hzX]; omega) (by simp <;> omega)).trans (heap_alloc2_new wr (.cells #[.int .i64 (P k).au, .int .i64 (P k).hold, .int .i64 (P k).lim, .int .i64 (P k).pref, .int .i64 (P k).wait, .slice (some ⟨R (2 * k), 0, none⟩) (P k).ni ((P k).ni + 8), .slice (some ⟨R (2 * k + 1), 0, none⟩) (P k).ne ((P k).ne + 8)] 34) (.cells #[.int .i64 (P k).au, .int .i64 (P k).hold, .int .i64 (P k).lim, .int .i64 (P k).pref, .int .i64 (P k).wait, .slice ai (P k).ni ci, .slice ae (P k).ne ce] 34))
                  have hT2 := (HT.out.go hBX).stilled (by omega) hgr
                  have hB2 : Below w.heap.size w wc := Below.trans (by rw [Hw1.out]; exact (Below.refl _ _).alloc (Nat.le_refl _) _) (hT2.below.mono (by omega))
                  obtain ⟨rb2, hva2, _, hrb4, _, hrbc2⟩ := hT2.room (by omega)
                  obtain rfl : rb = rb2 := by simpa using hva2
                  have E1 : wc.cell? ⟨rb, 2 * k + 1, none⟩ = some (.slice (some ⟨R (2 * k + 1), 0, none⟩) ((P k).ne + 8) ((P k).ne + 8)) := by
                    have := hrbc2 (2 * k + 1) (by omega); rw [roomV, nf_odd] at this; exact this
                  have t6 : wc.cell? ⟨wr.heap.size + 1, 6, none⟩ = some (.slice ae (P k).ne ce) := cell_of_row _ _ _ _ _ _ hgy
                  have hrow1 := hT2.rooms.row (2 * k + 1) (Nat.le_refl _) (by omega)
                  rw [nf_odd, rf_odd] at hrow1
                  have Hrow1 := hide hrow1
                  have hR1' := hrow1.lt
                  have hR1w : R (2 * k + 1) < wr.heap.size := by
                    have := (HT.out.rooms.row (2 * k + 1) (by omega) (by omega)).lt; exact this
                  have HT2 := hide hT2
                  have Hgx := hide hgx
                  have Hgy := hide hgy
                  have HB2 := hide hB2
                  have hzc2 : wr.heap.size + 1 + 1 ≤ wc.heap.size := by have := hgr.size; rw [hzX] at this; exact this
                  clear hgx hgy hgr hBX hzX hT2 hva2 hrbc2 hrow1 HT Hrow0 hB2 Hbw c0 c1 c2 c3 c4 c5 c6 d0 d1 d2 d3 d4 d5 d6 e0 e1 x3
                  go_wp2_with fail
                  go_cut [21] from 144 to 237 (fun v wx => v = .bool true ∧ wc.grownBy wx (some (R (2 * k + 1))))
                  case first =>
                    go_region_with (go_at_call 10; go_loud (refine (still_any (R (2 * k + 1)) ae (P k).ne ce (P k).er _ (by exact Hrow1.out.below (B := wc.heap.size) (by repeat (first | exact Below.refl _ _ | refine Below.drew ?_)) hR1') (Hre.out.cell (by repeat (first | exact HB2.out | refine Below.drew ?_))) (Hfar.out _ _ _ _ _ Hre.out (by omega)) hb2).mono ?_); go_loud (rintro e w' ⟨rfl, hgr⟩))
                    all_goals go_wp2_with fail
                    all_goals go_meet
                    all_goals case rel => exact ⟨rfl, grownBy_drew hgr⟩
                  case rest =>
                    obtain ⟨hv21, hgr⟩ := hcut
                    subst hv21
                    have hT3 := HT2.out.stilled (by omega) hgr
                    have X0 : wc.cell? ⟨wr.heap.size, 0, none⟩ = some (.int .i64 (P k).au) := grownBy_cell hgr (by omega) (cell_of_row _ _ _ _ _ _ Hgx.out)
                    have Y0 : wc.cell? ⟨wr.heap.size + 1, 0, none⟩ = some (.int .i64 (P k).au) := grownBy_cell hgr (by omega) (cell_of_row _ _ _ _ _ _ Hgy.out)
                    have X1 : wc.cell? ⟨wr.heap.size, 1, none⟩ = some (.int .i64 (P k).hold) := grownBy_cell hgr (by omega) (cell_of_row _ _ _ _ _ _ Hgx.out)
                    have Y1 : wc.cell? ⟨wr.heap.size + 1, 1, none⟩ = some (.int .i64 (P k).hold) := grownBy_cell hgr (by omega) (cell_of_row _ _ _ _ _ _ Hgy.out)
                    have X2 : wc.cell? ⟨wr.heap.size, 2, none⟩ = some (.int .i64 (P k).lim) := grownBy_cell hgr (by omega) (cell_of_row _ _ _ _ _ _ Hgx.out)
                    have Y2 : wc.cell? ⟨wr.heap.size + 1, 2, none⟩ = some (.int .i64 (P k).lim) := grownBy_cell hgr (by omega) (cell_of_row _ _ _ _ _ _ Hgy.out)
                    have X3 : wc.cell? ⟨wr.heap.size, 3, none⟩ = some (.int .i64 (P k).pref) := grownBy_cell hgr (by omega) (cell_of_row _ _ _ _ _ _ Hgx.out)
                    have Y3 : wc.cell? ⟨wr.heap.size + 1, 3, none⟩ = some (.int .i64 (P k).pref) := grownBy_cell hgr (by omega) (cell_of_row _ _ _ _ _ _ Hgy.out)
                    have X4 : wc.cell? ⟨wr.heap.size, 4, none⟩ = some (.int .i64 (P k).wait) := grownBy_cell hgr (by omega) (cell_of_row _ _ _ _ _ _ Hgx.out)
                    have Y4 : wc.cell? ⟨wr.heap.size + 1, 4, none⟩ = some (.int .i64 (P k).wait) := grownBy_cell hgr (by omega) (cell_of_row _ _ _ _ _ _ Hgy.out)
                    have X5 : wc.cell? ⟨wr.heap.size, 5, none⟩ = some (.slice (some ⟨R (2 * k), 0, none⟩) (P k).ni ((P k).ni + 8)) := grownBy_cell hgr (by omega) (cell_of_row _ _ _ _ _ _ Hgx.out)
                    have Y5 : wc.cell? ⟨wr.heap.size + 1, 5, none⟩ = some (.slice ai (P k).ni ci) := grownBy_cell hgr (by omega) (cell_of_row _ _ _ _ _ _ Hgy.out)
                    have X6 : wc.cell? ⟨wr.heap.size, 6, none⟩ = some (.slice (some ⟨R (2 * k + 1), 0, none⟩) (P k).ne ((P k).ne + 8)) := grownBy_cell hgr (by omega) (cell_of_row _ _ _ _ _ _ Hgx.out)
                    have Y6 : wc.cell? ⟨wr.heap.size + 1, 6, none⟩ = some (.slice ae (P k).ne ce) := grownBy_cell hgr (by omega) (cell_of_row _ _ _ _ _ _ Hgy.out)
                    obtain ⟨r0, z0⟩ := hT3.all.cellSome (k * 7) (by omega)
                    have f0 := hT3.all.frozen (k * 7)
                    obtain ⟨r1, z1⟩ := hT3.all.cellSome (k * 7 + 1) (by omega)
                    have f1 := hT3.all.frozen (k * 7 + 1)
                    obtain ⟨r2, z2⟩ := hT3.all.cellSome (k * 7 + 2) (by omega)
                    have f2 := hT3.all.frozen (k * 7 + 2)
                    obtain ⟨r3, z3⟩ := hT3.all.cellSome (k * 7 + 3) (by omega)
                    have f3 := hT3.all.frozen (k * 7 + 3)
                    obtain ⟨r4, z4⟩ := hT3.all.cellSome (k * 7 + 4) (by omega)
                    have f4 := hT3.all.frozen (k * 7 + 4)
                    obtain ⟨r5, z5⟩ := hT3.all.cellSome (k * 7 + 5) (by omega)
                    have f5 := hT3.all.frozen (k * 7 + 5)
                    obtain ⟨r6, z6⟩ := hT3.all.cellSome (k * 7 + 6) (by omega)
                    have f6 := hT3.all.frozen (k * 7 + 6)
                    have hT4 := fun v0 v1 v2 v3 v4 v5 v6 => hT3.put hin v0 v1 v2 v3 v4 v5 v6
                    have HT4 := hide hT4
                    clear hT3 hT4 hgr Hgx Hgy HT2 HB2 Hrow1 E1 t6 Hri Hre Hfar
                    go_wp2_with fail
                    go_roundw
                    case rel =>
                      (repeat apply Exists.intro)
                      exact ⟨⟨k + 1, by omega, by go_num, HT4.out _ _ _ _ _ _ _⟩, rfl⟩
                    case measure => simp [intOf]; omega
              · have hkn : k = n := by omega
                subst hkn
                clear hT
                have Hp1' := hide (Hp1.out)
                cases p1 with
                | none =>
                  have hF := Hp1.out.1 rfl
                  have HF := hide hF
                  clear hF
                  go_wp2_with fail
                  go_ret2
                  exact ⟨none, rfl, by rw [HF1.out]; simpa using HF.out, hBw⟩
                | some a1 =>
                  have hF : F1 = 0 := by
                    rcases Classical.em (F1 = 0) with h0 | h0
                    · exact h0
                    · exact absurd (Hp1.out.2 h0) (by simp)
                  have HF := hide hF
                  clear hF
                  go_wp2_with fail
                  go_ret2
                  exact ⟨some _, rfl, by rw [HF1.out, HF.out]; simp, hBw.alloc hBw.size _⟩

end Go.Proofs.Ytmgcndpcbpkjaaa
