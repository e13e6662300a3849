/- session.New: whatever peer of the configuration. -/
import Derived.Test.YtmgcndpcbpkjaaaNewHead
import Derived.Test.YtmgcndpcbpkjaaaStepOwn
import Derived.Test.YtmgcndpcbpkjaaaLinB
namespace Go.Proofs.Ytmgcndpcbpkjaaa
open Go.RowKit
open Go.Proofs.Ytmgcndpcbpkjaaa.Pool (okOps topB wp_region_lb wp_region_lin TabPD TabP)
set_option linter.unusedSimpArgs false
set_option linter.unusedVariables false
set_option maxHeartbeats 1000000
set_option maxRecDepth 20000

theorem cell_b {w : World} {b : Nat} {C : Array Value} {t : TypeId} (h : w.heap[b]? = some (.cells C t (0, 0))) (i : Nat) : w.cell? ⟨b, i, none⟩ = C[i]? := by simp [World.cell?, h]
theorem set_b {w : World} {b : Nat} {C : Array Value} {t : TypeId} (h : w.heap[b]? = some (.cells C t (0, 0))) (i : Nat) (v : Value) : (w.setCell ⟨b, i, none⟩ v).heap[b]? = some (.cells (C.setIfInBounds i v) t (0, 0)) := by
  simp [World.setCell, Array.getElem?_modify, h]
theorem frozen_b {w : World} {b : Nat} {C : Array Value} {t : TypeId} (h : w.heap[b]? = some (.cells C t (0, 0))) (i : Nat) : w.frozen? ⟨b, i, none⟩ = false := by simp [World.frozen?, h]
noncomputable def opsOf (n : Nat) : Code → Option (Array Oper)
  | .region id ops _ => if id = n then some ops else none
  | .seq x y => (opsOf n x).orElse fun _ => opsOf n y
  | .cond _ x y => (opsOf n x).orElse fun _ => opsOf n y
  | .block _ c => opsOf n c
  | .loop c => opsOf n c
  | _ => none
/-- A peer as own peers lie. -/
structure Q7 where
  a0 : Int
  a1 : Int
  a2 : Int
  a3 : Int
  a4 : Int
  s5 : Option Addr
  m5 : Nat
  c5 : Nat
  s6 : Option Addr
  m6 : Nat
  c6 : Nat
def Q7.cells (q : Q7) : Array Value := #[.int .i64 q.a0, .int .i64 q.a1, .int .i64 q.a2, .int .i64 q.a3, .int .i64 q.a4, .slice q.s5 q.m5 q.c5, .slice q.s6 q.m6 q.c6]
def sess21 (au id nh : Int) (g n cap k : Nat) (q : Q7) (r : Nat) : Array Value :=
  #[.int .i64 au, .int .u32 id, .int .u32 nh, .slice (some ⟨g, 0, none⟩) n cap, .int .i64 (k : Int), .int .i64 q.a0, .int .i64 q.a1, .int .i64 q.a2, .int .i64 q.a3, .int .i64 q.a4, .slice q.s5 q.m5 q.c5, .slice q.s6 q.m6 q.c6,
    .int .i64 0, .int .u32 0, .int .i64 0, .int .i64 0, .int .i64 0, .slice none 0 0, .map (some r), .map none, .slice none 0 0]
theorem sess21_one (au id nh : Int) (g n cap k : Nat) (q : Q7) (r : Nat) : ∀ u ∈ (sess21 au id nh g n cap k q r).toList, u.oneCell' = true := by
  intro u hu
  simp [sess21] at hu
  repeat (rcases hu with rfl | hu; · rfl)
  first | (subst hu; rfl) | done

def nsV (cb au id nh : Int) (g n cap k : Nat) (q : Q7) (cbn : Nat) : Nat → Value → World → Prop
  | 0, v, _ => v = .agg #[.int .i64 au, .int .u32 id, .int .u32 nh, .slice (some ⟨g, 0, none⟩) n cap]
  | 1, v, _ => v = .int .i64 (k : Int)
  | 2, v, _ => v = .pointer (some ⟨cbn, 3, none⟩)
  | 3, v, _ => v = .slice (some ⟨g, 0, none⟩) n cap
  | 4, v, _ => v = .int .i64 (k : Int)
  | 5, v, _ => v = .pointer (some ⟨g, k * 7, none⟩)
  | 6, v, _ => v = .agg q.cells
  | 7, v, _ => ∃ r, v = .map (some r)
  | 8, v, _ => ∃ r, v = .agg (sess21 au id nh g n cap k q r)
  | _, _, _ => True
theorem nsV_mono {cb au id nh : Int} {g n cap k : Nat} {q : Q7} {cbn : Nat} (w w' : World) (j : Nat) (u : Value) (hB : Below w.heap.size w w') (h : nsV cb au id nh g n cap k q cbn j u w) : nsV cb au id nh g n cap k q cbn j u w' := by
  unfold nsV at h ⊢
  split at h <;> exact h
noncomputable def nsOps : Array Oper := ((Try.f14.body).bind (opsOf 1)).getD #[]
theorem ns_ok : okOps nsOps [1, 2, 4] 14 = true := by kernel_rfl
theorem ns_top : topB nsOps = true := by kernel_rfl
theorem ns_size : nsOps.size = 10 := by kernel_rfl

theorem ns_hop {Q : Exit → Act → World → Prop} {cb au id nh : Int} {g n cap k : Nat} {q : Q7} {cbn : Nat} {w0 : World} (hcb : cbn < w0.heap.size) (hg : g < w0.heap.size) (hk : k < n) (hnc : n ≤ cap) (hn8 : n ≤ 8)
    (c0 : w0.cell? ⟨cbn, 0, none⟩ = some (.int .i64 au)) (c1 : w0.cell? ⟨cbn, 1, none⟩ = some (.int .u32 id)) (c2 : w0.cell? ⟨cbn, 2, none⟩ = some (.int .u32 nh)) (c3 : w0.cell? ⟨cbn, 3, none⟩ = some (.slice (some ⟨g, 0, none⟩) n cap))
    (d0 : w0.cell? ⟨g, k * 7, none⟩ = some (.int .i64 q.a0)) (d1 : w0.cell? ⟨g, k * 7 + 1, none⟩ = some (.int .i64 q.a1)) (d2 : w0.cell? ⟨g, k * 7 + 2, none⟩ = some (.int .i64 q.a2)) (d3 : w0.cell? ⟨g, k * 7 + 3, none⟩ = some (.int .i64 q.a3)) (d4 : w0.cell? ⟨g, k * 7 + 4, none⟩ = some (.int .i64 q.a4)) (d5 : w0.cell? ⟨g, k * 7 + 5, none⟩ = some (.slice q.s5 q.m5 q.c5)) (d6 : w0.cell? ⟨g, k * 7 + 6, none⟩ = some (.slice q.s6 q.m6 q.c6))
    (i : Nat) (o : Oper) (a : Act) (w : World) (hi : i < 9) (ho : nsOps[i]? = some o) (f1 : a.tmps[1]? = some (.int .i64 (k : Int))) (f2 : a.tmps[2]? = some (.pointer (some ⟨cbn, 0, none⟩)))
    (hdep : ∀ (j : Nat) (o' : Oper) (d : Nat), nsOps[j]? = some o' → o'.dst = some d → (∃ e ∈ o.after, e.on = j ∧ Region.binds .any e = true) → ∃ v, a.tmps[d]? = some v ∧ nsV cb au id nh g n cap k q cbn j v w) (hs : Below w0.heap.size w0 w)
    (K : Act → World → Prop) (hK : ∀ v w', nsV cb au id nh g n cap k q cbn i v w' → Below w.heap.size w w' → K (a.put o.dst v) w') : o.wp Try.prog a w K Q := by
  have e0 := (hs.cell (p := ⟨cbn, 0, none⟩) hcb).trans c0
  have e1 := (hs.cell (p := ⟨cbn, 1, none⟩) hcb).trans c1
  have e2 := (hs.cell (p := ⟨cbn, 2, none⟩) hcb).trans c2
  have e3 := (hs.cell (p := ⟨cbn, 3, none⟩) hcb).trans c3
  have b0 := (hs.cell (p := ⟨g, k * 7, none⟩) hg).trans d0
  have b1 := (hs.cell (p := ⟨g, k * 7 + 1, none⟩) hg).trans d1
  have b2 := (hs.cell (p := ⟨g, k * 7 + 2, none⟩) hg).trans d2
  have b3 := (hs.cell (p := ⟨g, k * 7 + 3, none⟩) hg).trans d3
  have b4 := (hs.cell (p := ⟨g, k * 7 + 4, none⟩) hg).trans d4
  have b5 := (hs.cell (p := ⟨g, k * 7 + 5, none⟩) hg).trans d5
  have b6 := (hs.cell (p := ⟨g, k * 7 + 6, none⟩) hg).trans d6
  clear c0 c1 c2 c3 d0 d1 d2 d3 d4 d5 d6
  obtain rfl | rfl | rfl | rfl | rfl | rfl | rfl | rfl | rfl : i = 0 ∨ i = 1 ∨ i = 2 ∨ i = 3 ∨ i = 4 ∨ i = 5 ∨ i = 6 ∨ i = 7 ∨ i = 8 := by omega
  all_goals
    simp only [nsOps, Try.f14, opsOf, Option.bind_some] at ho
    simp [opsOf] at ho
    subst ho
  · unfold Oper.wp execOp
    simp only [Act.eval, Array.getD_eq_getD_getElem?, f2, Option.getD_some]
    go_simp
    exact hK _ _ rfl (Below.refl _ _)
  · unfold Oper.wp execOp
    simp only [Act.eval, Array.getD_eq_getD_getElem?, f1, Option.getD_some]
    go_simp
    exact hK _ _ rfl (Below.refl _ _)
  · unfold Oper.wp execOp
    simp only [Act.eval, Array.getD_eq_getD_getElem?, f2, Option.getD_some]
    go_simp
    exact hK _ _ rfl (Below.refl _ _)
  · obtain ⟨u0, h0, p0⟩ := hdep 2 _ _ rfl rfl ⟨⟨2, .data⟩, by simp, rfl, rfl⟩
    simp only [nsV] at p0
    try subst p0
    unfold Oper.wp execOp
    simp only [Act.eval, Array.getD_eq_getD_getElem?, h0, Option.getD_some]
    go_simp
    exact hK _ _ rfl (Below.refl _ _)
  · unfold Oper.wp execOp
    simp only [Act.eval, Array.getD_eq_getD_getElem?, f1, Option.getD_some]
    go_simp
    exact hK _ _ rfl (Below.refl _ _)
  · obtain ⟨u0, h0, p0⟩ := hdep 3 _ _ rfl rfl ⟨⟨3, .data⟩, by simp, rfl, rfl⟩
    simp only [nsV] at p0
    try subst p0
    obtain ⟨u1, h1, p1⟩ := hdep 4 _ _ rfl rfl ⟨⟨4, .data⟩, by simp, rfl, rfl⟩
    simp only [nsV] at p1
    try subst p1
    unfold Oper.wp execOp
    simp only [Act.eval, Array.getD_eq_getD_getElem?, h0, h1, Option.getD_some]
    go_simp
    exact hK _ _ rfl (Below.refl _ _)
  · obtain ⟨u0, h0, p0⟩ := hdep 5 _ _ rfl rfl ⟨⟨5, .data⟩, by simp, rfl, rfl⟩
    simp only [nsV] at p0
    try subst p0
    unfold Oper.wp execOp
    simp only [Act.eval, Array.getD_eq_getD_getElem?, h0, Option.getD_some]
    go_simp
    exact hK _ _ rfl (Below.refl _ _)
  · unfold Oper.wp execOp
    go_simp
    exact hK _ _ ⟨_, rfl⟩ ((Below.refl _ _).alloc (Nat.le_refl _) _)
  · obtain ⟨u0, h0, p0⟩ := hdep 0 _ _ rfl rfl ⟨⟨0, .data⟩, by simp, rfl, rfl⟩
    simp only [nsV] at p0
    try subst p0
    obtain ⟨u1, h1, p1⟩ := hdep 1 _ _ rfl rfl ⟨⟨1, .data⟩, by simp, rfl, rfl⟩
    simp only [nsV] at p1
    try subst p1
    obtain ⟨u2, h2, p2⟩ := hdep 6 _ _ rfl rfl ⟨⟨6, .data⟩, by simp, rfl, rfl⟩
    simp only [nsV] at p2
    try subst p2
    obtain ⟨u3, h3, p3⟩ := hdep 7 _ _ rfl rfl ⟨⟨7, .data⟩, by simp, rfl, rfl⟩
    simp only [nsV] at p3
    obtain ⟨r, rfl⟩ := p3
    simp only [Q7.cells] at h2
    unfold Oper.wp execOp
    simp only [Act.eval, Array.getD_eq_getD_getElem?, h0, h1, h2, h3, Option.getD_some]
    go_simp
    exact hK _ _ ⟨r, rfl⟩ (Below.refl _ _)

def z21 : Array Value := #[.int .i64 0, .int .u32 0, .int .u32 0, .slice none 0 0, .int .i64 0, .int .i64 0, .int .i64 0, .int .i64 0, .int .i64 0, .int .i64 0, .slice none 0 0, .slice none 0 0, .int .i64 0, .int .u32 0, .int .i64 0, .int .i64 0, .int .i64 0, .slice none 0 0, .map none, .map none, .slice none 0 0]

theorem info21 : (Try.prog.info? 65).map (·.size) = some (21 : Nat) := by kernel_rfl
theorem ns_last {Q : Exit → Act → World → Prop} {au id nh : Int} {g n cap k : Nat} {q : Q7} {cbn fb : Nat} {w W : World} (hy : W.heap[fb]? = some (.cells z21 65 (0, 0))) (hfb : w.heap.size ≤ fb) (hB0 : Below w.heap.size w W)
    (o : Oper) (a : Act) (wx : World) (ho : nsOps[9]? = some o) (f4 : a.tmps[4]? = some (.pointer (some ⟨fb, 0, none⟩)))
    (hdep : ∀ (j : Nat) (o' : Oper) (d : Nat), nsOps[j]? = some o' → o'.dst = some d → (∃ e ∈ o.after, e.on = j ∧ Region.binds .any e = true) → ∃ v, a.tmps[d]? = some v ∧ nsV 0 au id nh g n cap k q cbn j v wx) (hs : Below W.heap.size W wx)
    (K : Act → World → Prop) (hK : ∀ v w', (∃ r, w'.heap[fb]? = some (.cells (sess21 au id nh g n cap k q r) 65 (0, 0)) ∧ Below w.heap.size w w') → K (a.put o.dst v) w') : o.wp Try.prog a wx K Q := by
  simp only [nsOps, Try.f14, opsOf, Option.bind_some] at ho
  simp [opsOf] at ho
  subst ho
  obtain ⟨u1, h1, p1⟩ := hdep 8 _ _ rfl rfl ⟨⟨8, .data⟩, by simp, rfl, rfl⟩
  simp only [nsV] at p1
  obtain ⟨r, rfl⟩ := p1
  have hy2 := (hs.block fb (Array.getElem?_eq_some_iff.1 hy).1).trans hy
  have hb0 : Below w.heap.size w wx := hB0.trans (hs.mono hB0.size)
  refine wp_store_row 65 (.tmp 4) (.tmp 13) rfl fb (sess21 au id nh g n cap k q r) (by simp [Act.eval, Array.getD_eq_getD_getElem?, f4]) (by simp [Act.eval, Array.getD_eq_getD_getElem?, h1]) 65 z21 hy2 info21 rfl (Array.all_eq_true_iff_forall_mem.2 fun u hu => sess21_one _ _ _ _ _ _ _ _ _ u (by simpa using hu)) ?_
  refine hK undef _ ⟨r, ?_, ?_⟩
  · exact setRow_heap wx fb z21 _ _ _ hy2
  · refine ⟨hb0.os, hb0.tape, hb0.output, by simpa using hb0.size, fun b hb => ?_⟩
    rw [setRow_other _ _ _ _ (by omega)]
    exact hb0.block b hb

theorem res_ns : Try.func14 = Try.func14 := rfl
theorem arr14' {C : Array Value} (h : C.size = 14) : ∃ c0 c1 c2 c3 c4 c5 c6 c7 c8 c9 c10 c11 c12 c13, C = #[c0, c1, c2, c3, c4, c5, c6, c7, c8, c9, c10, c11, c12, c13] := by
  obtain ⟨l⟩ := C
  match l, h with
  | [c0, c1, c2, c3, c4, c5, c6, c7, c8, c9, c10, c11, c12, c13], _ => exact ⟨_, _, _, _, _, _, _, _, _, _, _, _, _, _, rfl⟩

theorem session_new (au id nh : Int) (g n cap k : Nat) (q : Q7) (w : World) (hg : g < w.heap.size) (hk : k < n) (hnc : n ≤ cap) (hn8 : n ≤ 8)
    (d0 : w.cell? ⟨g, k * 7, none⟩ = some (.int .i64 q.a0)) (d1 : w.cell? ⟨g, k * 7 + 1, none⟩ = some (.int .i64 q.a1)) (d2 : w.cell? ⟨g, k * 7 + 2, none⟩ = some (.int .i64 q.a2)) (d3 : w.cell? ⟨g, k * 7 + 3, none⟩ = some (.int .i64 q.a3)) (d4 : w.cell? ⟨g, k * 7 + 4, none⟩ = some (.int .i64 q.a4)) (d5 : w.cell? ⟨g, k * 7 + 5, none⟩ = some (.slice q.s5 q.m5 q.c5)) (d6 : w.cell? ⟨g, k * 7 + 6, none⟩ = some (.slice q.s6 q.m6 q.c6)) :
    Calls Try.prog 14 #[.agg #[.int .i64 au, .int .u32 id, .int .u32 nh, .slice (some ⟨g, 0, none⟩) n cap], .int .i64 (k : Int)] w fun e w' => (∃ r, e = .returned (.agg (sess21 au id nh g n cap k q r))) ∧ Below w.heap.size w w' := by
  have hB0 : Below w.heap.size w ((w.alloc (.cells #[.int .i64 au, .int .u32 id, .int .u32 nh, .slice (some ⟨g, 0, none⟩) n cap] 25)).alloc (.cells z21 65)) := ((Below.refl _ _).alloc (Nat.le_refl _) _).alloc (by simp) _
  have hx := heap_alloc2_old w (.cells #[.int .i64 au, .int .u32 id, .int .u32 nh, .slice (some ⟨g, 0, none⟩) n cap] 25) (.cells z21 65)
  have hy := heap_alloc2_new w (.cells #[.int .i64 au, .int .u32 id, .int .u32 nh, .slice (some ⟨g, 0, none⟩) n cap] 25) (.cells z21 65)
  have hz : ((w.alloc (.cells #[.int .i64 au, .int .u32 id, .int .u32 nh, .slice (some ⟨g, 0, none⟩) n cap] 25)).alloc (.cells z21 65)).heap.size = w.heap.size + 2 := by simp
  have D0 := (hB0.cell (p := ⟨g, k * 7, none⟩) hg).trans d0
  have D1 := (hB0.cell (p := ⟨g, k * 7 + 1, none⟩) hg).trans d1
  have D2 := (hB0.cell (p := ⟨g, k * 7 + 2, none⟩) hg).trans d2
  have D3 := (hB0.cell (p := ⟨g, k * 7 + 3, none⟩) hg).trans d3
  have D4 := (hB0.cell (p := ⟨g, k * 7 + 4, none⟩) hg).trans d4
  have D5 := (hB0.cell (p := ⟨g, k * 7 + 5, none⟩) hg).trans d5
  have D6 := (hB0.cell (p := ⟨g, k * 7 + 6, none⟩) hg).trans d6
  clear d0 d1 d2 d3 d4 d5 d6
  go_enter Try.func14, Try.ntmps14
  go_wp2_with fail
  generalize hW : ((w.alloc (.cells #[.int .i64 au, .int .u32 id, .int .u32 nh, .slice (some ⟨g, 0, none⟩) n cap] 25)).alloc (.cells z21 65)) = W at hB0 hx hy hz D0 D1 D2 D3 D4 D5 D6
  have hW2 : ((w.alloc (.cells #[.int .i64 au, .int .u32 id, .int .u32 nh, .slice (some ⟨g, 0, none⟩) n cap] 25)).alloc (.cells #[.int .i64 0, .int .u32 0, .int .u32 0, .slice none 0 0, .int .i64 0, .int .i64 0, .int .i64 0, .int .i64 0, .int .i64 0, .int .i64 0, .slice none 0 0, .slice none 0 0, .int .i64 0, .int .u32 0, .int .i64 0, .int .i64 0, .int .i64 0, .slice none 0 0, .map none, .map none, .slice none 0 0] 65)) = W := hW
  rw [hW2]
  clear hW hW2
  refine wp_region_lb (D := _) (ops := nsOps) (val := nsV 0 au id nh g n cap k q w.heap.size) (fix := [(1, .int .i64 (k : Int)), (2, .pointer (some ⟨w.heap.size, 0, none⟩)), (4, .pointer (some ⟨w.heap.size + 1, 0, none⟩))]) (T := 14) (w0 := W)
    (Post := fun (_ : Act) (w' : World) => ∃ r, w'.heap[w.heap.size + 1]? = some (.cells (sess21 au id nh g n cap k q r) 65 (0, 0)) ∧ Below w.heap.size w w') (n := 9) (by kernel_rfl) ns_ok ns_top ns_size nsV_mono
    (fun i o a wx hi ho hfx hdep hs K hK => ns_hop (by omega) (by omega) hk hnc hn8 (cell_b hx 0) (cell_b hx 1) (cell_b hx 2) (cell_b hx 3) D0 D1 D2 D3 D4 D5 D6 i o a wx hi ho (hfx (1, .int .i64 (k : Int)) (by simp)) (hfx (2, .pointer (some ⟨w.heap.size, 0, none⟩)) (by simp)) hdep hs K hK)
    (fun o a wx ho hfx hdep hs K hK => ?_) (fun a wx hdf hsz hfx hP => ?_) rfl rfl ?_ ?_
  · exact ns_last (fb := w.heap.size + 1) hy (by omega) hB0 o a wx ho (hfx (4, .pointer (some ⟨w.heap.size + 1, 0, none⟩)) (by simp)) hdep hs K hK
  · obtain ⟨r, hh, hBB⟩ := hP
    have f4 : a.tmps[4]? = some (.pointer (some ⟨w.heap.size + 1, 0, none⟩)) := hfx (4, .pointer (some ⟨w.heap.size + 1, 0, none⟩)) (by simp)
    obtain ⟨tm, df⟩ := a
    simp only at hdf hsz f4
    subst hdf
    obtain ⟨k0, k1, k2, k3, k4, k5, k6, k7, k8, k9, k10, k11, k12, k13, rfl⟩ := arr14' hsz
    simp only [List.getElem?_toArray, List.getElem?_cons_succ, List.getElem?_cons_zero, Option.some.injEq] at f4
    subst f4
    have hres := fun (tm : Array Value) (hp : tm.getD 4 undef = .pointer (some ⟨w.heap.size + 1, 0, none⟩)) => results_cell_row (P := Try.prog) (fn := Try.f14) (p := 4) (ty := 65) Try.results14 tm wx (w.heap.size + 1) 65 (sess21 au id nh g n cap k q r) (0, 0) _ hp hh Try.underlying65 rfl info21
    go_wp2_with fail
    refine bodyPost_ret (v := .agg (sess21 au id nh g n cap k q r)) (hres _ rfl) rfl ⟨⟨r, rfl⟩, hBB⟩
  · intro x hx
    simp at hx
    rcases hx with rfl | rfl | rfl <;> rfl
  · exact ⟨rfl, rfl, rfl, Nat.le_refl _, fun _ _ => rfl⟩
end Go.Proofs.Ytmgcndpcbpkjaaa
