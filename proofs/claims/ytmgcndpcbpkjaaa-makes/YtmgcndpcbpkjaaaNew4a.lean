/- waypost.New of commit c62d3f2: the region in which a session is added. -/
import Derived.Test.YtmgcndpcbpkjaaaNs
import Derived.Test.YtmgcndpcbpkjaaaLinAp
namespace Go.Proofs.Ytmgcndpcbpkjaaa
open Go.RowKit
open Go.Proofs.Ytmgcndpcbpkjaaa.Pool (okOps topB wp_region_ap ancB)
set_option linter.unusedSimpArgs false
set_option linter.unusedVariables false
set_option maxHeartbeats 1000000
set_option maxRecDepth 20000

def nwV (sp : Nat) (au id nh : Int) (g n cap k : Nat) (q : Q7) (B0 S0 : Nat) (sv : Value) : Nat → Value → World → Prop
  | 0, v, _ => v = .pointer (some ⟨sp, 0, none⟩)
  | 1, v, _ => v = .pointer (some ⟨sp, 0, none⟩)
  | 2, v, _ => v = .pointer (some ⟨sp, 0, none⟩)
  | 3, v, _ => v = .pointer (some ⟨sp, 1, none⟩)
  | 4, v, _ => v = sv
  | 5, v, _ => v = .agg #[.int .i64 au, .int .u32 id, .int .u32 nh, .slice (some ⟨g, 0, none⟩) n cap]
  | 6, v, _ => v = .int .i64 (k : Int)
  | 7, v, _ => ∃ r, v = .agg (sess21 au id nh g n cap k q r)
  | 8, v, w => ∃ nb r, v = .slice (some ⟨nb, 0, none⟩) 1 1 ∧ S0 ≤ nb ∧ w.heap[nb]? = some (.cells (sess21 au id nh g n cap k q r) 65 (0, 0))
  | 9, v, w => ∃ xs, w.ownsRow B0 65 21 v (k + 1) xs
  | 10, v, _ => v = .pointer (some ⟨sp, 0, none⟩)
  | 11, v, _ => v = .pointer (some ⟨sp, 1, none⟩)
  | _, _, _ => True
theorem nwV_mono {sp : Nat} {au id nh : Int} {g n cap k : Nat} {q : Q7} {B0 S0 : Nat} {sv : Value} (w w' : World) (j : Nat) (u : Value) (hB : Below w.heap.size w w') (h : nwV sp au id nh g n cap k q B0 S0 sv j u w) : nwV sp au id nh g n cap k q B0 S0 sv j u w' := by
  unfold nwV at h ⊢
  split at h
  iterate 8 exact h
  · obtain ⟨nb, r, h1, h2, h3⟩ := h; exact ⟨nb, r, h1, h2, (hB.block _ (Array.getElem?_eq_some_iff.1 h3).1).trans h3⟩
  · obtain ⟨xs, h1⟩ := h; exact ⟨xs, ownsRow_below h1 hB⟩
  · exact h
  · exact h
  · trivial
noncomputable def nwOps : Array Oper := ((Try.f6.body).bind (opsOf 9)).getD #[]
def nwMem (i : Nat) : Bool := i == 4 || i == 5 || i == 6 || i == 7 || i == 8
theorem nw_ok : okOps nwOps [0, 1, 2, 3, 4, 5, 6, 7, 8, 9, 10, 11, 12, 13, 14, 15, 16, 17, 18, 19, 20, 21, 22, 38, 39] 40 = true := by kernel_rfl
theorem nw_top : topB nwOps = true := by kernel_rfl
theorem nw_size : nwOps.size = 13 := by kernel_rfl
theorem nw_anc : ancB nwOps 9 nwMem = true := by kernel_rfl

theorem infoS : (Try.prog.info? 65).map (fun i => (i.zero, i.size, i.bytes)) = some (some (.agg z21), 21, 240) := by kernel_rfl
theorem grown_tr {a b c : World} {row : Option Nat} (h : a.grownBy b row) (k : b.grownBy c row) : a.grownBy c row :=
  ⟨k.os.trans h.os, k.tape.trans h.tape, k.output.trans h.output, Nat.le_trans h.size k.size, fun i hi hr => (k.block i (Nat.lt_of_lt_of_le hi h.size) hr).trans (h.block i hi hr)⟩

theorem nw_hop {Q : Exit → Act → World → Prop} {sp ob : Nat} {au id nh : Int} {g n cap k : Nat} {q : Q7} {B0 : Nat} {sv : Value} {wr : World} (hsp : sp < wr.heap.size) (hob : ob < wr.heap.size) (hg : g < wr.heap.size) (hk : k < n) (hnc : n ≤ cap) (hn8 : n ≤ 8)
    (s1 : wr.cell? ⟨sp, 1, none⟩ = some sv) (c0 : wr.cell? ⟨ob, 0, none⟩ = some (.int .i64 au)) (c1 : wr.cell? ⟨ob, 1, none⟩ = some (.int .u32 id)) (c2 : wr.cell? ⟨ob, 2, none⟩ = some (.int .u32 nh)) (c3 : wr.cell? ⟨ob, 3, none⟩ = some (.slice (some ⟨g, 0, none⟩) n cap))
    (d0 : wr.cell? ⟨g, k * 7, none⟩ = some (.int .i64 q.a0)) (d1 : wr.cell? ⟨g, k * 7 + 1, none⟩ = some (.int .i64 q.a1)) (d2 : wr.cell? ⟨g, k * 7 + 2, none⟩ = some (.int .i64 q.a2)) (d3 : wr.cell? ⟨g, k * 7 + 3, none⟩ = some (.int .i64 q.a3)) (d4 : wr.cell? ⟨g, k * 7 + 4, none⟩ = some (.int .i64 q.a4)) (d5 : wr.cell? ⟨g, k * 7 + 5, none⟩ = some (.slice q.s5 q.m5 q.c5)) (d6 : wr.cell? ⟨g, k * 7 + 6, none⟩ = some (.slice q.s6 q.m6 q.c6))
    (i : Nat) (o : Oper) (a : Act) (w : World) (hi : i < 12) (hne : i ≠ 9) (ho : nwOps[i]? = some o) (f5 : a.tmps[5]? = some (.pointer (some ⟨sp, 0, none⟩))) (f6 : a.tmps[6]? = some (.pointer (some ⟨ob, 0, none⟩))) (f7 : a.tmps[7]? = some (.int .i64 (k : Int)))
    (hdep : ∀ (j : Nat) (o' : Oper) (d : Nat), nwOps[j]? = some o' → o'.dst = some d → (∃ e ∈ o.after, e.on = j ∧ Region.binds .any e = true) → ∃ v, a.tmps[d]? = some v ∧ nwV sp au id nh g n cap k q B0 wr.heap.size sv j v w) (hA : nwMem i = true → Below wr.heap.size wr w)
    (K : Act → World → Prop) (hK : ∀ v w', nwV sp au id nh g n cap k q B0 wr.heap.size sv i v w' → Below w.heap.size w w' → K (a.put o.dst v) w') : o.wp Try.prog a w K Q := by
  obtain rfl | rfl | rfl | rfl | rfl | rfl | rfl | rfl | rfl | rfl | rfl : i = 0 ∨ i = 1 ∨ i = 2 ∨ i = 3 ∨ i = 4 ∨ i = 5 ∨ i = 6 ∨ i = 7 ∨ i = 8 ∨ i = 10 ∨ i = 11 := by omega
  all_goals
    simp only [nwOps, Try.f6, opsOf, Option.bind_some] at ho
    simp [opsOf] at ho
    subst ho
  · unfold Oper.wp execOp
    simp only [Act.eval, Array.getD_eq_getD_getElem?, f5, Option.getD_some]
    go_simp
    exact hK _ _ rfl (Below.refl _ _)
  · unfold Oper.wp execOp
    simp only [Act.eval, Array.getD_eq_getD_getElem?, f5, Option.getD_some]
    go_simp
    exact hK _ _ rfl (Below.refl _ _)
  · obtain ⟨u0, h0, p0⟩ := hdep 1 _ _ rfl rfl ⟨⟨1, .data⟩, by simp, rfl, rfl⟩
    simp only [nwV] at p0
    try subst p0
    unfold Oper.wp execOp
    simp only [Act.eval, Array.getD_eq_getD_getElem?, h0, Option.getD_some]
    go_simp
    exact hK _ _ rfl (Below.refl _ _)
  · obtain ⟨u0, h0, p0⟩ := hdep 2 _ _ rfl rfl ⟨⟨2, .data⟩, by simp, rfl, rfl⟩
    simp only [nwV] at p0
    try subst p0
    unfold Oper.wp execOp
    simp only [Act.eval, Array.getD_eq_getD_getElem?, h0, Option.getD_some]
    go_simp
    exact hK _ _ rfl (Below.refl _ _)
  · obtain ⟨u0, h0, p0⟩ := hdep 3 _ _ rfl rfl ⟨⟨3, .data⟩, by simp, rfl, rfl⟩
    simp only [nwV] at p0
    try subst p0
    have hB := hA rfl
    have a4 := (hB.cell (p := ⟨sp, 1, none⟩) hsp).trans s1
    unfold Oper.wp execOp
    simp only [Act.eval, Array.getD_eq_getD_getElem?, h0, Option.getD_some]
    go_simp
    exact hK _ _ rfl (Below.refl _ _)
  · have hB := hA rfl
    have e0 := (hB.cell (p := ⟨ob, 0, none⟩) hob).trans c0
    have e1 := (hB.cell (p := ⟨ob, 1, none⟩) hob).trans c1
    have e2 := (hB.cell (p := ⟨ob, 2, none⟩) hob).trans c2
    have e3 := (hB.cell (p := ⟨ob, 3, none⟩) hob).trans c3
    unfold Oper.wp execOp
    simp only [Act.eval, Array.getD_eq_getD_getElem?, f6, Option.getD_some]
    go_simp
    exact hK _ _ rfl (Below.refl _ _)
  · unfold Oper.wp execOp
    simp only [Act.eval, Array.getD_eq_getD_getElem?, f7, Option.getD_some]
    go_simp
    exact hK _ _ rfl (Below.refl _ _)
  · obtain ⟨u0, h0, p0⟩ := hdep 5 _ _ rfl rfl ⟨⟨5, .data⟩, by simp, rfl, rfl⟩
    simp only [nwV] at p0
    try subst p0
    obtain ⟨u1, h1, p1⟩ := hdep 6 _ _ rfl rfl ⟨⟨6, .data⟩, by simp, rfl, rfl⟩
    simp only [nwV] at p1
    try subst p1
    unfold Oper.wp execOp
    simp only [Act.eval, Array.getD_eq_getD_getElem?, h0, h1, Option.getD_some]
    go_simp
    have hB := hA rfl
    refine (session_new au id nh g n cap k q w (Nat.lt_of_lt_of_le hg hB.size) hk hnc hn8 ((hB.cell (p := ⟨g, k * 7, none⟩) hg).trans d0) ((hB.cell (p := ⟨g, k * 7 + 1, none⟩) hg).trans d1) ((hB.cell (p := ⟨g, k * 7 + 2, none⟩) hg).trans d2) ((hB.cell (p := ⟨g, k * 7 + 3, none⟩) hg).trans d3) ((hB.cell (p := ⟨g, k * 7 + 4, none⟩) hg).trans d4) ((hB.cell (p := ⟨g, k * 7 + 5, none⟩) hg).trans d5) ((hB.cell (p := ⟨g, k * 7 + 6, none⟩) hg).trans d6)).mono ?_
    rintro e w1 ⟨⟨r, rfl⟩, hB1⟩
    exact hK _ _ ⟨r, rfl⟩ hB1
  · obtain ⟨u0, h0, p0⟩ := hdep 7 _ _ rfl rfl ⟨⟨7, .data⟩, by simp, rfl, rfl⟩
    simp only [nwV] at p0
    obtain ⟨r, rfl⟩ := p0
    simp only [sess21] at h0
    have hB := hA rfl
    unfold Oper.wp execOp
    simp only [Act.eval, Array.getD_eq_getD_getElem?, h0, Option.getD_some]
    go_simp
    exact hK _ _ ⟨w.heap.size, r, rfl, hB.size, heap_alloc_new w _⟩ ((Below.refl _ _).alloc (Nat.le_refl _) _)
  · obtain ⟨u0, h0, p0⟩ := hdep 0 _ _ rfl rfl ⟨⟨0, .data⟩, by simp, rfl, rfl⟩
    simp only [nwV] at p0
    try subst p0
    unfold Oper.wp execOp
    simp only [Act.eval, Array.getD_eq_getD_getElem?, h0, Option.getD_some]
    go_simp
    exact hK _ _ rfl (Below.refl _ _)
  · obtain ⟨u0, h0, p0⟩ := hdep 10 _ _ rfl rfl ⟨⟨10, .data⟩, by simp, rfl, rfl⟩
    simp only [nwV] at p0
    try subst p0
    unfold Oper.wp execOp
    simp only [Act.eval, Array.getD_eq_getD_getElem?, h0, Option.getD_some]
    go_simp
    exact hK _ _ rfl (Below.refl _ _)

theorem nw_ap {Q : Exit → Act → World → Prop} {sp : Nat} {au id nh : Int} {g n cap k : Nat} {q : Q7} {B0 : Nat} {xs : List Value} {sv : Value} {wr : World} (hB0 : B0 ≤ wr.heap.size) (hk8 : k < 8) (hown : wr.ownsRow B0 65 21 sv k xs)
    (o : Oper) (a : Act) (w : World) (ho : nwOps[9]? = some o)
    (hdep : ∀ (j : Nat) (o' : Oper) (d : Nat), nwOps[j]? = some o' → o'.dst = some d → (∃ e ∈ o.after, e.on = j ∧ Region.binds .any e = true) → ∃ v, a.tmps[d]? = some v ∧ nwV sp au id nh g n cap k q B0 wr.heap.size sv j v w) (hA : Below wr.heap.size wr w) (hR : wr.grownBy w sv.ownBlock)
    (K : Act → World → Prop) (hK : ∀ v w', nwV sp au id nh g n cap k q B0 wr.heap.size sv 9 v w' → (∀ j u, j ≠ 9 → nwV sp au id nh g n cap k q B0 wr.heap.size sv j u w → nwV sp au id nh g n cap k q B0 wr.heap.size sv j u w') → wr.grownBy w' sv.ownBlock → K (a.put o.dst v) w') : o.wp Try.prog a w K Q := by
  simp only [nwOps, Try.f6, opsOf, Option.bind_some] at ho
  simp [opsOf] at ho
  subst ho
  obtain ⟨u0, h0, p0⟩ := hdep 4 _ _ rfl rfl ⟨⟨4, .data⟩, by simp, rfl, rfl⟩
  simp only [nwV] at p0
  subst p0
  obtain ⟨u1, h1, p1⟩ := hdep 8 _ _ rfl rfl ⟨⟨8, .data⟩, by simp, rfl, rfl⟩
  simp only [nwV] at p1
  obtain ⟨nb, r, rfl, hnb, hblk⟩ := p1
  obtain ⟨i0, hi0, hz0, hz1, hz2⟩ := info_parts infoS
  have hown2 : w.ownsRow B0 65 21 u0 k xs := ownsRow_below hown hA
  have hlt := World.ownsRow.lt hown
  have hcc : ∀ (j : Nat) (u : Value), (sess21 au id nh g n cap k q r).toList[j]? = some u → w.cell? ((⟨nb, 0, none⟩ : Addr).add j) = some u := fun j u hu => by
    have e : (⟨nb, 0, none⟩ : Addr).add j = ⟨nb, j, none⟩ := by unfold Addr.add; split <;> simp_all
    rw [e]
    exact (cell_b hblk j).trans (by simpa using hu)
  obtain ⟨v', w', hrun, r1, r2, _⟩ := run_append_own (P := Try.prog) w B0 54 54 65 i0 (.agg z21) 21 240 Try.underlying54 hi0 hz0 hz1 hz2 rfl (by decide) u0 k xs hown2 ⟨nb, 0, none⟩ 1 1 (sess21 au id nh g n cap k q r).toList rfl hcc (sess21_one au id nh g n cap k q r) (by unfold maxLen; omega) (by omega) (Nat.le_trans hB0 hA.size)
  have hx0 : a.eval (.tmp 29) = u0 := by simp [Act.eval, Array.getD_eq_getD_getElem?, h0]
  have hx1 : a.eval (.tmp 33) = .slice (some ⟨nb, 0, none⟩) 1 1 := by simp [Act.eval, Array.getD_eq_getD_getElem?, h1]
  have hsz := hA.size
  unfold Oper.wp
  simp [execOp, resolve, invoke, builtin, hx0, hx1, hrun, Result.andThen]
  refine hK _ _ ⟨_, r1⟩ (fun j u hj h => ?_) (grown_tr hR r2)
  unfold nwV at h ⊢
  split at h
  iterate 8 exact h
  · obtain ⟨nb', r', e1, e2, e3⟩ := h
    exact ⟨nb', r', e1, e2, (r2.block _ (Array.getElem?_eq_some_iff.1 e3).1 fun e => by have := (hlt nb' e.symm).2; omega).trans e3⟩
  · exact absurd rfl hj
  · exact h
  · exact h
  · trivial

theorem nw_last {Q : Exit → Act → World → Prop} {sp : Nat} {au id nh : Int} {g n cap k : Nat} {q : Q7} {B0 : Nat} {sv : Value} {wr : World} (hsp : sp < wr.heap.size) (hns : sv.ownBlock ≠ some sp) (s1 : wr.cell? ⟨sp, 1, none⟩ = some sv) (m1 : wr.frozen? ⟨sp, 1, none⟩ = false)
    (o : Oper) (a : Act) (w : World) (ho : nwOps[12]? = some o)
    (hdep : ∀ (j : Nat) (o' : Oper) (d : Nat), nwOps[j]? = some o' → o'.dst = some d → (∃ e ∈ o.after, e.on = j ∧ Region.binds .any e = true) → ∃ v, a.tmps[d]? = some v ∧ nwV sp au id nh g n cap k q B0 wr.heap.size sv j v w) (hR : wr.grownBy w sv.ownBlock)
    (K : Act → World → Prop) (hK : ∀ v w', (∃ wz v xs, wr.grownBy wz sv.ownBlock ∧ wz.ownsRow B0 65 21 v (k + 1) xs ∧ w' = wz.setCell ⟨sp, 1, none⟩ v) → K (a.put o.dst v) w') : o.wp Try.prog a w K Q := by
  have hb := hR.block sp hsp (fun e => hns e.symm)
  have a0 := (World.cell?_of_block (a := ⟨sp, 1, none⟩) hb).trans s1
  have a1 := (World.frozen?_of_block (a := ⟨sp, 1, none⟩) hb).trans m1
  simp only [nwOps, Try.f6, opsOf, Option.bind_some] at ho
  simp [opsOf] at ho
  subst ho
  obtain ⟨u0, h0, p0⟩ := hdep 11 _ _ rfl rfl ⟨⟨11, .data⟩, by simp, rfl, rfl⟩
  simp only [nwV] at p0
  subst p0
  obtain ⟨u1, h1, p1⟩ := hdep 9 _ _ rfl rfl ⟨⟨9, .data⟩, by simp, rfl, rfl⟩
  simp only [nwV] at p1
  obtain ⟨xs, hown⟩ := p1
  obtain ⟨ao, cp, rfl, _⟩ := ownsRow_slice hown
  unfold Oper.wp execOp
  simp only [Act.eval, Array.getD_eq_getD_getElem?, h0, h1, Option.getD_some]
  go_simp
  exact hK undef _ ⟨w, _, xs, hR, hown, rfl⟩
end Go.Proofs.Ytmgcndpcbpkjaaa
