/- A region that draws its order, in a lone run, all of whose operations lead to its last one: walked operation by operation, memory but growing till the last. -/
import Derived.Test.YtmgcndpcbpkjaaaLinW
namespace Go.Proofs.Ytmgcndpcbpkjaaa.Pool
open Go Go.RowKit
set_option linter.unusedSimpArgs false
set_option linter.unusedVariables false
set_option linter.unusedSectionVars false

/-- Each operation but the last is waited for by a later one. -/
def topB (ops : Array Oper) : Bool := (List.range (ops.size - 1)).all fun j => (List.range ops.size).any fun k => decide (j < k) && match ops[k]? with | some o => o.after.any fun e => decide (e.on = j) && Region.binds .any e | none => false

theorem topB_at {ops : Array Oper} (h : topB ops = true) {j : Nat} (hj : j + 1 < ops.size) : ∃ k o, j < k ∧ ops[k]? = some o ∧ ∃ e ∈ o.after, e.on = j ∧ Region.binds .any e = true := by
  have h1 := List.all_eq_true.1 h j (List.mem_range.2 (by omega))
  obtain ⟨k, _, h2⟩ := List.any_eq_true.1 h1
  simp only [Bool.and_eq_true, decide_eq_true_eq] at h2
  obtain ⟨h3, h4⟩ := h2
  cases ho : ops[k]? with
  | none => rw [ho] at h4; cases h4
  | some o =>
    rw [ho] at h4
    simp only at h4
    rw [Array.any_eq_true] at h4
    obtain ⟨i, hi, h5⟩ := h4
    simp only [Bool.and_eq_true, decide_eq_true_eq] at h5
    exact ⟨k, o, h3, ho, o.after[i], Array.getElem_mem hi, h5.1, h5.2⟩

theorem TabPD.all {D : List Deferred} {ops : Array Oper} {val : Nat → Value → World → Prop} {fix : List (Nat × Value)} {T : Nat} {listed : Array Bool} {a : Act} {w : World} (ht : TabPD D ops val fix T listed a w) (htop : topB ops = true) {n : Nat} (hn : ops.size = n + 1) (hl : listed.getD n false = true) :
    ∀ i, i < ops.size → listed.getD i false = true := by
  have key : ∀ d i, i + d = n → listed.getD i false = true := by
    intro d
    induction d using Nat.strongRecOn with
    | _ d ih =>
      intro i hi
      rcases Nat.eq_zero_or_pos d with rfl | hd
      · obtain rfl : i = n := by omega
        exact hl
      · obtain ⟨k, o, h1, h2, e, h3, h4, h5⟩ := topB_at htop (j := i) (by omega)
        have hk : k < ops.size := (Array.getElem?_eq_some_iff.1 h2).1
        have := ih (n - k) (by omega) k (by omega)
        have := ht.deps k o h2 this e h3 h5
        rw [h4] at this
        exact this
  intro i hi
  exact key (n - i) i (by omega)

section
variable {P : Program} {ops : Array Oper} {Q : Exit → Act → World → Prop} {val : Nat → Value → World → Prop} {fix : List (Nat × Value)} {T : Nat} {w0 : World} {Post : Act → World → Prop} {n : Nat} {D : List Deferred}

theorem wp_region_lb {id : Nat} {a : Act} {w : World} (hm : P.follows .mixedOrders = true) (hok : okOps ops (fix.map (·.1)) T = true) (htop : topB ops = true) (hn : ops.size = n + 1)
    (hmono : ∀ w w' j u, Below w.heap.size w w' → val j u w → val j u w')
    (hop : ∀ (i : Nat) (o : Oper) (a : Act) (w : World), i < n → ops[i]? = some o → (∀ x ∈ fix, a.tmps[x.1]? = some x.2) → (∀ (j : Nat) (o' : Oper) (d : Nat), ops[j]? = some o' → o'.dst = some d → (∃ e ∈ o.after, e.on = j ∧ Region.binds .any e = true) → ∃ v, a.tmps[d]? = some v ∧ val j v w) → Below w0.heap.size w0 w →
      ∀ K : Act → World → Prop, (∀ v w', val i v w' → Below w.heap.size w w' → K (a.put o.dst v) w') → o.wp P a w K Q)
    (hlast : ∀ (o : Oper) (a : Act) (w : World), ops[n]? = some o → (∀ x ∈ fix, a.tmps[x.1]? = some x.2) → (∀ (j : Nat) (o' : Oper) (d : Nat), ops[j]? = some o' → o'.dst = some d → (∃ e ∈ o.after, e.on = j ∧ Region.binds .any e = true) → ∃ v, a.tmps[d]? = some v ∧ val j v w) → Below w0.heap.size w0 w →
      ∀ K : Act → World → Prop, (∀ v w', Post (a.put o.dst v) w' → K (a.put o.dst v) w') → o.wp P a w K Q)
    (hend : ∀ (a : Act) (w : World), a.defers = D → a.tmps.size = T → (∀ x ∈ fix, a.tmps[x.1]? = some x.2) → Post a w → Q .normal a w)
    (hd : a.defers = D) (hs : a.tmps.size = T) (hf : ∀ x ∈ fix, a.tmps[x.1]? = some x.2) (h0 : Below w0.heap.size w0 { w with drawn := w.drawn + 1 }) : (Code.region id ops true).wp P Q a w := by
  have key : ∀ (fuel : Nat) (listed : Array Bool) (a : Act) (w : World), TabPD D ops val fix T listed a w → listed.getD n false = false → Below w0.heap.size w0 w → unl ops listed ≤ fuel → wpAny P .any ops Q fuel listed a w := by
    intro fuel
    induction fuel with
    | zero =>
      intro listed a w ht hl hB hu
      have hall := unl_zero (ops := ops) (listed := listed) (by omega)
      have := hall n (by omega)
      rw [hl] at this
      cases this
    | succ fuel ih =>
      intro listed a w ht hl hB hu
      refine ⟨fun hnil => ?_, fun i hi => ?_⟩
      · have := ready_all hok ht.lsz hnil n (by omega)
        rw [hl] at this
        cases this
      obtain ⟨hul, o, ho, _⟩ := mem_ready.1 hi
      have hio : i < ops.size := (Array.getElem?_eq_some_iff.1 ho).1
      have hul' : listed.getD i false = false := by
        have hsz : i < listed.size := by rw [ht.lsz]; exact hio
        rw [Array.getD_eq_getD_getElem?, Array.getElem?_eq_getElem hsz] at hul ⊢
        simpa using hul
      unfold wpOp
      rw [ho]
      have hg := (okOps_at hok ho).2.2
      have hw : Region.wanted o (yielded ops a.tmps) = true := by simp [Region.wanted, hg]
      simp only [hw, if_true]
      by_cases hin : i = n
      · subst hin
        refine .inl (hlast o a w ho ht.fix (fun j o' d hj hd he => ht.dep ho hi hj hd he) hB _ fun v w' hP => ?_)
        -- all is listed now
        have ht2 : TabPD D ops (fun _ _ _ => True) fix T (listed.setIfInBounds i true) (a.put o.dst v) w' :=
          TabPD.put (val := fun _ _ _ => True) (w := w) hok ⟨ht.defers, ht.size, ht.fix, fun j o' d h1 h2 h3 => by obtain ⟨v, k1, _⟩ := ht.val j o' d h1 h2 h3; exact ⟨v, k1, trivial⟩, ht.lsz, ht.deps⟩ ho hi trivial (fun _ _ _ _ => trivial)
        have hall := ht2.all htop hn (by rw [getD_set _ _ _ (by rw [ht.lsz]; exact hio)]; simp)
        have hQ := hend _ _ ht2.defers ht2.size ht2.fix hP
        have hnr : Region.ready .any ops (listed.setIfInBounds i true) = [] := by
          cases hr : Region.ready .any ops (listed.setIfInBounds i true) with
          | nil => rfl
          | cons x xs =>
            have hx : x ∈ Region.ready .any ops (listed.setIfInBounds i true) := by rw [hr]; simp
            obtain ⟨h1, o2, ho2, _⟩ := mem_ready.1 hx
            have hx' : x < ops.size := (Array.getElem?_eq_some_iff.1 ho2).1
            have h3 := hall x hx'
            have hx2 : x < (listed.setIfInBounds i true).size := by rw [ht2.lsz]; exact hx'
            rw [Array.getD_eq_getD_getElem?, Array.getElem?_eq_getElem hx2] at h1 h3
            simp only [Option.getD_some] at h1 h3
            rw [h3] at h1
            cases h1
        cases fuel with
        | zero => exact ⟨hnr, hQ⟩
        | succ fuel => exact ⟨fun _ => hQ, fun j hj => by rw [hnr] at hj; cases hj⟩
      · refine .inl (hop i o a w (by omega) ho ht.fix (fun j o' d hj hd he => ht.dep ho hi hj hd he) hB _ fun v w' hv hB' => ?_)
        have := unl_set hio ht.lsz hul'
        refine ih _ _ _ (ht.put hok ho hi hv fun j u _ => hmono _ _ j u hB') ?_ (hB.trans (hB'.mono hB.size)) (by omega)
        rw [getD_set _ _ _ (by rw [ht.lsz]; exact hio), if_neg (fun e => hin e.symm)]
        exact hl
  refine wp_region_any hm (key ops.size _ a _ ⟨hd, hs, hf, fun i o d _ hl => ?_, by simp, fun i o _ hl => ?_⟩ ?_ h0 ?_)
  · simp [Array.getD_eq_getD_getElem?, Array.getElem?_replicate] at hl
    split at hl <;> simp at hl
  · simp [Array.getD_eq_getD_getElem?, Array.getElem?_replicate] at hl
    split at hl <;> simp at hl
  · simp [Array.getD_eq_getD_getElem?, Array.getElem?_replicate]
    split <;> simp
  · unfold unl
    exact Nat.le_trans (List.length_filter_le _ _) (by simp)
end
end Go.Proofs.Ytmgcndpcbpkjaaa.Pool
