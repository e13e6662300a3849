/- A region that draws its order, in a lone run: all of its operations lead to its last one; one of them appends onto a row, the others but make memory. -/
import Derived.Test.YtmgcndpcbpkjaaaLinB
namespace Go.Proofs.Ytmgcndpcbpkjaaa.Pool
open Go Go.RowKit
set_option linter.unusedSimpArgs false
set_option linter.unusedVariables false
set_option linter.unusedSectionVars false

/-- The operations that are set down come ahead of one of them. -/
def ancB (ops : Array Oper) (ia : Nat) (mem : Nat → Bool) : Bool := (List.range ops.size).all fun j => !mem j || (List.range ops.size).any fun k => decide (j < k) && (decide (k = ia) || mem k) && match ops[k]? with | some o => o.after.any fun e => decide (e.on = j) && Region.binds .any e | none => false

theorem ancB_at {ops : Array Oper} {ia : Nat} {mem : Nat → Bool} (h : ancB ops ia mem = true) {j : Nat} (hj : j < ops.size) (hm : mem j = true) : ∃ k o, j < k ∧ (k = ia ∨ mem k = true) ∧ ops[k]? = some o ∧ ∃ e ∈ o.after, e.on = j ∧ Region.binds .any e = true := by
  have h1 := List.all_eq_true.1 h j (List.mem_range.2 hj)
  rw [hm] at h1
  simp only [Bool.not_true, Bool.false_or] at h1
  obtain ⟨k, _, h2⟩ := List.any_eq_true.1 h1
  simp only [Bool.and_eq_true, Bool.or_eq_true, decide_eq_true_eq] at h2
  obtain ⟨⟨h3, h4⟩, h5⟩ := h2
  cases ho : ops[k]? with
  | none => rw [ho] at h5; cases h5
  | some o =>
    rw [ho] at h5
    simp only at h5
    rw [Array.any_eq_true] at h5
    obtain ⟨i, hi, h6⟩ := h5
    simp only [Bool.and_eq_true, decide_eq_true_eq] at h6
    exact ⟨k, o, h3, h4, ho, o.after[i], Array.getElem_mem hi, h6.1, h6.2⟩

theorem TabPD.anc {D : List Deferred} {ops : Array Oper} {val : Nat → Value → World → Prop} {fix : List (Nat × Value)} {T : Nat} {listed : Array Bool} {a : Act} {w : World} (ht : TabPD D ops val fix T listed a w) {ia : Nat} {mem : Nat → Bool} (hanc : ancB ops ia mem = true) (hl : listed.getD ia false = true) :
    ∀ i, i < ops.size → mem i = true → listed.getD i false = true := by
  have key : ∀ d i, i + d + 1 = ops.size → mem i = true → listed.getD i false = true := by
    intro d
    induction d using Nat.strongRecOn with
    | _ d ih =>
      intro i hi hm
      · obtain ⟨k, o, h1, h2, h3, e, h4, h5, h6⟩ := ancB_at hanc (j := i) (by omega) hm
        have hk : k < ops.size := (Array.getElem?_eq_some_iff.1 h3).1
        have : listed.getD k false = true := by
          rcases h2 with rfl | h2
          · exact hl
          · exact ih (ops.size - 1 - k) (by omega) k (by omega) h2
        have := ht.deps k o h3 this e h4 h6
        rw [h5] at this
        exact this
  intro i hi hm
  exact key (ops.size - 1 - i) i (by omega) hm

section
variable {P : Program} {ops : Array Oper} {Q : Exit → Act → World → Prop} {val : Nat → Value → World → Prop} {fix : List (Nat × Value)} {T : Nat} {Post : Act → World → Prop} {n ia : Nat} {D : List Deferred} {mem : Nat → Bool} {A0 Rel : World → Prop}

theorem wp_region_ap {id : Nat} {a : Act} {w : World} (hm : P.follows .mixedOrders = true) (hok : okOps ops (fix.map (·.1)) T = true) (htop : topB ops = true) (hn : ops.size = n + 1) (hia : ia < n) (hanc : ancB ops ia mem = true)
    (hmono : ∀ w w' j u, Below w.heap.size w w' → val j u w → val j u w') (hA : ∀ w w', Below w.heap.size w w' → A0 w → A0 w') (hR : ∀ w w', Below w.heap.size w w' → Rel w → Rel w')
    (hop : ∀ (i : Nat) (o : Oper) (a : Act) (w : World), i < n → i ≠ ia → ops[i]? = some o → (∀ x ∈ fix, a.tmps[x.1]? = some x.2) → (∀ (j : Nat) (o' : Oper) (d : Nat), ops[j]? = some o' → o'.dst = some d → (∃ e ∈ o.after, e.on = j ∧ Region.binds .any e = true) → ∃ v, a.tmps[d]? = some v ∧ val j v w) → (mem i = true → A0 w) → Rel w →
      ∀ K : Act → World → Prop, (∀ v w', val i v w' → Below w.heap.size w w' → K (a.put o.dst v) w') → o.wp P a w K Q)
    (hap : ∀ (o : Oper) (a : Act) (w : World), ops[ia]? = some o → (∀ x ∈ fix, a.tmps[x.1]? = some x.2) → (∀ (j : Nat) (o' : Oper) (d : Nat), ops[j]? = some o' → o'.dst = some d → (∃ e ∈ o.after, e.on = j ∧ Region.binds .any e = true) → ∃ v, a.tmps[d]? = some v ∧ val j v w) → A0 w → Rel w →
      ∀ K : Act → World → Prop, (∀ v w', val ia v w' → (∀ j u, j ≠ ia → val j u w → val j u w') → Rel w' → K (a.put o.dst v) w') → o.wp P a w K Q)
    (hlast : ∀ (o : Oper) (a : Act) (w : World), ops[n]? = some o → (∀ x ∈ fix, a.tmps[x.1]? = some x.2) → (∀ (j : Nat) (o' : Oper) (d : Nat), ops[j]? = some o' → o'.dst = some d → (∃ e ∈ o.after, e.on = j ∧ Region.binds .any e = true) → ∃ v, a.tmps[d]? = some v ∧ val j v w) → Rel w →
      ∀ K : Act → World → Prop, (∀ v w', Post (a.put o.dst v) w' → K (a.put o.dst v) w') → o.wp P a w K Q)
    (hend : ∀ (a : Act) (w : World), a.defers = D → a.tmps.size = T → (∀ x ∈ fix, a.tmps[x.1]? = some x.2) → Post a w → Q .normal a w)
    (hd : a.defers = D) (hs : a.tmps.size = T) (hf : ∀ x ∈ fix, a.tmps[x.1]? = some x.2) (h0 : A0 { w with drawn := w.drawn + 1 } ∧ Rel { w with drawn := w.drawn + 1 }) : (Code.region id ops true).wp P Q a w := by
  have key : ∀ (fuel : Nat) (listed : Array Bool) (a : Act) (w : World), TabPD D ops val fix T listed a w → listed.getD n false = false → (listed.getD ia false = false → A0 w) → Rel w → unl ops listed ≤ fuel → wpAny P .any ops Q fuel listed a w := by
    intro fuel
    induction fuel with
    | zero =>
      intro listed a w ht hl hA0 hRl hu
      have hall := unl_zero (ops := ops) (listed := listed) (by omega)
      have := hall n (by omega)
      rw [hl] at this
      cases this
    | succ fuel ih =>
      intro listed a w ht hl hA0 hRl hu
      refine ⟨fun hnil => ?_, fun i hi => ?_⟩
      · have := ready_all hok ht.lsz hnil n (by omega)
        rw [hl] at this
        cases this
      obtain ⟨hul, o, ho, _⟩ := mem_ready.1 hi
      have hio : i < ops.size := (Array.getElem?_eq_some_iff.1 ho).1
      have hul' : listed.getD i false = false := by
        have hsz : i < listed.size := by rw [ht.lsz]; exact hio
        rw [Array.getD_eq_getD_getElem?, Array.getElem?_eq_getElem hsz] at hul ⊢
        simpa using hul
      unfold wpOp
      rw [ho]
      have hg := (okOps_at hok ho).2.2
      have hw : Region.wanted o (yielded ops a.tmps) = true := by simp [Region.wanted, hg]
      simp only [hw, if_true]
      by_cases hin : i = n
      · subst hin
        refine .inl (hlast o a w ho ht.fix (fun j o' d hj hd he => ht.dep ho hi hj hd he) hRl _ fun v w' hP => ?_)
        have ht2 : TabPD D ops (fun _ _ _ => True) fix T (listed.setIfInBounds i true) (a.put o.dst v) w' :=
          TabPD.put (val := fun _ _ _ => True) (w := w) hok ⟨ht.defers, ht.size, ht.fix, fun j o' d h1 h2 h3 => by obtain ⟨v, k1, _⟩ := ht.val j o' d h1 h2 h3; exact ⟨v, k1, trivial⟩, ht.lsz, ht.deps⟩ ho hi trivial (fun _ _ _ _ => trivial)
        have hall := ht2.all htop hn (by rw [getD_set _ _ _ (by rw [ht.lsz]; exact hio)]; simp)
        have hQ := hend _ _ ht2.defers ht2.size ht2.fix hP
        have hnr : Region.ready .any ops (listed.setIfInBounds i true) = [] := by
          cases hr : Region.ready .any ops (listed.setIfInBounds i true) with
          | nil => rfl
          | cons x xs =>
            have hx : x ∈ Region.ready .any ops (listed.setIfInBounds i true) := by rw [hr]; simp
            obtain ⟨h1, o2, ho2, _⟩ := mem_ready.1 hx
            have hx' : x < ops.size := (Array.getElem?_eq_some_iff.1 ho2).1
            have h3 := hall x hx'
            have hx2 : x < (listed.setIfInBounds i true).size := by rw [ht2.lsz]; exact hx'
            rw [Array.getD_eq_getD_getElem?, Array.getElem?_eq_getElem hx2] at h1 h3
            simp only [Option.getD_some] at h1 h3
            rw [h3] at h1
            cases h1
        cases fuel with
        | zero => exact ⟨hnr, hQ⟩
        | succ fuel => exact ⟨fun _ => hQ, fun j hj => by rw [hnr] at hj; cases hj⟩
      have hnl : ∀ (v : Bool), (listed.setIfInBounds i true).getD n false = false := fun _ => by
        rw [getD_set _ _ _ (by rw [ht.lsz]; exact hio), if_neg (fun e => hin e.symm)]
        exact hl
      by_cases hap' : i = ia
      · subst hap'
        refine .inl (hap o a w ho ht.fix (fun j o' d hj hd he => ht.dep ho hi hj hd he) (hA0 hul') hRl _ fun v w' hv hvv hRl' => ?_)
        have := unl_set hio ht.lsz hul'
        refine ih _ _ _ (ht.put hok ho hi hv fun j u hlj => hvv j u fun e => by subst e; rw [hul'] at hlj; cases hlj) (hnl true) (fun hl2 => ?_) hRl' (by omega)
        rw [getD_set _ _ _ (by rw [ht.lsz]; exact hio), if_pos rfl] at hl2
        cases hl2
      · refine .inl (hop i o a w (by omega) hap' ho ht.fix (fun j o' d hj hd he => ht.dep ho hi hj hd he) (fun hmm => hA0 ?_) hRl _ fun v w' hv hB' => ?_)
        · cases hq : listed.getD ia false
          · rfl
          · have := ht.anc hanc hq i hio hmm
            rw [hul'] at this
            cases this
        have := unl_set hio ht.lsz hul'
        refine ih _ _ _ (ht.put hok ho hi hv fun j u _ => hmono _ _ j u hB') (hnl true) (fun hl2 => hA _ _ hB' (hA0 ?_)) (hR _ _ hB' hRl) (by omega)
        rw [getD_set _ _ _ (by rw [ht.lsz]; exact hio), if_neg (fun e => hap' e.symm)] at hl2
        exact hl2
  refine wp_region_any hm (key ops.size _ a _ ⟨hd, hs, hf, fun i o d _ hl => ?_, by simp, fun i o _ hl => ?_⟩ ?_ (fun _ => h0.1) h0.2 ?_)
  · simp [Array.getD_eq_getD_getElem?, Array.getElem?_replicate] at hl
    split at hl <;> simp at hl
  · simp [Array.getD_eq_getD_getElem?, Array.getElem?_replicate] at hl
    split at hl <;> simp at hl
  · simp [Array.getD_eq_getD_getElem?, Array.getElem?_replicate]
    split <;> simp
  · unfold unl
    exact Nat.le_trans (List.length_filter_le _ _) (by simp)
end
end Go.Proofs.Ytmgcndpcbpkjaaa.Pool
