/- A region that draws its order, in a lone run: if each of its operations yields what it must whatever the order, it is walked operation by operation. -/
import Derived.Test.YtmgcndpcbpkjaaaLinA
import Derived.Orders
import Derived.Below
import Derived.KernelRfl
namespace Go.Proofs.Ytmgcndpcbpkjaaa.Pool
open Go
set_option linter.unusedSimpArgs false
set_option linter.unusedVariables false
set_option linter.unusedSectionVars false

structure TabPD (D : List Deferred) (ops : Array Oper) (val : Nat → Value → World → Prop) (fix : List (Nat × Value)) (T : Nat) (listed : Array Bool) (a : Act) (w : World) : Prop where
  defers : a.defers = D
  size : a.tmps.size = T
  fix : ∀ x ∈ fix, a.tmps[x.1]? = some x.2
  val : ∀ (i : Nat) o (d : Nat), ops[i]? = some o → listed.getD i false = true → o.dst = some d → ∃ v, a.tmps[d]? = some v ∧ val i v w
  lsz : listed.size = ops.size
  deps : ∀ (i : Nat) o, ops[i]? = some o → listed.getD i false = true → ∀ e ∈ o.after, Region.binds .any e = true → listed.getD e.on false = true

theorem TabPD.put {D : List Deferred} {ops : Array Oper} {val : Nat → Value → World → Prop} {fix : List (Nat × Value)} {T : Nat} (hok : okOps ops (fix.map (·.1)) T = true) {listed : Array Bool} {a : Act} {w w' : World} (h : TabPD D ops val fix T listed a w) {i : Nat} {o : Oper} (ho : ops[i]? = some o) {v : Value} (hr : i ∈ Region.ready .any ops listed) (hv : val i v w')
    (hvv : ∀ j u, listed.getD j false = true → val j u w → val j u w') : TabPD D ops val fix T (listed.setIfInBounds i true) (a.put o.dst v) w' := by
  have hi : i < ops.size := (Array.getElem?_eq_some_iff.1 ho).1
  obtain ⟨h1, _, _⟩ := okOps_at hok ho
  have tm : (a.put o.dst v).tmps = match o.dst with | some d => a.tmps.setIfInBounds d v | none => a.tmps := by cases hd : o.dst <;> rfl
  have df : (a.put o.dst v).defers = a.defers := by cases hd : o.dst <;> rfl
  refine ⟨df.trans h.defers, ?_, fun x hk => ?_, fun j o' d hj hl hd => ?_, by simpa using h.lsz, fun j o' hj hl e he hb => ?_⟩
  · rw [tm]; cases o.dst <;> simp [h.size]
  · rw [tm]
    cases hd : o.dst with
    | none => exact h.fix x hk
    | some d =>
      have hne : d ≠ x.1 := fun e => (h1 d hd).1 (by rw [e]; exact List.mem_map_of_mem hk)
      simp only
      rw [Array.getElem?_setIfInBounds_ne hne]
      exact h.fix x hk
  · rw [getD_set _ _ _ (by rw [h.lsz]; exact hi)] at hl
    rw [tm]
    by_cases e : j = i
    · subst e
      rw [ho] at hj
      obtain rfl := Option.some.inj hj
      rw [hd]
      simp only
      rw [Array.getElem?_setIfInBounds_self_of_lt (by rw [h.size]; exact (h1 d hd).2.1)]
      exact ⟨v, rfl, hv⟩
    · rw [if_neg e] at hl
      cases hd' : o.dst with
      | none =>
        obtain ⟨u, k1, k2⟩ := h.val j o' d hj hl hd
        exact ⟨u, k1, hvv j u hl k2⟩
      | some d' =>
        simp only
        have hne : d' ≠ d := fun e' => by
          subst e'
          exact e ((h1 d' hd').2.2 j o' hj hd)
        rw [Array.getElem?_setIfInBounds_ne hne]
        obtain ⟨u, k1, k2⟩ := h.val j o' d hj hl hd
        exact ⟨u, k1, hvv j u hl k2⟩
  · rw [getD_set _ _ _ (by rw [h.lsz]; exact hi)] at hl ⊢
    split
    · rfl
    by_cases e' : j = i
    · subst e'
      obtain ⟨_, o2, k1, k2⟩ := mem_ready.1 hr
      rw [hj] at k1
      obtain rfl := Option.some.inj k1
      exact k2 e he hb
    · rw [if_neg e'] at hl
      exact h.deps j o' hj hl e he hb

abbrev TabP (ops : Array Oper) (val : Nat → Value → World → Prop) (fix : List (Nat × Value)) (T : Nat) (listed : Array Bool) (a : Act) (w : World) : Prop := TabPD [] ops val fix T listed a w

/-- What an operation that has come up finds of those it waited for. -/
theorem TabPD.dep {D : List Deferred} {ops : Array Oper} {val : Nat → Value → World → Prop} {fix : List (Nat × Value)} {T : Nat} {listed : Array Bool} {a : Act} {w : World} (ht : TabPD D ops val fix T listed a w) {i : Nat} {o : Oper} (ho : ops[i]? = some o) (hr : i ∈ Region.ready .any ops listed) {j : Nat} {o' : Oper} {d : Nat} (hj : ops[j]? = some o') (hd : o'.dst = some d) (he : ∃ e ∈ o.after, e.on = j ∧ Region.binds .any e = true) :
    ∃ v, a.tmps[d]? = some v ∧ val j v w := by
  obtain ⟨e, h1, h2, h3⟩ := he
  obtain ⟨_, o2, k1, k2⟩ := mem_ready.1 hr
  rw [ho] at k1
  obtain rfl := Option.some.inj k1
  subst h2
  exact ht.val e.on o' d hj (k2 e h1 h3) hd

section
variable {P : Program} {ops : Array Oper} {Q : Exit → Act → World → Prop} {val : Nat → Value → World → Prop} {fix : List (Nat × Value)} {T : Nat} {Sok : Array Bool → World → Prop}

theorem wpAny_lin (hok : okOps ops (fix.map (·.1)) T = true)
    (hop : ∀ (i : Nat) (o : Oper) (listed : Array Bool) (a : Act) (w : World), ops[i]? = some o → i ∈ Region.ready .any ops listed → TabP ops val fix T listed a w → Sok listed w →
      ∀ K : Act → World → Prop, (∀ v w', val i v w' → (∀ j u, listed.getD j false = true → val j u w → val j u w') → Sok (listed.setIfInBounds i true) w' → K (a.put o.dst v) w') → o.wp P a w K Q)
    (hend : ∀ (listed : Array Bool) (a : Act) (w : World), TabP ops val fix T listed a w → (∀ i, i < ops.size → listed.getD i false = true) → Sok listed w → Q .normal a w) :
    ∀ (fuel : Nat) (listed : Array Bool) (a : Act) (w : World), TabP ops val fix T listed a w → Sok listed w → unl ops listed ≤ fuel → wpAny P .any ops Q fuel listed a w := by
  intro fuel
  induction fuel with
  | zero =>
    intro listed a w ht hs hu
    have hall := unl_zero (ops := ops) (listed := listed) (by omega)
    refine ⟨?_, hend listed a w ht hall hs⟩
    cases hr : Region.ready .any ops listed with
    | nil => rfl
    | cons x xs =>
      have hx : x ∈ Region.ready .any ops listed := by rw [hr]; simp
      obtain ⟨h1, o, ho, _⟩ := mem_ready.1 hx
      have hx' : x < listed.size := by rw [ht.lsz]; exact (Array.getElem?_eq_some_iff.1 ho).1
      have := hall x (by rw [← ht.lsz]; exact hx')
      rw [Array.getD_eq_getD_getElem?, Array.getElem?_eq_getElem hx'] at h1 this
      simp at h1 this
      rw [this] at h1
      cases h1
  | succ fuel ih =>
    intro listed a w ht hs hu
    refine ⟨fun hnil => hend listed a w ht (ready_all hok ht.lsz hnil) hs, fun i hi => ?_⟩
    obtain ⟨hul, o, ho, _⟩ := mem_ready.1 hi
    have hio : i < ops.size := (Array.getElem?_eq_some_iff.1 ho).1
    have hul' : listed.getD i false = false := by
      have hsz : i < listed.size := by rw [ht.lsz]; exact hio
      rw [Array.getD_eq_getD_getElem?, Array.getElem?_eq_getElem hsz] at hul ⊢
      simpa using hul
    unfold wpOp
    rw [ho]
    have hg := (okOps_at hok ho).2.2
    have hw : Region.wanted o (yielded ops a.tmps) = true := by simp [Region.wanted, hg]
    simp only [hw, if_true]
    refine .inl (hop i o listed a w ho hi ht hs _ fun v w' hv hm hs' => ?_)
    have := unl_set hio ht.lsz hul'
    exact ih _ _ _ (ht.put hok ho hi hv hm) hs' (by omega)

theorem wp_region_lin {id : Nat} {a : Act} {w : World} (hm : P.follows .mixedOrders = true) (hok : okOps ops (fix.map (·.1)) T = true)
    (hop : ∀ (i : Nat) (o : Oper) (listed : Array Bool) (a : Act) (w : World), ops[i]? = some o → i ∈ Region.ready .any ops listed → TabP ops val fix T listed a w → Sok listed w →
      ∀ K : Act → World → Prop, (∀ v w', val i v w' → (∀ j u, listed.getD j false = true → val j u w → val j u w') → Sok (listed.setIfInBounds i true) w' → K (a.put o.dst v) w') → o.wp P a w K Q)
    (hend : ∀ (listed : Array Bool) (a : Act) (w : World), TabP ops val fix T listed a w → (∀ i, i < ops.size → listed.getD i false = true) → Sok listed w → Q .normal a w)
    (hd : a.defers = []) (hs : a.tmps.size = T) (hf : ∀ x ∈ fix, a.tmps[x.1]? = some x.2) (h0 : Sok (Array.replicate ops.size false) { w with drawn := w.drawn + 1 }) : (Code.region id ops true).wp P Q a w := by
  refine wp_region_any hm (wpAny_lin hok hop hend ops.size _ a _ ⟨hd, hs, hf, fun i o d _ hl => ?_, by simp, fun i o _ hl => ?_⟩ h0 ?_)
  · simp [Array.getD_eq_getD_getElem?, Array.getElem?_replicate] at hl
    split at hl <;> simp at hl
  · simp [Array.getD_eq_getD_getElem?, Array.getElem?_replicate] at hl
    split at hl <;> simp at hl
  · unfold unl
    exact Nat.le_trans (List.length_filter_le _ _) (by simp)
end
end Go.Proofs.Ytmgcndpcbpkjaaa.Pool
