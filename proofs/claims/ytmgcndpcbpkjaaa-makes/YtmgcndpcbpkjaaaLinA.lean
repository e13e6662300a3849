/- A region that draws its order, each of whose operations has one value whatever the order: it is walked up to the operations that are set apart. -/
import Derived.Tactics
import Derived.Control
import Derived.Conc.CompanyDraw
namespace Go.Proofs.Ytmgcndpcbpkjaaa.Pool
open Go.Conc
set_option linter.unusedSimpArgs false
set_option linter.unusedVariables false
set_option linter.unusedSectionVars false

structure Tab (ops : Array Oper) (val : Nat → Value) (fix : List (Nat × Value)) (T : Nat) (listed : Array Bool) (a : Act) : Prop where
  defers : a.defers = []
  size : a.tmps.size = T
  fix : ∀ x ∈ fix, a.tmps[x.1]? = some x.2
  val : ∀ (i : Nat) o (d : Nat), ops[i]? = some o → listed.getD i false = true → o.dst = some d → a.tmps[d]? = some (val i)
  lsz : listed.size = ops.size
  deps : ∀ (i : Nat) o, ops[i]? = some o → listed.getD i false = true → ∀ e ∈ o.after, Region.binds .any e = true → listed.getD e.on false = true

def okOps (ops : Array Oper) (nf : List Nat) (T : Nat) : Bool :=
  (List.range ops.size).all fun i => match ops[i]? with
    | some o => (match o.dst with
      | some d => (!nf.contains d) && decide (d < T) && (List.range ops.size).all fun j => decide (i = j) || decide (((ops[j]?).bind (·.dst)) ≠ some d)
      | none => true) && o.after.all (fun e => decide (e.on < i)) && o.guard.isNone
    | none => true

theorem okOps_at {ops : Array Oper} {nf : List Nat} {T : Nat} (h : okOps ops nf T = true) {i : Nat} {o : Oper} (ho : ops[i]? = some o) :
    (∀ d, o.dst = some d → d ∉ nf ∧ d < T ∧ ∀ (j : Nat) o', ops[j]? = some o' → o'.dst = some d → j = i) ∧ (∀ e ∈ o.after, e.on < i) ∧ o.guard = none := by
  have hi : i < ops.size := (Array.getElem?_eq_some_iff.1 ho).1
  have := List.all_eq_true.1 h i (List.mem_range.2 hi)
  simp only [ho, Bool.and_eq_true] at this
  obtain ⟨⟨h1, h2⟩, h3⟩ := this
  refine ⟨fun d hd => ?_, fun e he => by simpa using (Array.all_eq_true_iff_forall_mem.1 h2 e he), by simpa using h3⟩
  rw [hd] at h1
  simp only [Bool.and_eq_true, decide_eq_true_eq] at h1
  refine ⟨by have := h1.1.1; simpa using this, h1.1.2, fun j o' hj hd' => ?_⟩
  have hjs : j < ops.size := (Array.getElem?_eq_some_iff.1 hj).1
  have := List.all_eq_true.1 h1.2 j (List.mem_range.2 hjs)
  simp only [Bool.or_eq_true, decide_eq_true_eq, hj, Option.bind_some, hd'] at this
  rcases this with e | e
  · exact e.symm
  · exact absurd rfl e

theorem getD_set (l : Array Bool) (i j : Nat) (hi : i < l.size) (d : Bool) : (l.setIfInBounds i true).getD j d = if j = i then true else l.getD j d := by
  rw [Array.getD_eq_getD_getElem?, Array.getD_eq_getD_getElem?, Array.getElem?_setIfInBounds]
  by_cases h : i = j
  · subst h; simp [hi]
  · simp [h, Ne.symm h]

theorem Tab.put {ops : Array Oper} {val val' : Nat → Value} {fix : List (Nat × Value)} {T : Nat} (hok : okOps ops (fix.map (·.1)) T = true) {listed : Array Bool} {a : Act} (h : Tab ops val fix T listed a) {i : Nat} {o : Oper} (ho : ops[i]? = some o) {v : Value} (hr : i ∈ Region.ready .any ops listed) (hv : val' i = v)
    (hvv : ∀ j, listed.getD j false = true → val' j = val j) : Tab ops val' fix T (listed.setIfInBounds i true) (a.put o.dst v) := by
  have hi : i < ops.size := (Array.getElem?_eq_some_iff.1 ho).1
  obtain ⟨h1, _, _⟩ := okOps_at hok ho
  have tm : (a.put o.dst v).tmps = match o.dst with | some d => a.tmps.setIfInBounds d v | none => a.tmps := by cases hd : o.dst <;> rfl
  have df : (a.put o.dst v).defers = a.defers := by cases hd : o.dst <;> rfl
  refine ⟨df.trans h.defers, ?_, fun x hk => ?_, fun j o' d hj hl hd => ?_, by simpa using h.lsz, fun j o' hj hl e he hb => ?_⟩
  · rw [tm]; cases o.dst <;> simp [h.size]
  · rw [tm]
    cases hd : o.dst with
    | none => exact h.fix x hk
    | some d =>
      have hne : d ≠ x.1 := fun e => (h1 d hd).1 (by rw [e]; exact List.mem_map_of_mem hk)
      simp only
      rw [Array.getElem?_setIfInBounds_ne hne]
      exact h.fix x hk
  · rw [getD_set _ _ _ (by rw [h.lsz]; exact hi)] at hl
    rw [tm]
    by_cases e : j = i
    · subst e
      rw [ho] at hj
      obtain rfl := Option.some.inj hj
      rw [hd]
      simp only
      rw [Array.getElem?_setIfInBounds_self_of_lt (by rw [h.size]; exact (h1 d hd).2.1), hv]
    · rw [if_neg e] at hl
      rw [hvv j hl]
      cases hd' : o.dst with
      | none => exact h.val j o' d hj hl hd
      | some d' =>
        simp only
        have hne : d' ≠ d := fun e' => by
          subst e'
          exact e ((h1 d' hd').2.2 j o' hj hd)
        rw [Array.getElem?_setIfInBounds_ne hne]
        exact h.val j o' d hj hl hd
  · rw [getD_set _ _ _ (by rw [h.lsz]; exact hi)] at hl ⊢
    split
    · rfl
    by_cases e' : j = i
    · subst e'
      obtain ⟨_, o2, k1, k2⟩ := mem_ready.1 hr
      rw [hj] at k1
      obtain rfl := Option.some.inj k1
      exact k2 e he hb
    · rw [if_neg e'] at hl
      exact h.deps j o' hj hl e he hb

def unl (ops : Array Oper) (listed : Array Bool) : Nat := ((List.range ops.size).filter fun i => !listed.getD i false).length

theorem unl_zero {ops : Array Oper} {listed : Array Bool} (h : unl ops listed = 0) : ∀ i, i < ops.size → listed.getD i false = true := by
  intro i hi
  have := List.length_eq_zero_iff.1 h
  rw [List.filter_eq_nil_iff] at this
  have := this i (List.mem_range.2 hi)
  simpa using this

theorem unl_set {ops : Array Oper} {listed : Array Bool} {i : Nat} (hi : i < ops.size) (hs : listed.size = ops.size) (hl : listed.getD i false = false) : unl ops (listed.setIfInBounds i true) < unl ops listed := by
  unfold unl
  have hsub : ((List.range ops.size).filter fun j => !(listed.setIfInBounds i true).getD j false) = ((List.range ops.size).filter fun j => !listed.getD j false).filter (fun j => decide (j ≠ i)) := by
    rw [List.filter_filter]
    refine List.filter_congr fun j _ => ?_
    rw [getD_set _ _ _ (by omega)]
    by_cases e : j = i <;> simp [e]
  rw [hsub]
  have hmem : i ∈ (List.range ops.size).filter fun j => !listed.getD j false := List.mem_filter.2 ⟨List.mem_range.2 hi, by simp [hl]⟩
  refine Nat.lt_of_le_of_ne (List.length_filter_le _ _) fun e => ?_
  have := List.length_filter_eq_length_iff.1 e i hmem
  simp at this

theorem ready_all {ops : Array Oper} {nf : List Nat} {T : Nat} (hok : okOps ops nf T = true) {listed : Array Bool} (hs : listed.size = ops.size) (hr : Region.ready .any ops listed = []) : ∀ i, i < ops.size → listed.getD i false = true := by
  intro i
  induction i using Nat.strongRecOn with
  | _ i ih =>
    intro hi
    refine Classical.byContradiction fun hn => ?_
    have ho : ops[i]? = some ops[i] := Array.getElem?_eq_getElem hi
    have hm : i ∈ Region.ready .any ops listed := mem_ready.2 ⟨by
      have : listed[i]? = some listed[i] := Array.getElem?_eq_getElem (by omega)
      rw [Array.getD_eq_getD_getElem?, this] at hn ⊢
      simpa using hn, _, ho, fun e he _ => by
      have hlt := (okOps_at hok ho).2.1 e he
      exact ih e.on hlt (by omega)⟩
    rw [hr] at hm
    cases hm

end Go.Proofs.Ytmgcndpcbpkjaaa.Pool
