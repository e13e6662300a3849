/- Proved: waypostlaw.Makes answers true for every configuration that can be read as data, whatever its size within the row's own reach, and leaves it as it was. No condition of ours stands behind it. -/
import Derived.Test.YtmgcndpcbpkjaaaMakes
import Derived.Test.YtmgcndpcbpkjaaaOpenC
import Derived.Deep.OwnRows
namespace Go.Proofs.Ytmgcndpcbpkjaaa
open Go.ChangeShapes Go.WideShapes Go.ChangeAt Go.RowKit Go.Deep
set_option linter.unusedSimpArgs false
set_option linter.unusedVariables false

theorem Try.own : ownKnob Try.prog.godebug = none := by kernel_rfl
theorem Try.laidOut : laidOutB Try.prog = true := by kernel_rfl

set_option maxRecDepth 100000 in
theorem makes_lifted (os : Os) (started : os.Started) (H : Type) (enc : TypeId × Value → H) :
    ReturnsInHanded {} Try.checked os 3 .any (Rows.makesSpec.pre6 enc Try.prog Try.f3 Rows.makesRow.domain false) (Rows.makesSpec.post enc Try.prog Try.f3 false true false false) := by
  refine returnsInHanded_of_change_sized (C := Try.checked) Try.own started (by kernel_rfl) Try.func3
    (ChangeSpec.witness6 (enc := enc) (C := Try.checked) false ⟨#[], #[.agg #[.int .i64 0, .int .u32 0, .int .u32 0, .slice none 0 0]], []⟩ 8 (by kernel_rfl) (by kernel_rfl) (by kernel_rfl) (by kernel_rfl)) ?_
  intro W base args ds gs before hval0 hW _ hsz0 _
  have hsz : (DataW.weightsEach Try.prog (Try.f3.params.toList ++ Rows.makesSpec.plain.varTypes Try.prog) (ds ++ gs)).all (· ≤ reachBytes) = true := hsz0
  clear hsz0
  have hval : ∀ (j : Nat) t v, Try.f3.params[j]? = some t → args[j]? = some v → Value.okWide Try.prog W .any base t v := hval0
  have hW' := hW
  obtain ⟨p, q, hA0, hV, rfl, _, _⟩ := hW
  have hA : DataW.TrodAll enc Try.prog W 0 (fun _ => true) true Try.f3.params.toList args.toList ds p := hA0
  rw [Try.params3] at hA hval hsz
  obtain ⟨v0, d0, rfl, rfl, h0⟩ := trodAll_one hA
  obtain ⟨rfl, rfl⟩ := trodVars_none hV
  clear hA0 hval0
  simp only [List.append_nil] at hW'
  have hlt : ∀ x ∈ p, x.block < W.heap.size := fun x hx => by simpa using hW'.lt x hx
  have hargs : ∀ (W' : World), Below W.heap.size W W' → DataW.Trod enc Try.prog W' 0 (fun b => decide (b < W.heap.size)) true 25 v0 d0 p :=
    fun W' hn => Below.trod Try.laidOut (by kernel_rfl) (of_decide_eq_true (by kernel_rfl)) h0 hn hlt
  have hw0 : ∀ m ∈ d0.weights Try.prog 25, m ≤ reachBytes := fun m hm => by
    have := List.all_eq_true.1 hsz m (DataW.weights_mem_each (j := 0) (t := 25) rfl rfl m hm)
    simpa using this
  obtain ⟨c0, c1, c2, c3, y0, y1, y2, y3, n, rfl, hd, _, t0, t1, t2, t3⟩ := Joins.open_agg4 Try.underlying25 (by kernel_rfl) Try.cellsConfig (hval 0 25 v0 rfl rfl) h0
  obtain ⟨au, e0, _, _⟩ := DataW.trod_int Try.underlying3 t0
  obtain ⟨id, e1, _, _⟩ := DataW.trod_int Try.underlying22 t1
  obtain ⟨nh, e2, _, _⟩ := DataW.trod_int Try.underlying22 t2
  obtain rfl : c0 = .int .i64 au := by simpa using e0
  obtain rfl : c1 = .int .u32 id := by simpa using e1
  obtain rfl : c2 = .int .u32 nh := by simpa using e2
  have hw3 : ∀ m ∈ y3.1.weights Try.prog 23, m ≤ reachBytes := fun m hm => by
    apply hw0
    rw [hd]
    simp only [DataW.weights, Try.underlying25]
    exact DataW.weights_mem_each (j := 3) (t := 23) rfl rfl m hm
  obtain ⟨m, P, hP, hn88, hbd⟩ := ps_of (v := c3) t3 hw3
  obtain ⟨ao, cap, rfl⟩ : ∃ ao cap, c3 = .slice ao m cap := by obtain ⟨⟨ao, cap, hv, _⟩, _⟩ := hP; exact ⟨ao, cap, hv⟩
  refine (makes_any au id nh ao m cap P W hP hn88 hbd).mono fun e W' ⟨he, hB⟩ => ?_
  subst he
  refine ⟨_, rfl, [d0], [], p, [], p, [], hW', ?_, ?_, rfl, hB.frame _, fun h => by cases h⟩
  · exact trodAll_mk1 (shut_bool Try.underlying4 true)
  · exact trodAll_mk1 (hargs W' hB)

theorem makes_holds : Rows.MakesSaid :=
  OpenClaim.holds_of_wide 3 Try.f3 rfl rfl rfl rfl rfl rfl rfl ⟨rfl, rfl, rfl, rfl, rfl⟩ rfl rfl rfl rfl rfl (by kernel_rfl) Try.func3 (by kernel_rfl)
    (of_decide_eq_true (by kernel_rfl)) (by unfold Func.isWrapper; rw [if_neg (of_decide_eq_false (by kernel_rfl))]; exact ⟨rfl, rfl⟩)
    (fun os started H enc _ => makes_lifted os started H enc)

end Go.Proofs.Ytmgcndpcbpkjaaa
