/- waypostlaw.Makes: its walk. -/
import Derived.Test.YtmgcndpcbpkjaaaMade
namespace Go.Proofs.Ytmgcndpcbpkjaaa
open Go.RowKit
set_option linter.unusedSimpArgs false
set_option linter.unusedVariables false

def noP : Nat → Pr := fun _ => ⟨0, 0, 0, 0, 0, .slice none 0 0, 0, fun _ => behindR, .slice none 0 0, 0, fun _ => behindR⟩

theorem noP_at (w : World) : PsAt w (.slice none 0 0) 0 noP :=
  ⟨⟨none, 0, rfl, Nat.le_refl _, by unfold maxLen; omega, fun h => by omega⟩, fun i hi => by omega⟩

theorem fault_a : (faultOf 1 1 0 noP).1 = 0 := by decide
theorem fault_b : (faultOf 1 0 0 noP).1 = 1 := by decide

set_option maxHeartbeats 1000000 in
theorem makes_any (au id nh : Int) (ao : Option Addr) (n cap : Nat) (P : Nat → Pr) (w : World) (h : PsAt w (.slice ao n cap) n P) (hn88 : n * 88 ≤ 140737488351232)
    (hbd : ∀ i < n, (P i).ni ≤ 4398046511104 ∧ (P i).ne ≤ 4398046511104) :
    Calls Try.prog 3 #[.agg #[.int .i64 au, .int .u32 id, .int .u32 nh, .slice ao n cap]] w fun e w' =>
      e = .returned (.bool true) ∧ Below w.heap.size w w' := by
  have H := hide h
  have Hbd := hide hbd
  clear h hbd
  go_enter Try.func3, Try.ntmps3
  go_wp2_with fail
  refine (made_any 1 1 0 none 0 0 noP _ (noP_at _) (by omega) (fun i hi => by omega)).mono ?_
  rintro e w1 ⟨p1, rfl, hp1, hB1⟩
  have hq1 : p1 ≠ none := by rw [Ne, hp1, fault_a]; simp
  obtain ⟨a1, rfl⟩ : ∃ a, p1 = some a := by cases p1 with | none => exact absurd rfl hq1 | some a => exact ⟨a, rfl⟩
  clear hp1 hq1
  go_wp2_with fail
  refine (made_any 1 0 0 none 0 0 noP _ (noP_at _) (by omega) (fun i hi => by omega)).mono ?_
  rintro e w2 ⟨p2, rfl, hp2, hB2⟩
  obtain rfl : p2 = none := by rw [hp2, fault_b]; simp
  clear hp2
  have hz : w.heap.size < w1.heap.size := by have := hB1.size; simp only [World.size_alloc] at this; omega
  have hB12 : Below w.heap.size w w2 := (((Below.refl _ _).alloc (Nat.le_refl _) _).trans (hB1.mono (by simp only [World.size_alloc]; omega))).trans (hB2.mono (by omega))
  have hb : w2.heap[w.heap.size]? = some (.cells #[.int .i64 au, .int .u32 id, .int .u32 nh, .slice ao n cap] 25) := by
    rw [hB2.block _ hz, hB1.block _ (by simp only [World.size_alloc]; omega)]; exact heap_alloc_new _ _
  have c0 : w2.cell? ⟨w.heap.size, 0, none⟩ = some (.int .i64 au) := cell_of_row _ _ _ _ _ _ hb
  have c1 : w2.cell? ⟨w.heap.size, 1, none⟩ = some (.int .u32 id) := cell_of_row _ _ _ _ _ _ hb
  have c2 : w2.cell? ⟨w.heap.size, 2, none⟩ = some (.int .u32 nh) := cell_of_row _ _ _ _ _ _ hb
  have c3 : w2.cell? ⟨w.heap.size, 3, none⟩ = some (.slice ao n cap) := cell_of_row _ _ _ _ _ _ hb
  clear hb hB1 hB2
  go_wp2_with fail
  refine (made_any au id nh ao n cap P _ (H.out.cell hB12) hn88 Hbd.out).mono ?_
  rintro e w3 ⟨p3, rfl, _, hB3⟩
  go_wp2_with fail
  go_ret
  exact ⟨rfl, hB12.trans (hB3.mono hB12.size)⟩

end Go.Proofs.Ytmgcndpcbpkjaaa
