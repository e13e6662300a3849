import Derived.Test.YtjnkcibpkkjniaaGreatA09
set_option linter.unusedVariables false
set_option linter.unusedSimpArgs false
set_option linter.unusedSectionVars false
namespace Go.Proofs.YtjnkcibpkkjniaaGreat
open Go.RowKit
set_option maxHeartbeats 800000
set_option maxRecDepth 8000
def openL (au hold:Int) (id:List Int):List Int:=4::(twoL au++(twoL hold++id))
theorem al3_1 (w:World) (C:Array Value) (t:TypeId) (o q:Obj) (i:Nat):(((w.alloc (.cells C t)).alloc o).alloc q).cell? ⟨w.heap.size,i,none⟩=C[i]?:=by
 rw [World.cell?_alloc_past _ _ _ (by simp;omega),World.cell?_alloc_past _ _ _ (by simp),World.cell?_alloc_new]
theorem al3_2 (w:World) (C:Array Value) (t:TypeId) (o q:Obj) (i:Nat):(((w.alloc o).alloc (.cells C t)).alloc q).cell? ⟨w.heap.size+1,i,none⟩=C[i]?:=by
 rw [World.cell?_alloc_past _ _ _ (by simp),World.cell?_alloc_at _ _ _ _ (by simp)]
theorem al3_3 (w:World) (C:Array Value) (t:TypeId) (o q:Obj) (i:Nat):(((w.alloc o).alloc q).alloc (.cells C t)).cell? ⟨w.heap.size+2,i,none⟩=C[i]?:=by
 rw [World.cell?_alloc_at _ _ _ _ (by simp)]
theorem kopen_any (au hold id:Int) (w:World) :
  Calls Tryz.prog 30 #[.int .i64 au, .int .i64 hold, .int .i64 id] w fun e w'=>e=.returned (.string (strOfNums (msgL 1 (openL au hold [0,0,0,IntKind.u8.wrap id,0]))))∧Below w.heap.size w w':=by
 have kc:=conv5
 have ks:=S_append
 have kz:=strOfNums_size
 have k4:(⟨#[4]⟩:ByteArray)=strOfNums [4]:=rfl
 have k2:=k_2
 have ka:=k_a
 have l1:=al3_1
 have l2:=al3_2
 have l3:=al3_3
 go_enter Tryz.func30,Tryz.ntmps30
 go_wp2_with fail
 go_region_with (first
  | (go_at_call 32;go_loud (refine (ktwo_ex _ _).mono ?_);go_loud (rintro e w' ⟨rfl,rfl⟩))
  | (go_at_call 15;go_loud (refine (message_any _ _ (by simp [k_2]) _).mono ?_);go_loud (rintro e w' ⟨rfl,hB⟩)))
 all_goals (go_wp2_with fail;go_ret;exact ⟨rfl,Below.trans (by (repeat (first | exact Below.refl _ _ | refine Below.drew ?_ | refine Below.alloc ?_ (by first | omega | (simp only [World.size_alloc,World.size_setCell,World.size_drew];omega) | simp) _ | refine Below.setCell ?_ (by first | omega | simp) _ | assumption))) (hB.mono (by simp only [World.size_alloc,World.size_drew];omega))⟩)
end Go.Proofs.YtjnkcibpkkjniaaGreat
