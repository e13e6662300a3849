import Derived.Test.YtjnkcibpkkjniaaGreatA07
set_option linter.unusedVariables false
set_option linter.unusedSimpArgs false
set_option linter.unusedSectionVars false
namespace Go.Proofs.YtjnkcibpkkjniaaGreat
open Go.RowKit
set_option maxHeartbeats 400000
theorem k_a:∀ xs ys:List Int,(xs++ys).length=xs.length+ys.length:=fun _ _=>List.length_append
theorem k_2:∀ n,(twoL n).length=2:=fun _=>rfl
theorem k_16:mark.length=16:=rfl
theorem msgL_len (kind:Int) (b:List Int):(msgL kind b).length=19+b.length:=by simp [msgL,k_2,k_16];omega
theorem message_any (kind:Int) (b:List Int) (hb:b.length≤65535) (w:World) :
  Calls Tryz.prog 15 #[.int .u8 kind, .string (strOfNums b)] w fun e w'=>e=.returned (.string (strOfNums (msgL kind b)))∧Below w.heap.size w w':=by
 have kc:=conv1
 have ks:=S_append
 have kz:=strOfNums_size
 have km:=msg_join1
 have k2:=k_2
 have k16:=k_16
 have ka:=k_a
 go_enter Tryz.func15,Tryz.ntmps15
 go_wp2_with fail
 go_region_with (first
  | (go_at_call 31;go_loud (refine (marker_any _).mono ?_);go_loud (rintro e w' ⟨rfl,rfl⟩))
  | (go_at_call 32;go_loud (refine (ktwo_ex _ _).mono ?_);go_loud (rintro e w' ⟨rfl,rfl⟩)))
 all_goals (go_wp2_with fail;go_ret;exact ⟨rfl,by (repeat (first | exact Below.refl _ _ | refine Below.drew ?_ | refine Below.alloc ?_ (by first | omega | (simp only [World.size_alloc,World.size_setCell,World.size_drew];omega) | simp) _ | refine Below.setCell ?_ (by first | omega | simp) _ | assumption))⟩)
theorem kalive_any (w:World) :
  Calls Tryz.prog 16 #[] w fun e w'=>e=.returned (.string (strOfNums (msgL 4 [])))∧Below w.heap.size w w':=by
 have h0:(⟨#[]⟩:ByteArray)=strOfNums []:=rfl
 go_enter Tryz.func16,Tryz.ntmps16
 go_wp2_with (go_at_call 15;rw [h0];refine (message_any 4 [] (by simp) _).mono ?_;rintro e w' ⟨rfl,hB⟩)
 go_ret
 exact ⟨rfl,hB⟩
theorem keepalive_any (w:World) :
  Calls Tryz.prog 146 #[] w fun e w'=>e=.returned (.string (strOfNums (msgL 4 [])))∧Below w.heap.size w w':=by
 have h0:(⟨#[]⟩:ByteArray)=strOfNums []:=rfl
 go_enter Tryz.func146,Tryz.ntmps146
 go_wp2_with (go_at_call 154;rw [h0];refine (assemble_any 4 [] (by simp) _).mono ?_;rintro e w' ⟨rfl,hB⟩)
 go_ret
 exact ⟨rfl,hB⟩
end Go.Proofs.YtjnkcibpkkjniaaGreat
