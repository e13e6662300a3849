import Derived.Test.YtjnkcibpkkjniaaGreatA00
import Derived.Test.YtjnkcibpkkjniaaGreatA17
set_option linter.all false
set_option maxHeartbeats 800000
set_option maxRecDepth 8000
namespace Go.Proofs.YtjnkcibpkkjniaaGreat
section
open Go.RowKit
def pP (au hold:Int) (id:List Int):List Int:=4::(kB au++(kB hold++id))
theorem Sn(w:World)(C:Array Value)(t:TypeId)(o q:Obj)(i:Nat):(((w.alloc (.cells C t)).alloc o).alloc q).cell? ⟨w.heap.size,i,none⟩=C[i]?:=by
 rw[jH _ _ _ (by simp;omega),jH _ _ _ (by simp),jF]
theorem So(w:World)(C:Array Value)(t:TypeId)(o q:Obj)(i:Nat):(((w.alloc o).alloc (.cells C t)).alloc q).cell? ⟨w.heap.size+1,i,none⟩=C[i]?:=by
 rw[jH _ _ _ (by simp),jG _ _ _ _ (by simp)]
theorem Sp(w:World)(C:Array Value)(t:TypeId)(o q:Obj)(i:Nat):(((w.alloc o).alloc q).alloc (.cells C t)).cell? ⟨w.heap.size+2,i,none⟩=C[i]?:=by
 rw[jG _ _ _ _ (by simp)]
theorem Fs(au hold id:Int)(w:World):Calls Tryz.prog 30 #[.int .i64 au,.int .i64 hold,.int .i64 id] w fun e w'=>e=.returned (.string (strOfNums (j9 1 (pP au hold [0,0,0,IntKind.u8.wrap id,0]))))∧Below w.heap.size w w':=by
 have kc:=Od;have a:=qW;have b:=iE;have c:(⟨#[4]⟩:ByteArray)=strOfNums [4]:=rfl;have k2:=p7;have ka:=vj;have d:=Sn;have f:=So;have g:=Sp;go_enter Tryz.func30,Tryz.ntmps30
 go_wp2_with fail
 go_region_with (first
  |(go_at_call 32;go_loud (refine(Dc _ _).mono ?_);go_loud (rintro e w' ⟨rfl,rfl⟩))
  |(go_at_call 15;go_loud (refine(Dp _ _ (by simp[p7]) _).mono ?_);go_loud (rintro e w' ⟨rfl,hB⟩)))
 all_goals(go_wp2_with fail;go_ret;exact⟨rfl,jd (by(repeat(first|exact iD _ _|refine iG ?_|refine iH ?_ (by first|omega|(simp only[iI,iJ,iK];omega)|simp) _|refine iL ?_ (by first|omega|simp) _|assumption))) (hB.mono (by simp only[iI,iK];omega))⟩)
end
end Go.Proofs.YtjnkcibpkkjniaaGreat
