import Derived.Test.YtjnkcibpkkjniaaGreatA34
import Derived.Test.YtjnkcibpkkjniaaGreatA25
set_option linter.unusedVariables false
set_option linter.unusedSimpArgs false
set_option linter.unusedSectionVars false
namespace Go.Proofs.YtjnkcibpkkjniaaGreat.Pool
open Go Go.Conc Go.RowKit Go.Proofs.YtjnkcibpkkjniaaGreat.Sim
set_option maxRecDepth 20000
set_option maxHeartbeats 2000000
def AtEndA (PostS:World→Prop):Frame→List Frame→World→Prop:=AtReturnX 4 4 (.bool true) PostS
theorem al_out {PostS:World→Prop} {w:World} {a:Act} {ad:Addr} {n cap:Nat} {C:Array Value} {h now spoke i:Int} {sp:Nat} (hA:AF a (mkF (.slice (some ad) n cap) C) h sp now spoke i) (hi:(n:Int)≤i∨(i < n∧400≤i)) (hP:PostS w) :
  GX [] (AtEndA PostS) ((base 4).at a (.code alL::alK)) [] w:=by
 have HP:Hid (PostS w):=hP
 clear hP
 obtain ⟨hd0,hsz,f1,f5,f6,f7,f8,f9⟩:=hA
 obtain ⟨tm,df⟩:=a
 simp only at hd0 hsz f1 f5 f6 f7 f8 f9
 subst hd0
 obtain ⟨k0,k1,k2,k3,k4,k5,k6,k7,k8,k9,k10,k11,k12,k13,k14,k15,k16,k17,k18,k19,k20,k21,k22,k23,k24,k25,k26,k27,k28,k29,k30,k31,k32,k33,k34,k35,k36,k37,k38,k39,k40,k41,k42,k43,k44,k45,k46,k47,k48,k49,k50,k51,k52,k53,k54,k55,k56,k57,k58,k59,k60,k61,k62,k63,k64,k65,k66,k67,k68,k69,k70,k71,k72,k73,k74,k75,k76,k77,k78,k79,k80,k81,k82,k83,k84,k85,k86,k87,k88,k89,k90,k91,k92,k93,k94,rfl⟩:=arr95 hsz
 simp only [List.getElem?_toArray,List.getElem?_cons_succ,List.getElem?_cons_zero,Option.some.injEq] at f1 f5 f6 f7 f8 f9
 subst f1 f5 f6 f7 f8 f9
 clear hsz
 (have g_v:=valTo_ok;have g_s:=skpTo_ok;have g_e:=entTo_ok;have g_c:=cell_again;have g_f:=frozen_again;have g_h:=heap_again)
 unfold alK alL alEnd alRest
 simp only [Tryz.f4]
 refine GX.seq ?_
 refine GX.seq ?_
 ((refine GX.region ?_);walk_nrm)
 rcases hi with hi | ⟨hi,hi2⟩
 ·have hlt:¬ (i < (n:Int)):=by omega
  ((refine GX.v rfl rfl (by kernel_rfl) (fun T K hK=>?_));unfold execOp;go_simp;(refine hK _ _ ?_);clear hK K;(refine GX.like (v:=w) ?_ rfl rfl);clear T;walk_nrm)
  ((refine GX.mMove rfl rfl rfl rfl ?_);walk_nrm)
  ((refine GX.mLen rfl rfl rfl rfl ?_);walk_nrm)
  iterate 2 ((refine GX.v rfl rfl (by kernel_rfl) (fun T K hK=>?_));unfold execOp;go_simp;(refine hK _ _ ?_);clear hK K;(refine GX.like (v:=w) ?_ rfl rfl);clear T;walk_nrm)
  iterate 2 ((refine GX.skip rfl (by rfl) ?_);walk_nrm)
  ((refine GX.v rfl rfl (by kernel_rfl) (fun T K hK=>?_));unfold execOp;go_simp;(refine hK _ _ ?_);clear hK K;(refine GX.like (v:=w) ?_ rfl rfl);clear T;walk_nrm)
  refine GX.regionEnd ?_
  refine GX.cond (t:=false) (by kernel_rfl) rfl ?_
  simp only [Bool.false_eq_true,if_false]
  refine GX.exit rfl ?_
  refine GX.seq ?_
  ((refine GX.region ?_);walk_nrm)
  ((refine GX.v rfl rfl (by kernel_rfl) (fun T K hK=>?_));unfold execOp;go_simp;(refine hK _ _ ?_);clear hK K;(refine GX.like (v:=w) ?_ rfl rfl);clear T;walk_nrm)
  refine GX.regionEnd ?_
  refine GX.ret ?_
  exact GX.done ⟨rfl,rfl,rfl,rfl,HP.out⟩
 ·have hlt:¬ (i < 400):=by omega
  ((refine GX.v rfl rfl (by kernel_rfl) (fun T K hK=>?_));unfold execOp;go_simp;(refine hK _ _ ?_);clear hK K;(refine GX.like (v:=w) ?_ rfl rfl);clear T;walk_nrm)
  ((refine GX.mMove rfl rfl rfl rfl ?_);walk_nrm)
  ((refine GX.mLen rfl rfl rfl rfl ?_);walk_nrm)
  iterate 5 ((refine GX.v rfl rfl (by kernel_rfl) (fun T K hK=>?_));unfold execOp;go_simp;(refine hK _ _ ?_);clear hK K;(refine GX.like (v:=w) ?_ rfl rfl);clear T;walk_nrm)
  refine GX.regionEnd ?_
  refine GX.cond (t:=false) (by kernel_rfl) rfl ?_
  simp only [Bool.false_eq_true,if_false]
  refine GX.exit rfl ?_
  refine GX.seq ?_
  ((refine GX.region ?_);walk_nrm)
  ((refine GX.v rfl rfl (by kernel_rfl) (fun T K hK=>?_));unfold execOp;go_simp;(refine hK _ _ ?_);clear hK K;(refine GX.like (v:=w) ?_ rfl rfl);clear T;walk_nrm)
  refine GX.regionEnd ?_
  refine GX.ret ?_
  exact GX.done ⟨rfl,rfl,rfl,rfl,HP.out⟩
theorem al_out0 {PostS:World→Prop} {w:World} {a:Act} {h now spoke i:Int} {sp:Nat} (hA:AF a (.slice none 0 0) h sp now spoke i) (hi:0≤i) (hP:PostS w) :
  GX [] (AtEndA PostS) ((base 4).at a (.code alL::alK)) [] w:=by
 have HP:Hid (PostS w):=hP
 clear hP
 obtain ⟨hd0,hsz,f1,f5,f6,f7,f8,f9⟩:=hA
 obtain ⟨tm,df⟩:=a
 simp only at hd0 hsz f1 f5 f6 f7 f8 f9
 subst hd0
 obtain ⟨k0,k1,k2,k3,k4,k5,k6,k7,k8,k9,k10,k11,k12,k13,k14,k15,k16,k17,k18,k19,k20,k21,k22,k23,k24,k25,k26,k27,k28,k29,k30,k31,k32,k33,k34,k35,k36,k37,k38,k39,k40,k41,k42,k43,k44,k45,k46,k47,k48,k49,k50,k51,k52,k53,k54,k55,k56,k57,k58,k59,k60,k61,k62,k63,k64,k65,k66,k67,k68,k69,k70,k71,k72,k73,k74,k75,k76,k77,k78,k79,k80,k81,k82,k83,k84,k85,k86,k87,k88,k89,k90,k91,k92,k93,k94,rfl⟩:=arr95 hsz
 simp only [List.getElem?_toArray,List.getElem?_cons_succ,List.getElem?_cons_zero,Option.some.injEq] at f1 f5 f6 f7 f8 f9
 subst f1 f5 f6 f7 f8 f9
 clear hsz
 (have g_v:=valTo_ok;have g_s:=skpTo_ok;have g_e:=entTo_ok;have g_c:=cell_again;have g_f:=frozen_again;have g_h:=heap_again)
 unfold alK alL alEnd alRest
 simp only [Tryz.f4]
 refine GX.seq ?_
 refine GX.seq ?_
 ((refine GX.region ?_);walk_nrm)
 have hlt:¬ (i < 0):=by omega
 iterate 5 ((refine GX.v rfl rfl (by kernel_rfl) (fun T K hK=>?_));unfold execOp;go_simp;(refine hK _ _ ?_);clear hK K;(refine GX.like (v:=w) ?_ rfl rfl);clear T;walk_nrm)
 iterate 2 ((refine GX.skip rfl (by rfl) ?_);walk_nrm)
 ((refine GX.v rfl rfl (by kernel_rfl) (fun T K hK=>?_));unfold execOp;go_simp;(refine hK _ _ ?_);clear hK K;(refine GX.like (v:=w) ?_ rfl rfl);clear T;walk_nrm)
 refine GX.regionEnd ?_
 refine GX.cond (t:=false) (by kernel_rfl) rfl ?_
 simp only [Bool.false_eq_true,if_false]
 refine GX.exit rfl ?_
 refine GX.seq ?_
 ((refine GX.region ?_);walk_nrm)
 ((refine GX.v rfl rfl (by kernel_rfl) (fun T K hK=>?_));unfold execOp;go_simp;(refine hK _ _ ?_);clear hK K;(refine GX.like (v:=w) ?_ rfl rfl);clear T;walk_nrm)
 refine GX.regionEnd ?_
 refine GX.ret ?_
 exact GX.done ⟨rfl,rfl,rfl,rfl,HP.out⟩
end Go.Proofs.YtjnkcibpkkjniaaGreat.Pool
