import Derived.Test.YtjnkcibpkkjniaaGreatA34
import Derived.Test.YtjnkcibpkkjniaaGreatA33
set_option linter.unusedVariables false
set_option linter.unusedSimpArgs false
set_option linter.unusedSectionVars false
namespace Go.Proofs.YtjnkcibpkkjniaaGreat.Pool
open Go Go.Conc Go.RowKit Go.Proofs.YtjnkcibpkkjniaaGreat.Sim
set_option maxRecDepth 20000
set_option maxHeartbeats 2000000
theorem al_over {Q:Frame→List Frame→World→Prop} {w:World} {a:Act} {tv:Value} {h now spoke i t:Int} {sp:Nat} {ks:List Item} (hA:AF a tv h sp now spoke i) (hG:AG a t ⟨#[]⟩ true)
  (hk:∀ (a:Act) (w':World),AF a tv h sp now spoke i→AG a t (strOfNums (msgL 3 [4,0])) true→Below w.heap.size w w'→GX [] Q ((base 4).at a (.code alT::ks)) [] w') :
  GX [] Q ((base 4).at a (.code alB::ks)) [] w:=by
 have HK:Hid (_):=hk
 clear hk
 obtain ⟨hd0,hsz,f1,f5,f6,f7,f8,f9⟩:=hA
 obtain ⟨f10,f11,f12⟩:=hG
 obtain ⟨tm,df⟩:=a
 simp only at hd0 hsz f1 f5 f6 f7 f8 f9 f10 f11 f12
 subst hd0
 obtain ⟨k0,k1,k2,k3,k4,k5,k6,k7,k8,k9,k10,k11,k12,k13,k14,k15,k16,k17,k18,k19,k20,k21,k22,k23,k24,k25,k26,k27,k28,k29,k30,k31,k32,k33,k34,k35,k36,k37,k38,k39,k40,k41,k42,k43,k44,k45,k46,k47,k48,k49,k50,k51,k52,k53,k54,k55,k56,k57,k58,k59,k60,k61,k62,k63,k64,k65,k66,k67,k68,k69,k70,k71,k72,k73,k74,k75,k76,k77,k78,k79,k80,k81,k82,k83,k84,k85,k86,k87,k88,k89,k90,k91,k92,k93,k94,rfl⟩:=arr95 hsz
 simp only [List.getElem?_toArray,List.getElem?_cons_succ,List.getElem?_cons_zero,Option.some.injEq] at f1 f5 f6 f7 f8 f9 f10 f11 f12
 subst f1 f5 f6 f7 f8 f9 f10 f11 f12
 clear hsz
 (have g_v:=valTo_ok;have g_s:=skpTo_ok;have g_e:=entTo_ok;have g_c:=cell_again;have g_f:=frozen_again;have g_h:=heap_again)
 have k4:(⟨#[4,0]⟩:ByteArray)=strOfNums [4,0]:=rfl
 unfold alB alL
 unfold alRest
 simp only [Tryz.f4]
 refine GX.seq ?_
 refine GX.seq ?_
 ((refine GX.region ?_);walk_nrm)
 ((refine GX.v rfl rfl (by kernel_rfl) (fun T K hK=>?_));unfold execOp;go_simp;(refine hK _ _ ?_);clear hK K;(refine GX.like (v:=w) ?_ rfl rfl);clear T;walk_nrm)
 refine GX.regionEnd ?_
 refine GX.cond (t:=true) (by kernel_rfl) rfl ?_
 simp only [if_true]
 ((refine GX.region ?_);walk_nrm)
 refine GX.c rfl rfl (by kernel_rfl) (fun T K hK=>?_)
 unfold execOp
 go_simp
 refine hK _ _ _ (fun T'=>?_)
 clear hK K
 refine Calls.mono (message_any 3 [4,0] (by decide) _) ?_
 rintro e w2 ⟨rfl,hB⟩
 refine ⟨_,rfl,GX.like (v:={ w with heap:=w2.heap }) ?_ rfl hB.os.symm⟩
 have hB2:=below_put (w:=w) hB
 generalize ({ w with heap:=w2.heap }:World)=w3 at hB2 ⊢
 clear hB
 clear w2
 walk_nrm
 rename World=>w2
 ((refine GX.v rfl rfl (by kernel_rfl) (fun T K hK=>?_));unfold execOp;go_simp;(refine hK _ _ ?_);clear hK K;(refine GX.like (v:=w2) ?_ rfl rfl);clear T;walk_nrm)
 refine GX.regionEnd ?_
 have hfin:=HK.out
 unfold alT alB alL at hfin
 unfold alRest at hfin
 simp only [Tryz.f4] at hfin
 exact hfin _ _ ⟨rfl,rfl,rfl,rfl,rfl,rfl,rfl,rfl⟩ ⟨rfl,rfl,rfl⟩ hB2
end Go.Proofs.YtjnkcibpkkjniaaGreat.Pool
