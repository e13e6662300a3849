import Derived.Test.YtjnkcibpkkjniaaGreatA34
import Derived.Test.YtjnkcibpkkjniaaGreatA25
set_option linter.unusedVariables false
set_option linter.unusedSimpArgs false
set_option linter.unusedSectionVars false
namespace Go.Proofs.YtjnkcibpkkjniaaGreat.Pool
open Go Go.Conc Go.RowKit Go.Proofs.YtjnkcibpkkjniaaGreat.Sim
set_option maxRecDepth 20000
set_option maxHeartbeats 2000000
theorem al_tick {Q:Frame→List Frame→World→Prop} {w:World} {a:Act} {ad:Addr} {n cap:Nat} {C:Array Value} {h now spoke i z:Int} {sp:Nat} (hA:AF a (mkF (.slice (some ad) n cap) C) h sp now spoke i) (i0:0≤i) (hi:i < n) (hi2:i < 400) (hz:-9223372036854775808≤z∧z≤9223372036854775807) (hs:(ad.add i.toNat).spot=none) (hc:C[(ad.add i.toNat).off]? = some (.int .i64 z)) (hn:0≤now∧now≤1000000000)
  (hk:∀ a:Act,AF a (mkF (.slice (some ad) n cap) C) h sp (now+pickN z 1048576) spoke i→a.tmps[10]? = some (.int .i64 (pickN z 1048576))→a.tmps[11]? = some (.string ⟨#[]⟩)→a.tmps[12]? = some (.bool (decide (h≤now+pickN z 1048576))) →
   GX [] Q ((base 4).at a (.code alB::.inBlock 1::.code alStep::alK)) [] w) :
  GX [] Q ((base 4).at a (.code alL::alK)) [] w:=by
 have HK:Hid (_):=hk
 clear hk
 obtain ⟨hd0,hsz,f1,f5,f6,f7,f8,f9⟩:=hA
 obtain ⟨tm,df⟩:=a
 simp only at hd0 hsz f1 f5 f6 f7 f8 f9
 subst hd0
 obtain ⟨k0,k1,k2,k3,k4,k5,k6,k7,k8,k9,k10,k11,k12,k13,k14,k15,k16,k17,k18,k19,k20,k21,k22,k23,k24,k25,k26,k27,k28,k29,k30,k31,k32,k33,k34,k35,k36,k37,k38,k39,k40,k41,k42,k43,k44,k45,k46,k47,k48,k49,k50,k51,k52,k53,k54,k55,k56,k57,k58,k59,k60,k61,k62,k63,k64,k65,k66,k67,k68,k69,k70,k71,k72,k73,k74,k75,k76,k77,k78,k79,k80,k81,k82,k83,k84,k85,k86,k87,k88,k89,k90,k91,k92,k93,k94,rfl⟩:=arr95 hsz
 simp only [List.getElem?_toArray,List.getElem?_cons_succ,List.getElem?_cons_zero,Option.some.injEq] at f1 f5 f6 f7 f8 f9
 subst f1 f5 f6 f7 f8 f9
 clear hsz
 (have g_v:=valTo_ok;have g_s:=skpTo_ok;have g_e:=entTo_ok;have g_c:=cell_again;have g_f:=frozen_again;have g_h:=heap_again)
 obtain ⟨n0,n1⟩:=hn
 have hge:¬ (i < 0):=by omega
 have hge2:¬ ((n:Int)≤i):=by omega
 unfold alK alL
 unfold alRest
 simp only [Tryz.f4]
 refine GX.seq ?_
 refine GX.seq ?_
 ((refine GX.region ?_);walk_nrm)
 ((refine GX.v rfl rfl (by kernel_rfl) (fun T K hK=>?_));unfold execOp;go_simp;(refine hK _ _ ?_);clear hK K;(refine GX.like (v:=w) ?_ rfl rfl);clear T;walk_nrm)
 ((refine GX.mMove rfl rfl rfl rfl ?_);walk_nrm)
 ((refine GX.mLen rfl rfl rfl rfl ?_);walk_nrm)
 iterate 5 ((refine GX.v rfl rfl (by kernel_rfl) (fun T K hK=>?_));unfold execOp;go_simp;(refine hK _ _ ?_);clear hK K;(refine GX.like (v:=w) ?_ rfl rfl);clear T;walk_nrm)
 refine GX.regionEnd ?_
 refine GX.cond (t:=true) (by kernel_rfl) rfl ?_
 simp only [if_true]
 refine GX.skipCode ?_
 refine GX.seq ?_
 refine GX.block ?_
 refine GX.seq ?_
 ((refine GX.region ?_);walk_nrm)
 ((refine GX.mMove rfl rfl rfl rfl ?_);walk_nrm)
 ((refine GX.v rfl rfl (by kernel_rfl) (fun T K hK=>?_));unfold execOp;go_simp;(refine hK _ _ ?_);clear hK K;(refine GX.like (v:=w) ?_ rfl rfl);clear T;walk_nrm)
 (refine GX.mIndex rfl rfl rfl rfl rfl i0 hi ?_);walk_nrm
 (refine GX.mLoad rfl rfl rfl rfl hs hc ?_);walk_nrm
 refine GX.c rfl rfl (by kernel_rfl) (fun T K hK=>?_)
 unfold execOp
 go_simp
 refine hK _ _ _ (fun T'=>?_)
 clear hK K
 refine Calls.mono (pick_any z 1048576 hz (by decide) _) ?_
 rintro e w' ⟨rfl,rfl⟩
 refine ⟨_,rfl,GX.like (v:=w) ?_ rfl rfl⟩
 clear T'
 obtain ⟨p1,p2⟩:=pickN_lt (c:=z) (n:=1048576) (by decide)
 generalize pickN z 1048576=pk at p1 p2 HK ⊢
 have kw:IntKind.i64.wrap (now+pk)=now+pk:=by rw [IntKind.wrap_i64];omega
 walk_nrm
 ((refine GX.v rfl rfl (by kernel_rfl) (fun T K hK=>?_));unfold execOp;go_simp;(refine hK _ _ ?_);clear hK K;(refine GX.like (v:=w) ?_ rfl rfl);clear T;walk_nrm)
 refine GX.regionEnd ?_
 refine GX.seq ?_
 ((refine GX.region ?_);walk_nrm)
 iterate 4 ((refine GX.v rfl rfl (by kernel_rfl) (fun T K hK=>?_));unfold execOp;go_simp;(refine hK _ _ ?_);clear hK K;(refine GX.like (v:=w) ?_ rfl rfl);clear T;walk_nrm)
 refine GX.regionEnd ?_
 refine GX.seq ?_
 ((refine GX.region ?_);walk_nrm)
 ((refine GX.v rfl rfl (by kernel_rfl) (fun T K hK=>?_));unfold execOp;go_simp;(refine hK _ _ ?_);clear hK K;(refine GX.like (v:=w) ?_ rfl rfl);clear T;walk_nrm)
 refine GX.regionEnd ?_
 refine GX.seq ?_
 ((refine GX.region ?_);walk_nrm)
 iterate 4 ((refine GX.v rfl rfl (by kernel_rfl) (fun T K hK=>?_));unfold execOp;go_simp;(refine hK _ _ ?_);clear hK K;(refine GX.like (v:=w) ?_ rfl rfl);clear T;walk_nrm)
 refine GX.regionEnd ?_
 have hfin:=HK.out
 unfold alB alStep alK alL at hfin
 unfold alRest at hfin
 simp only [Tryz.f4] at hfin
 exact hfin _ ⟨rfl,rfl,rfl,rfl,rfl,rfl,rfl,rfl⟩ rfl rfl rfl
end Go.Proofs.YtjnkcibpkkjniaaGreat.Pool
