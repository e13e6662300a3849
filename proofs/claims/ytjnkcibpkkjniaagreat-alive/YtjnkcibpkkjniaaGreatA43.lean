import Derived.Test.YtjnkcibpkkjniaaGreatA35
import Derived.Test.YtjnkcibpkkjniaaGreatA33
import Derived.Test.YtjnkcibpkkjniaaGreatA25
import Derived.Test.YtjnkcibpkkjniaaGreatA34
set_option linter.unusedVariables false
set_option linter.unusedSimpArgs false
set_option linter.unusedSectionVars false
namespace Go.Proofs.YtjnkcibpkkjniaaGreat.Pool
open Go Go.Conc Go.RowKit Go.Proofs.YtjnkcibpkkjniaaGreat.Sim
set_option maxRecDepth 20000
set_option maxHeartbeats 2000000
theorem al_j_over {PostS:World→Prop} {w:World} {a:Act} {tv:Value} {h now spoke i t:Int} {sp nb nc xb xc:Nat} {Z:List Value} {p:Pz} {pa:Option Addr} {pl pc:Nat} {sv:ByteArray} (hne:sv.toList.isEmpty=false) (hA:AF a tv h sp now spoke i) (hG:AG a t sv true) (f13:a.tmps[13]? = some (.slice (some ⟨nb,0,none⟩) 1 nc)) (f14:a.tmps[14]? = some (.int .i64 0)) (c0:w.cell? ⟨nb,0,none⟩=some (.int .i64 0)) (c1:w.cell? ⟨nb,1,none⟩=some (.string sv)) (c2:w.cell? ⟨nb,2,none⟩=some (.bool true))
  (hS:Stnd w sp xb xc Z now 65000 200 p 0 0 0 0 pa pl pc) (b1:0≤now) (b2:0≤t) (b3:now+t≤1099511627776) (hP:∀ w',PostS w') :
  GX [] (AtEndA PostS) ((base 4).at a (.code alJ::.inBlock 1::.code alStep::alK)) [] w:=by
 have HP:Hid (∀ w',PostS w'):=hP
 have HS:Hid (Stnd w sp xb xc Z now 65000 200 p 0 0 0 0 pa pl pc):=hS
 clear hP hS
 obtain ⟨hd0,hsz,f1,f5,f6,f7,f8,f9⟩:=hA
 obtain ⟨f10,f11,f12⟩:=hG
 obtain ⟨tm,df⟩:=a
 simp only at hd0 hsz f1 f5 f6 f7 f8 f9 f10 f11 f12 f13 f14
 subst hd0
 obtain ⟨k0,k1,k2,k3,k4,k5,k6,k7,k8,k9,k10,k11,k12,k13,k14,k15,k16,k17,k18,k19,k20,k21,k22,k23,k24,k25,k26,k27,k28,k29,k30,k31,k32,k33,k34,k35,k36,k37,k38,k39,k40,k41,k42,k43,k44,k45,k46,k47,k48,k49,k50,k51,k52,k53,k54,k55,k56,k57,k58,k59,k60,k61,k62,k63,k64,k65,k66,k67,k68,k69,k70,k71,k72,k73,k74,k75,k76,k77,k78,k79,k80,k81,k82,k83,k84,k85,k86,k87,k88,k89,k90,k91,k92,k93,k94,rfl⟩:=arr95 hsz
 simp only [List.getElem?_toArray,List.getElem?_cons_succ,List.getElem?_cons_zero,Option.some.injEq] at f1 f5 f6 f7 f8 f9 f10 f11 f12 f13 f14
 subst f1 f5 f6 f7 f8 f9 f10 f11 f12 f13 f14
 clear hsz
 (have g_v:=valTo_ok;have g_s:=skpTo_ok;have g_e:=entTo_ok;have g_c:=cell_again;have g_f:=frozen_again;have g_h:=heap_again)
 unfold alJ alT alB alStep alK alL
 unfold alRest
 simp only [Tryz.f4]
 refine GX.seq ?_
 refine GX.seq ?_
 ((refine GX.region ?_);walk_nrm)
 iterate 2 ((refine GX.v rfl rfl (by kernel_rfl) (fun T K hK=>?_));unfold execOp;go_simp;(refine hK _ _ ?_);clear hK K;(refine GX.like (v:=w) ?_ rfl rfl);clear T;walk_nrm)
 refine GX.regionEnd ?_
 refine GX.cond (t:=false) (by kernel_rfl) rfl ?_
 simp only [Bool.false_eq_true,if_false]
 refine GX.skipCode ?_
 refine GX.seq ?_
 refine GX.seq ?_
 ((refine GX.region ?_);walk_nrm)
 iterate 18 ((refine GX.v rfl rfl (by kernel_rfl) (fun T K hK=>?_));unfold execOp;go_simp;(refine hK _ _ ?_);clear hK K;(refine GX.like (v:=w) ?_ rfl rfl);clear T;walk_nrm)
 refine GX.regionEnd ?_
 refine GX.cond (t:=false) (by kernel_rfl) rfl ?_
 simp only [Bool.false_eq_true,if_false]
 refine GX.skipCode ?_
 refine GX.seq ?_
 ((refine GX.region ?_);walk_nrm)
 ((refine GX.v rfl rfl (by kernel_rfl) (fun T K hK=>?_));unfold execOp;go_simp;(refine hK _ _ ?_);clear hK K;(refine GX.like (v:=w) ?_ rfl rfl);clear T;walk_nrm)
 refine GX.regionEnd ?_
 refine GX.cond (t:=true) (by kernel_rfl) rfl ?_
 simp only [if_true]
 refine GX.seq ?_
 ((refine GX.region ?_);walk_nrm)
 iterate 2 ((refine GX.v rfl rfl (by kernel_rfl) (fun T K hK=>?_));unfold execOp;go_simp;(refine hK _ _ ?_);clear hK K;(refine GX.like (v:=w) ?_ rfl rfl);clear T;walk_nrm)
 refine GX.c rfl rfl (by kernel_rfl) (fun T K hK=>?_)
 unfold execOp
 go_simp
 refine hK _ _ _ (fun T'=>?_)
 clear hK K
 refine Calls.mono (kalive_any _) ?_
 rintro e w2 ⟨rfl,hB⟩
 refine ⟨_,rfl,GX.like (v:={ w with heap:=w2.heap }) ?_ rfl hB.os.symm⟩
 have hB2:=below_put (w:=w) hB
 generalize ({ w with heap:=w2.heap }:World)=w3 at hB2 ⊢
 clear hB
 clear w2
 rename World=>w2
 walk_nrm
 ((refine GX.v rfl rfl (by kernel_rfl) (fun T K hK=>?_));unfold execOp;go_simp;(refine hK _ _ ?_);clear hK K;(refine GX.like (v:=w2) ?_ rfl rfl);clear T;walk_nrm)
 refine GX.v rfl rfl (by kernel_rfl) (fun T K hK=>?_)
 unfold execOp
 go_simp
 refine hK _ _ ?_
 clear hK K
 refine GX.like (v:=(w2.alloc (.cells #[.int .i64 0, .int .i64 2, .string (strOfNums (msgL 4 []))] 43))) ?_ rfl rfl
 clear T
 have hI:(w2.alloc (.cells #[.int .i64 0, .int .i64 2, .string (strOfNums (msgL 4 []))] 43)).heap[w2.heap.size]? = some (.cells #[.int .i64 0, .int .i64 2, .string (strOfNums (msgL 4 []))] 43 (0,0)):=Go.heap_alloc_new w2 _
 have hB6:Below w2.heap.size w2 (w2.alloc (.cells #[.int .i64 0, .int .i64 2, .string (strOfNums (msgL 4 []))] 43)):=(Below.refl _ _).alloc (Nat.le_refl _) _
 generalize (w2.alloc (.cells #[.int .i64 0, .int .i64 2, .string (strOfNums (msgL 4 []))] 43))=w6 at hI hB6 ⊢
 walk_nrm
 refine GX.callTurn (v0:=.pointer (some ⟨sp,0,none⟩)) (v1:=.int .i64 t) (v2:=.slice (some ⟨w2.heap.size,0,none⟩) 1 1) rfl rfl rfl (by kernel_rfl) rfl rfl rfl ?_
 have s2:=hB2.size
 have k6:∀ b,b < w.heap.size→w6.heap[b]? = w.heap[b]?:=fun b hb=>(hB6.block b (by omega)).trans (hB2.block b hb)
 have l1:=(Array.getElem?_eq_some_iff.1 HS.out.hsp).1
 have lI:=(Array.getElem?_eq_some_iff.1 hI).1
 refine gx_idle rfl (HS.out.keep k6) b1 b2 b3 ⟨by omega,by omega⟩ (jo:=0) (s0:=msgL 4 []) lI (by omega) ⟨cell_blk hI 0,cell_blk hI 1,cell_blk hI 2⟩ (fun w7 outv Z' p' pa' pl' pc' q1 _ _ q4 q5=>?_)
 have HP7:Hid (PostS w7):=HP.out w7
 obtain rfl:outv=.slice none 0 0:=by
  rcases q4 with ⟨_,_,e⟩ | ⟨e,_⟩
  ·exact e
  ·exact absurd e (by simp)
 clear q1 q5 HS HP hI hB6 hB2 k6
 rw [fin_at rfl]
 walk_nrm
 ((refine GX.v rfl rfl (by kernel_rfl) (fun T K hK=>?_));unfold execOp;go_simp;(refine hK _ _ ?_);clear hK K;(refine GX.like (v:=w7) ?_ rfl rfl);clear T;walk_nrm)
 refine GX.regionEnd ?_
 refine GX.seq ?_
 ((refine GX.region ?_);walk_nrm)
 iterate 4 ((refine GX.v rfl rfl (by kernel_rfl) (fun T K hK=>?_));unfold execOp;go_simp;(refine hK _ _ ?_);clear hK K;(refine GX.like (v:=w7) ?_ rfl rfl);clear T;walk_nrm)
 refine GX.regionEnd ?_
 refine GX.ret ?_
 exact GX.done ⟨rfl,rfl,rfl,rfl,HP7.out⟩
end Go.Proofs.YtjnkcibpkkjniaaGreat.Pool
