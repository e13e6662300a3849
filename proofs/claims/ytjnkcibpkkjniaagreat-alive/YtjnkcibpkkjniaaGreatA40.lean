import Derived.Test.YtjnkcibpkkjniaaGreatA34
import Derived.Test.YtjnkcibpkkjniaaGreatA25
set_option linter.unusedVariables false
set_option linter.unusedSimpArgs false
set_option linter.unusedSectionVars false
namespace Go.Proofs.YtjnkcibpkkjniaaGreat.Pool
open Go Go.Conc Go.RowKit Go.Proofs.YtjnkcibpkkjniaaGreat.Sim
set_option maxRecDepth 20000
set_option maxHeartbeats 2000000
theorem al_turn {Q:Frame→List Frame→World→Prop} {w:World} {a:Act} {tv:Value} {h now now' spoke i t:Int} {sp xb xc:Nat} {Z:List Value} {p:Pz} {pa:Option Addr} {pl pc:Nat} {st hold heard sp0:Int} {want:ByteArray} {over:Bool} {st1 hold1 heard1 spoke1:Int} {sent:List Int} {cl:Bool} {ks:List Item}
  (hA:AF a tv h sp now' spoke i) (hG:AG a t want over) (hS:Stnd w sp xb xc Z now 65000 200 p st hold heard sp0 pa pl pc)
  (HT:∀ {c bc:Frame} {ac:Act} {ops:Array Oper} {i:Nat} {l:List Nat} {kk:List Item},c=bc.at ac (.inRegion ops (i::l)::kk)→(∀ w' outv Z' p' pa' pl' pc',Stnd w' sp xb xc Z' now' 65000 200 p' st1 hold1 heard1 spoke1 pa' pl' pc'→p'.au=p.au→p'.hold=p.hold→OutOk w' outv sent cl→(∀ x∈c::[],∀ (j:Nat) v b,x.tmps[j]? = some v→isMk v=false→Nm v b→b < w.heap.size→b≠sp→b≠xb→¬ Named3 p pa b→w'.heap[b]? = w.heap[b]?∧¬ Named3 p' pa' b)→GX [] Q (c.finish outv) [] w') →
   GX [] Q ((base 17).at { tmps:=#[.pointer (some ⟨sp,0,none⟩), .int .i64 t, .slice none 0 0]++Array.replicate 19 undef,defers:=[] } [.code (Tryz.f17.body.getD .skip)]) (c::[]) w)
  (hk:∀ (a:Act) (w':World) outv Z' p' pa' pl' pc',AF a tv h sp now' spoke i→AG a t want over→a.tmps[13]? = some outv→a.tmps[14]? = some (.int .i64 st1)→Stnd w' sp xb xc Z' now' 65000 200 p' st1 hold1 heard1 spoke1 pa' pl' pc'→OutOk w' outv sent cl →
   GX [] Q ((base 4).at a (.code alJ::ks)) [] w') :
  GX [] Q ((base 4).at a (.code alT::ks)) [] w:=by
 have HK:Hid (_):=hk
 have HS:Hid (Stnd w sp xb xc Z now 65000 200 p st hold heard sp0 pa pl pc):=hS
 have HTT:Hid (∀ {c bc:Frame} {ac:Act} {ops:Array Oper} {i:Nat} {l:List Nat} {kk:List Item},c=bc.at ac (.inRegion ops (i::l)::kk)→(∀ w' outv Z' p' pa' pl' pc',Stnd w' sp xb xc Z' now' 65000 200 p' st1 hold1 heard1 spoke1 pa' pl' pc'→p'.au=p.au→p'.hold=p.hold→OutOk w' outv sent cl→(∀ x∈c::[],∀ (j:Nat) v b,x.tmps[j]? = some v→isMk v=false→Nm v b→b < w.heap.size→b≠sp→b≠xb→¬ Named3 p pa b→w'.heap[b]? = w.heap[b]?∧¬ Named3 p' pa' b)→GX [] Q (c.finish outv) [] w') →
   GX [] Q ((base 17).at { tmps:=#[.pointer (some ⟨sp,0,none⟩), .int .i64 t, .slice none 0 0]++Array.replicate 19 undef,defers:=[] } [.code (Tryz.f17.body.getD .skip)]) (c::[]) w):=HT
 clear hk hS HT
 obtain ⟨hd0,hsz,f1,f5,f6,f7,f8,f9⟩:=hA
 obtain ⟨f10,f11,f12⟩:=hG
 obtain ⟨tm,df⟩:=a
 simp only at hd0 hsz f1 f5 f6 f7 f8 f9 f10 f11 f12
 subst hd0
 obtain ⟨k0,k1,k2,k3,k4,k5,k6,k7,k8,k9,k10,k11,k12,k13,k14,k15,k16,k17,k18,k19,k20,k21,k22,k23,k24,k25,k26,k27,k28,k29,k30,k31,k32,k33,k34,k35,k36,k37,k38,k39,k40,k41,k42,k43,k44,k45,k46,k47,k48,k49,k50,k51,k52,k53,k54,k55,k56,k57,k58,k59,k60,k61,k62,k63,k64,k65,k66,k67,k68,k69,k70,k71,k72,k73,k74,k75,k76,k77,k78,k79,k80,k81,k82,k83,k84,k85,k86,k87,k88,k89,k90,k91,k92,k93,k94,rfl⟩:=arr95 hsz
 simp only [List.getElem?_toArray,List.getElem?_cons_succ,List.getElem?_cons_zero,Option.some.injEq] at f1 f5 f6 f7 f8 f9 f10 f11 f12
 subst f1 f5 f6 f7 f8 f9 f10 f11 f12
 clear hsz
 (have g_v:=valTo_ok;have g_s:=skpTo_ok;have g_e:=entTo_ok;have g_c:=cell_again;have g_f:=frozen_again;have g_h:=heap_again)
 have hfin:=HK.out
 clear HK
 have HF:Hid (_):=hfin
 clear hfin
 unfold alT alB alL
 unfold alRest
 simp only [Tryz.f4]
 refine GX.seq ?_
 ((refine GX.region ?_);walk_nrm)
 iterate 2 ((refine GX.v rfl rfl (by kernel_rfl) (fun T K hK=>?_));unfold execOp;go_simp;(refine hK _ _ ?_);clear hK K;(refine GX.like (v:=w) ?_ rfl rfl);clear T;walk_nrm)
 refine GX.callTurn (v0:=.pointer (some ⟨sp,0,none⟩)) (v1:=.int .i64 t) (v2:=.slice none 0 0) rfl rfl rfl (by kernel_rfl) rfl rfl rfl ?_
 refine HTT.out rfl (fun w2 outv Z' p' pa' pl' pc' q1 _ _ q4 q5=>?_)
 have c1:w2.cell? ⟨sp,1,none⟩=some (.slice (some ⟨xb,0,none⟩) 1 xc):=cell_blk q1.hsp 1
 have c2:w2.cell? ⟨xb,9,none⟩=some (.int .i64 st1):=(cell_blk q1.ss.blk 9).trans ((Array.getElem?_append_left (by rw [sessA_size];decide)).trans rfl)
 have HQ:Hid (∀ T,Calls Tryz.prog 18 #[.pointer (some ⟨sp,0,none⟩), .int .i64 0] (again w2 T) fun e w'=>e=.returned (.int .i64 st1)∧w'=again w2 T):=fun T=>state_any (again w2 T) sp xb 1 xc st1 c1 (by decide) c2
 have H1:Hid (Stnd w2 sp xb xc Z' now' 65000 200 p' st1 hold1 heard1 spoke1 pa' pl' pc'):=q1
 have H4:Hid (OutOk w2 outv sent cl):=q4
 have hmo:isMk outv=false:=by rcases q4 with ⟨_,_,rfl⟩ | ⟨_,nb,nc,rfl,_⟩ <;> rfl
 clear q1 q4 q5 c1 c2 HS HTT
 rw [fin_at rfl]
 walk_nrm
 ((refine GX.v rfl rfl (by kernel_rfl) (fun T K hK=>?_));unfold execOp;go_simp;(refine hK _ _ ?_);clear hK K;(refine GX.like (v:=w2) ?_ rfl rfl);clear T;walk_nrm)
 refine GX.regionEnd ?_
 refine GX.seq ?_
 ((refine GX.region ?_);walk_nrm)
 ((refine GX.v rfl rfl (by kernel_rfl) (fun T K hK=>?_));unfold execOp;go_simp;(refine hK _ _ ?_);clear hK K;(refine GX.like (v:=w2) ?_ rfl rfl);clear T;walk_nrm)
 refine GX.c rfl rfl (by kernel_rfl) (fun T K hK=>?_)
 unfold execOp
 go_simp
 refine hK _ _ _ (fun T'=>?_)
 clear hK K
 refine Calls.mono (HQ.out T') ?_
 rintro e w' ⟨rfl,rfl⟩
 refine ⟨_,rfl,GX.like (v:=w2) ?_ rfl rfl⟩
 clear T'
 walk_nrm
 ((refine GX.v rfl rfl (by kernel_rfl) (fun T K hK=>?_));unfold execOp;go_simp;(refine hK _ _ ?_);clear hK K;(refine GX.like (v:=w2) ?_ rfl rfl);clear T;walk_nrm)
 refine GX.regionEnd ?_
 have hfin:=HF.out
 unfold alJ alT alB alL at hfin
 unfold alRest at hfin
 simp only [Tryz.f4] at hfin
 exact hfin _ w2 outv Z' p' pa' pl' pc' ⟨rfl,rfl,rfl,rfl,rfl,rfl,rfl,rfl⟩ ⟨rfl,rfl,rfl⟩ rfl rfl H1.out H4.out
end Go.Proofs.YtjnkcibpkkjniaaGreat.Pool
