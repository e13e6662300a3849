import Derived.Test.YtjnkcibpkkjniaaGreatA33
import Derived.Test.YtjnkcibpkkjniaaGreatA26
set_option linter.unusedVariables false
set_option linter.unusedSimpArgs false
set_option linter.unusedSectionVars false
namespace Go.Proofs.YtjnkcibpkkjniaaGreat.Pool
open Go Go.Conc Go.RowKit Go.Proofs.YtjnkcibpkkjniaaGreat.Sim
set_option maxRecDepth 20000
set_option maxHeartbeats 2000000
noncomputable def mtTail:Code:=match mtLoop with | .seq _ (.seq (.block _ (.seq _ (.seq _ c))) _)=>c | _=>.skip
noncomputable def mtNext:Code:=match mtLoop with | .seq _ (.seq _ c)=>c | _=>.skip
theorem met_out {cs:List Frame} {Q:Frame→List Frame→World→Prop} {c:Frame} {x2:List Frame} {bc:Frame} {ac:Act} {ops:Array Oper} {i:Nat} {l:List Nat} {kk:List Item} (hcf:c=bc.at ac (.inRegion ops (i::l)::kk)) {w:World} {a:Act} {sp:Nat}
  (hd0:a.defers=[]) (hsz:a.tmps.size=83) (f0:a.tmps[0]? = some (.int .i64 1)) (f9:a.tmps[9]? = some (.pointer (some ⟨sp,0,none⟩))) (f14:a.tmps[14]? = some (.int .i64 0)) (f81:a.tmps[81]? = some (.bool false))
  (hk:GX cs Q (c.finish (.pointer (some ⟨sp,0,none⟩))) x2 w) :
  GX cs Q ((base 14).at a [.code mtTail, .inBlock 3, .code mtNext, .inLoop mtLoop, .inBlock 2, .code mtEnd]) (c::x2) w:=by
 have HK:Hid (GX cs Q (c.finish (.pointer (some ⟨sp,0,none⟩))) x2 w):=hk
 have HC:Hid (c=bc.at ac (.inRegion ops (i::l)::kk)):=hcf
 clear hk hcf
 obtain ⟨tm,df⟩:=a
 simp only at hd0 hsz f0 f9 f14 f81
 subst hd0
 obtain ⟨k0,k1,k2,k3,k4,k5,k6,k7,k8,k9,k10,k11,k12,k13,k14,k15,k16,k17,k18,k19,k20,k21,k22,k23,k24,k25,k26,k27,k28,k29,k30,k31,k32,k33,k34,k35,k36,k37,k38,k39,k40,k41,k42,k43,k44,k45,k46,k47,k48,k49,k50,k51,k52,k53,k54,k55,k56,k57,k58,k59,k60,k61,k62,k63,k64,k65,k66,k67,k68,k69,k70,k71,k72,k73,k74,k75,k76,k77,k78,k79,k80,k81,k82,rfl⟩:=arr83 hsz
 simp only [List.getElem?_toArray,List.getElem?_cons_succ,List.getElem?_cons_zero,Option.some.injEq] at f0 f9 f14 f81
 subst f0 f9 f14 f81
 clear hsz
 (have g_v:=valTo_ok;have g_s:=skpTo_ok;have g_e:=entTo_ok;have g_c:=cell_again;have g_f:=frozen_again;have g_h:=heap_again)
 unfold mtTail mtNext mtLoop mtEnd mtRest
 simp only [Tryz.f14]
 refine GX.cond (t:=false) (by kernel_rfl) rfl ?_
 simp only [Bool.false_eq_true,if_false]
 refine GX.skipCode ?_
 refine GX.inBlock ?_
 ((refine GX.region ?_);walk_nrm)
 iterate 3 ((refine GX.v rfl rfl (by kernel_rfl) (fun T K hK=>?_));unfold execOp;go_simp;(refine hK _ _ ?_);clear hK K;(refine GX.like (v:=w) ?_ rfl rfl);clear T;walk_nrm)
 refine GX.regionEnd ?_
 refine GX.inLoop ?_
 refine GX.seq ?_
 refine GX.seq ?_
 ((refine GX.region ?_);walk_nrm)
 iterate 3 ((refine GX.v rfl rfl (by kernel_rfl) (fun T K hK=>?_));unfold execOp;go_simp;(refine hK _ _ ?_);clear hK K;(refine GX.like (v:=w) ?_ rfl rfl);clear T;walk_nrm)
 refine GX.regionEnd ?_
 refine GX.cond (t:=false) (by kernel_rfl) rfl ?_
 simp only [Bool.false_eq_true,if_false]
 refine GX.exit rfl ?_
 refine GX.seq ?_
 ((refine GX.region ?_);walk_nrm)
 iterate 2 ((refine GX.v rfl rfl (by kernel_rfl) (fun T K hK=>?_));unfold execOp;go_simp;(refine hK _ _ ?_);clear hK K;(refine GX.like (v:=w) ?_ rfl rfl);clear T;walk_nrm)
 refine GX.regionEnd ?_
 refine GX.ret ?_
 exact GX.leave (tr:=8) rfl Tryz.func14 (by rfl) HC.out HK.out
theorem met_loop {cs:List Frame} {Q:Frame→List Frame→World→Prop} {xs:List Frame} {w:World} {hd:Int} {a:Act} {sp xb xc:Nat} {Z:List Value} {p:Pz} {pa:Option Addr} {pl pc nb nc:Nat}
  (hd0:a.defers=[]) (hsz:a.tmps.size=83) (f0:a.tmps[0]? = some (.int .i64 1)) (f1:a.tmps[1]? = some (.int .i64 hd)) (f9:a.tmps[9]? = some (.pointer (some ⟨sp,0,none⟩))) (f13:a.tmps[13]? = some (.slice (some ⟨nb,0,none⟩) 1 nc)) (f14:a.tmps[14]? = some (.int .i64 0)) (c0:w.cell? ⟨nb,0,none⟩=some (.int .i64 0)) (c1:w.cell? ⟨nb,1,none⟩=some (.string (strOfNums (ansD hd)))) (c2:w.cell? ⟨nb,2,none⟩=some (.bool false)) (hS:Stnd w sp xb xc Z 0 65000 200 p 3 hd 0 0 pa pl pc)
  (hk:∀ (a:Act) (w':World),a.defers=[]→a.tmps.size=83→a.tmps[0]? = some (.int .i64 1)→a.tmps[9]? = some (.pointer (some ⟨sp,0,none⟩))→a.tmps[14]? = some (.int .i64 0)→a.tmps[81]? = some (.bool false)→Below w.heap.size w w' →
   GX cs Q ((base 14).at a [.code mtTail, .inBlock 3, .code mtNext, .inLoop mtLoop, .inBlock 2, .code mtEnd]) xs w') :
  GX cs Q ((base 14).at a [.code mtLoop, .inLoop mtLoop, .inBlock 2, .code mtEnd]) xs w:=by
 have hnb:nb < w.heap.size:=by
  rcases Nat.lt_or_ge nb w.heap.size with h | h
  ·exact h
  ·simp [World.cell?,Array.getElem?_eq_none h] at c0
 have q1:w.cell? ⟨sp,1,none⟩=some (.slice (some ⟨xb,0,none⟩) 1 xc):=cell_blk hS.hsp 1
 have q2:w.cell? ⟨xb,9,none⟩=some (.int .i64 3):=(cell_blk hS.ss.blk 9).trans ((Array.getElem?_append_left (by rw [sessA_size];decide)).trans rfl)
 have HK:Hid (∀ (a:Act) (w':World),a.defers=[]→a.tmps.size=83→a.tmps[0]? = some (.int .i64 1)→a.tmps[9]? = some (.pointer (some ⟨sp,0,none⟩))→a.tmps[14]? = some (.int .i64 0)→a.tmps[81]? = some (.bool false)→Below w.heap.size w w' →
   GX cs Q ((base 14).at a [.code mtTail, .inBlock 3, .code mtNext, .inLoop mtLoop, .inBlock 2, .code mtEnd]) xs w'):=hk
 have HO:Hid (w.cell? ⟨nb,0,none⟩=some (.int .i64 0)∧w.cell? ⟨nb,1,none⟩=some (.string (strOfNums (ansD hd)))∧w.cell? ⟨nb,2,none⟩=some (.bool false)):=⟨c0,c1,c2⟩
 have HQ:Hid (∀ T,Calls Tryz.prog 18 #[.pointer (some ⟨sp,0,none⟩), .int .i64 0] (again w T) fun e w'=>e=.returned (.int .i64 3)∧w'=again w T):=fun T=>state_any (again w T) sp xb 1 xc 3 q1 (by decide) q2
 clear hk c0 c1 c2 q1 q2 hS
 obtain ⟨tm,df⟩:=a
 simp only at hd0 hsz f0 f1 f9 f13 f14
 subst hd0
 obtain ⟨k0,k1,k2,k3,k4,k5,k6,k7,k8,k9,k10,k11,k12,k13,k14,k15,k16,k17,k18,k19,k20,k21,k22,k23,k24,k25,k26,k27,k28,k29,k30,k31,k32,k33,k34,k35,k36,k37,k38,k39,k40,k41,k42,k43,k44,k45,k46,k47,k48,k49,k50,k51,k52,k53,k54,k55,k56,k57,k58,k59,k60,k61,k62,k63,k64,k65,k66,k67,k68,k69,k70,k71,k72,k73,k74,k75,k76,k77,k78,k79,k80,k81,k82,rfl⟩:=arr83 hsz
 simp only [List.getElem?_toArray,List.getElem?_cons_succ,List.getElem?_cons_zero,Option.some.injEq] at f0 f1 f9 f13 f14
 subst f0 f1 f9 f13 f14
 clear hsz
 (have g_v:=valTo_ok;have g_s:=skpTo_ok;have g_e:=entTo_ok;have g_c:=cell_again;have g_f:=frozen_again;have g_h:=heap_again)
 have e1:GX cs Q ((base 14).at ⟨#[.int .i64 1, .int .i64 hd,k2,k3,k4,k5,k6,k7,k8, .pointer (some ⟨sp,0,none⟩),k10,k11,k12, .slice (some ⟨nb,0,none⟩) 1 nc, .int .i64 0, .int .i64 3,k16,k17,k18,k19,k20,k21,k22,k23,k24,k25,k26,k27,k28,k29,k30,k31,k32,k33,k34,k35,k36,k37,k38,k39,k40,k41,k42,k43,k44,k45,k46,k47,k48,k49,k50,k51,k52,k53,k54,k55,k56,k57,k58, .int .i64 0, .int .i64 1, .bool true,k62,k63, .pointer (some ⟨sp,0,none⟩), .int .i64 0, .int .i64 3,k67,k68,k69,k70,k71,k72,k73,k74,k75,k76,k77,k78,k79,k80,k81,k82],[]⟩ [.code (.region 16 mtOps true), .code mtTail, .inBlock 3, .code mtNext, .inLoop mtLoop, .inBlock 2, .code mtEnd]) xs w:=by
  refine GX.lb (D:=[]) (T:=83) (n:=14) (w0:=w) (val:=mtV nb nc hd) (fix:=[(0, .int .i64 1),(1, .int .i64 hd),(9, .pointer (some ⟨sp,0,none⟩)),(13, .slice (some ⟨nb,0,none⟩) 1 nc),(14, .int .i64 0),(15, .int .i64 3)]) (Post:=fun a w'=>a.tmps[81]? = some (.bool false)∧Below w.heap.size w w') (by kernel_rfl) mt_ok mt_top mt_size mtV_mono
   (fun i o a wx l hi ho hfx hdep hs hK=>mt_hop hnb HO.out.1 HO.out.2.1 HO.out.2.2 i o a wx l hi ho (hfx (1,_) (by simp)) (hfx (13,_) (by simp)) (hfx (14,_) (by simp)) (hfx (15,_) (by simp)) hdep hs hK)
   (fun o a wx l ho hfx hdep hs hsz hK=>mt_last o a wx l ho hdep hs hsz hK)
   (fun a wx h1 h2 hfx hP=>HK.out a wx h1 h2 (hfx (0,_) (by simp)) (hfx (9,_) (by simp)) (hfx (14,_) (by simp)) hP.1 hP.2) rfl rfl ?_ (Below.refl _ _)
  intro x hx
  simp at hx
  rcases hx with rfl | rfl | rfl | rfl | rfl | rfl <;> rfl
 have HE:Hid (_):=e1
 clear e1 HK HO
 unfold mtLoop mtEnd mtRest
 simp only [Tryz.f14]
 refine GX.seq ?_
 refine GX.seq ?_
 ((refine GX.region ?_);walk_nrm)
 iterate 3 ((refine GX.v rfl rfl (by kernel_rfl) (fun T K hK=>?_));unfold execOp;go_simp;(refine hK _ _ ?_);clear hK K;(refine GX.like (v:=w) ?_ rfl rfl);clear T;walk_nrm)
 refine GX.regionEnd ?_
 refine GX.cond (t:=true) (by kernel_rfl) rfl ?_
 simp only [if_true]
 refine GX.skipCode ?_
 refine GX.seq ?_
 refine GX.block ?_
 refine GX.seq ?_
 ((refine GX.region ?_);walk_nrm)
 iterate 2 ((refine GX.v rfl rfl (by kernel_rfl) (fun T K hK=>?_));unfold execOp;go_simp;(refine hK _ _ ?_);clear hK K;(refine GX.like (v:=w) ?_ rfl rfl);clear T;walk_nrm)
 refine GX.c rfl rfl (by kernel_rfl) (fun T K hK=>?_)
 unfold execOp
 go_simp
 refine hK _ _ _ (fun T'=>?_)
 clear hK K
 refine Calls.mono (HQ.out T') ?_
 rintro e w' ⟨rfl,rfl⟩
 refine ⟨_,rfl,GX.like (v:=w) ?_ rfl rfl⟩
 clear T'
 walk_nrm
 ((refine GX.v rfl rfl (by kernel_rfl) (fun T K hK=>?_));unfold execOp;go_simp;(refine hK _ _ ?_);clear hK K;(refine GX.like (v:=w) ?_ rfl rfl);clear T;walk_nrm)
 refine GX.regionEnd ?_
 refine GX.seq ?_
 have hfin:=HE.out
 unfold mtOps mtTail mtNext mtLoop mtEnd mtRest at hfin
 simp only [Tryz.f14] at hfin
 exact hfin
end Go.Proofs.YtjnkcibpkkjniaaGreat.Pool
namespace Go.Proofs.YtjnkcibpkkjniaaGreat.Pool
open Go Go.Conc Go.RowKit Go.Proofs.YtjnkcibpkkjniaaGreat.Sim
set_option maxRecDepth 20000
theorem Stnd.keep {w w':World} {sp xb xc:Nat} {Z:List Value} {now au id:Int} {p:Pz} {st hold heard spoke:Int} {pa:Option Addr} {pl pc:Nat} (h:Stnd w sp xb xc Z now au id p st hold heard spoke pa pl pc) (k:∀ b,b < w.heap.size→w'.heap[b]? = w.heap[b]?):Stnd w' sp xb xc Z now au id p st hold heard spoke pa pl pc:=by
 refine ⟨(k sp (Array.getElem?_eq_some_iff.1 h.hsp).1).trans h.hsp,h.ss.keep fun b hb=>k b ?_,h.ne,h.nm⟩
 rcases hb with rfl | hb
 ·exact (Array.getElem?_eq_some_iff.1 h.ss.blk).1
 ·obtain ⟨cur,ty,fr,q,_⟩:=(h.ss.rows b hb).2
  exact (Array.getElem?_eq_some_iff.1 q).1
theorem met_gx {cs:List Frame} {Q:Frame→List Frame→World→Prop} {c:Frame} {x2:List Frame} {bc:Frame} {ac:Act} {ops:Array Oper} {i:Nat} {l:List Nat} {kk:List Item} (hcf:c=bc.at ac (.inRegion ops (i::l)::kk)) {w:World} {hd:Int} (h1:3≤hd) (h2:hd≤65535)
  (k:∀ w' sp xb xc Z p pa pl pc,Stnd w' sp xb xc Z 0 65000 200 p 3 hd 0 0 pa pl pc→GX cs Q (c.finish (.pointer (some ⟨sp,0,none⟩))) x2 w') :
  GX cs Q ((base 14).at { tmps:=#[.int .i64 1, .int .i64 hd, .int .i64 0, .int .i64 0]++Array.replicate 79 undef,defers:=[] } [.code (Tryz.f14.body.getD .skip)]) (c::x2) w:=by
 refine met_to h1 h2 fun a w1 sp xb xc Z p jb jc a1 a2 a3 a4 a5 a6 hS hpa hph hjb hjs i0 i1 _ _=>?_
 refine met_turn h1 h2 a1 a2 a3 a4 a5 a6 hS hpa hph hjb hjs i0 i1 fun a w2 Z' p' pa' pl' pc' nb nc b1 b2 b3 b4 b5 b6 b7 o0 o1 o2 hS2 hph2 _=>?_
 refine met_loop b1 b2 b3 b4 b5 b6 b7 o0 o1 o2 hS2 fun a w3 d1 d2 d3 d4 d5 d6 hB=>?_
 exact met_out hcf d1 d2 d3 d4 d5 d6 (k w3 sp xb xc Z' p' pa' pl' pc' (hS2.keep fun b hb=>hB.block b hb))
end Go.Proofs.YtjnkcibpkkjniaaGreat.Pool
namespace Go.Proofs.YtjnkcibpkkjniaaGreat.Pool
open Go Go.Conc Go.RowKit Go.Proofs.YtjnkcibpkkjniaaGreat.Sim
set_option maxRecDepth 20000
set_option maxHeartbeats 2000000
theorem GX.done {cs:List Frame} {Q:Frame→List Frame→World→Prop} {fr:Frame} {xs:List Frame} {w:World} (h:Q fr xs w):GX cs Q fr xs w:=by letI:Scope:=scopeM;exact GetsX.done h
noncomputable def alRest:Code:=match Tryz.f4.body with | some (.seq _ (.seq _ (.seq _ (.seq _ (.seq _ (.seq _ r))))))=>r | _=>.skip
noncomputable def alL:Code:=match alRest with | .seq (.seq _ (.block _ (.loop c))) _=>c | _=>.skip
noncomputable def alEnd:Code:=match alRest with | .seq _ c=>c | _=>.skip
noncomputable def alK:List Item:=[.inLoop alL, .inBlock 0, .code alEnd]
structure AF (a:Act) (tv:Value) (h:Int) (sp:Nat) (now spoke i:Int):Prop where
 d:a.defers=[]
 z:a.tmps.size=95
 f1:a.tmps[1]? = some tv
 f5:a.tmps[5]? = some (.int .i64 h)
 f6:a.tmps[6]? = some (.pointer (some ⟨sp,0,none⟩))
 f7:a.tmps[7]? = some (.int .i64 now)
 f8:a.tmps[8]? = some (.int .i64 spoke)
 f9:a.tmps[9]? = some (.int .i64 i)
theorem pickN_lt {c n:Int} (hn:0 < n):0≤pickN c n∧pickN c n < n:=by
 unfold pickN
 split
 ·exact ⟨Int.emod_nonneg _ (by omega),Int.emod_lt_of_pos _ hn⟩
 ·exact ⟨Int.emod_nonneg _ (by omega),Int.emod_lt_of_pos _ hn⟩
theorem al_to {Q:Frame→List Frame→World→Prop} {w:World} {hold:Int} (hh:-9223372036854775808≤hold∧hold≤9223372036854775807) {tv:Value}
  (hk:∀ (a:Act) (w':World) (h:Int) (sp xb xc:Nat) (Z:List Value) (p:Pz) (pa:Option Addr) (pl pc:Nat),3≤h→h≤60002→AF a tv h sp 0 0 0→Stnd w' sp xb xc Z 0 65000 200 p 3 h 0 0 pa pl pc →
   GX [] Q ((base 4).at a (.code alL::alK)) [] w') :
  GX [] Q ((base 4).at { tmps:=#[.int .i64 hold,tv]++Array.replicate 93 undef,defers:=[] } [.code (Tryz.f4.body.getD .skip)]) [] w:=by
 have HK:Hid (_):=hk
 clear hk
 (have g_v:=valTo_ok;have g_s:=skpTo_ok;have g_e:=entTo_ok;have g_c:=cell_again;have g_f:=frozen_again;have g_h:=heap_again)
 simp only [Tryz.f4,Option.getD_some]
 walk_nrm
 refine GX.seq ?_
 ((refine GX.region ?_);walk_nrm)
 ((refine GX.v rfl rfl (by kernel_rfl) (fun T K hK=>?_));unfold execOp;go_simp;(refine hK _ _ ?_);clear hK K;(refine GX.like (v:=w) ?_ rfl rfl);clear T;walk_nrm)
 refine GX.regionEnd ?_
 refine GX.seq ?_
 ((refine GX.region ?_);walk_nrm)
 ((refine GX.v rfl rfl (by kernel_rfl) (fun T K hK=>?_));unfold execOp;go_simp;(refine hK _ _ ?_);clear hK K;(refine GX.like (v:=w) ?_ rfl rfl);clear T;walk_nrm)
 refine GX.c rfl rfl (by kernel_rfl) (fun T K hK=>?_)
 unfold execOp
 go_simp
 refine hK _ _ _ (fun T'=>?_)
 clear hK K
 refine Calls.mono (pick_any hold 60000 hh (by decide) _) ?_
 rintro e w' ⟨rfl,rfl⟩
 refine ⟨_,rfl,GX.like (v:=w) ?_ rfl rfl⟩
 clear T'
 obtain ⟨p1,p2⟩:=pickN_lt (c:=hold) (n:=60000) (by decide)
 generalize pickN hold 60000=pk at p1 p2 ⊢
 have kw:IntKind.i64.wrap (3+pk)=3+pk:=by rw [IntKind.wrap_i64];omega
 walk_nrm
 iterate 2 ((refine GX.v rfl rfl (by kernel_rfl) (fun T K hK=>?_));unfold execOp;go_simp;(refine hK _ _ ?_);clear hK K;(refine GX.like (v:=w) ?_ rfl rfl);clear T;walk_nrm)
 refine GX.regionEnd ?_
 refine GX.seq ?_
 ((refine GX.region ?_);walk_nrm)
 ((refine GX.v rfl rfl (by kernel_rfl) (fun T K hK=>?_));unfold execOp;go_simp;(refine hK _ _ ?_);clear hK K;(refine GX.like (v:=w) ?_ rfl rfl);clear T;walk_nrm)
 refine GX.callMet (v0:=.int .i64 1) (v1:=.int .i64 (3+pk)) (v2:=.int .i64 0) (v3:=.int .i64 0) rfl rfl rfl (by kernel_rfl) rfl rfl rfl rfl ?_
 refine met_gx rfl (hd:=3+pk) (by omega) (by omega) (fun w2 sp xb xc Z p pa pl pc hS=>?_)
 have HS:Hid (Stnd w2 sp xb xc Z 0 65000 200 p 3 (3+pk) 0 0 pa pl pc):=hS
 clear hS
 rw [fin_at rfl]
 walk_nrm
 ((refine GX.v rfl rfl (by kernel_rfl) (fun T K hK=>?_));unfold execOp;go_simp;(refine hK _ _ ?_);clear hK K;(refine GX.like (v:=w2) ?_ rfl rfl);clear T;walk_nrm)
 refine GX.regionEnd ?_
 refine GX.seq ?_
 refine GX.seq ?_
 ((refine GX.region ?_);walk_nrm)
 iterate 2 ((refine GX.v rfl rfl (by kernel_rfl) (fun T K hK=>?_));unfold execOp;go_simp;(refine hK _ _ ?_);clear hK K;(refine GX.like (v:=w2) ?_ rfl rfl);clear T;walk_nrm)
 refine GX.regionEnd ?_
 refine GX.cond (t:=false) (by kernel_rfl) rfl ?_
 simp only [Bool.false_eq_true,if_false]
 refine GX.skipCode ?_
 refine GX.seq ?_
 ((refine GX.region ?_);walk_nrm)
 ((refine GX.v rfl rfl (by kernel_rfl) (fun T K hK=>?_));unfold execOp;go_simp;(refine hK _ _ ?_);clear hK K;(refine GX.like (v:=w2) ?_ rfl rfl);clear T;walk_nrm)
 refine GX.regionEnd ?_
 refine GX.seq ?_
 ((refine GX.region ?_);walk_nrm)
 ((refine GX.v rfl rfl (by kernel_rfl) (fun T K hK=>?_));unfold execOp;go_simp;(refine hK _ _ ?_);clear hK K;(refine GX.like (v:=w2) ?_ rfl rfl);clear T;walk_nrm)
 refine GX.regionEnd ?_
 refine GX.seq ?_
 refine GX.seq ?_
 ((refine GX.region ?_);walk_nrm)
 ((refine GX.v rfl rfl (by kernel_rfl) (fun T K hK=>?_));unfold execOp;go_simp;(refine hK _ _ ?_);clear hK K;(refine GX.like (v:=w2) ?_ rfl rfl);clear T;walk_nrm)
 refine GX.regionEnd ?_
 refine GX.block ?_
 refine GX.loop ?_
 have hfin:=HK.out
 unfold alK alL alEnd at hfin
 unfold alRest at hfin
 simp only [Tryz.f4] at hfin
 exact hfin _ w2 (3+pk) sp xb xc Z p pa pl pc (by omega) (by omega) ⟨rfl,rfl,rfl,rfl,rfl,rfl,rfl,rfl⟩ HS.out
end Go.Proofs.YtjnkcibpkkjniaaGreat.Pool
namespace Go.Proofs.YtjnkcibpkkjniaaGreat.Pool
open Go Go.Conc Go.RowKit Go.Proofs.YtjnkcibpkkjniaaGreat.Sim
noncomputable def alB:Code:=match alL with | .seq _ (.seq (.block _ (.seq _ (.seq _ (.seq _ (.seq _ r))))) _)=>r | _=>.skip
noncomputable def alStep:Code:=match alL with | .seq _ (.seq _ c)=>c | _=>.skip
noncomputable def alT:Code:=match alB with | .seq _ c=>c | _=>.skip
structure AG (a:Act) (t:Int) (want:ByteArray) (over:Bool):Prop where
 f10:a.tmps[10]? = some (.int .i64 t)
 f11:a.tmps[11]? = some (.string want)
 f12:a.tmps[12]? = some (.bool over)
noncomputable def alJ:Code:=match alT with | .seq _ (.seq _ c)=>c | _=>.skip
end Go.Proofs.YtjnkcibpkkjniaaGreat.Pool
