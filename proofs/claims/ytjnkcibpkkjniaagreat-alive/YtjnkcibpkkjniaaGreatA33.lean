import Derived.Test.YtjnkcibpkkjniaaGreatA32
import Derived.Test.YtjnkcibpkkjniaaGreatA25
set_option linter.unusedVariables false
set_option linter.unusedSimpArgs false
set_option linter.unusedSectionVars false
namespace Go.Proofs.YtjnkcibpkkjniaaGreat.Pool
open Go Go.Conc Go.RowKit Go.Proofs.YtjnkcibpkkjniaaGreat.Sim
set_option maxRecDepth 20000
set_option maxHeartbeats 2000000
noncomputable def mtLoop:Code:=match mtRest with | .seq _ (.seq _ (.seq (.seq _ (.block _ (.loop c))) _))=>c | _=>.skip
noncomputable def mtEnd:Code:=match mtRest with | .seq _ (.seq _ (.seq _ r))=>r | _=>.skip
theorem met_turn {cs:List Frame} {Q:Frame→List Frame→World→Prop} {xs:List Frame} {w:World} {hd:Int} {a:Act} {sp xb xc:Nat} {Z:List Value} {p:Pz} {jb jc:Nat} (h1:3≤hd) (h2:hd≤65535)
  (hd0:a.defers=[]) (hsz:a.tmps.size=83) (f0:a.tmps[0]? = some (.int .i64 1)) (f1:a.tmps[1]? = some (.int .i64 hd)) (f9:a.tmps[9]? = some (.pointer (some ⟨sp,0,none⟩))) (f11:a.tmps[11]? = some (.slice (some ⟨jb,0,none⟩) 2 jc)) (hS:Stnd w sp xb xc Z 0 65000 200 p 0 0 0 0 none 0 0) (hpa:p.au=100) (hph:p.hold=hd) (hjb:jb < w.heap.size) (hjs:jb≠sp) (i0:InAt w jb 0 0 1 []) (i1:InAt w jb (0+3) 0 2 (opnD hd))
  (hk:∀ (a:Act) (w':World) Z' p' pa' pl' pc' nb nc,a.defers=[]→a.tmps.size=83→a.tmps[0]? = some (.int .i64 1)→a.tmps[1]? = some (.int .i64 hd)→a.tmps[9]? = some (.pointer (some ⟨sp,0,none⟩))→a.tmps[13]? = some (.slice (some ⟨nb,0,none⟩) 1 nc)→a.tmps[14]? = some (.int .i64 0)→w'.cell? ⟨nb,0,none⟩=some (.int .i64 0)→w'.cell? ⟨nb,1,none⟩=some (.string (strOfNums (ansD hd)))→w'.cell? ⟨nb,2,none⟩=some (.bool false)→Stnd w' sp xb xc Z' 0 65000 200 p' 3 hd 0 0 pa' pl' pc'→p'.hold=hd→(∀ x∈xs,∀ (j:Nat) v b,x.tmps[j]? = some v→isMk v=false→Nm v b→b < w.heap.size→b≠sp→b≠xb→¬ Named3 p none b→w'.heap[b]? = w.heap[b]?∧¬ Named3 p' pa' b) →
   GX cs Q ((base 14).at a [.code mtLoop, .inLoop mtLoop, .inBlock 2, .code mtEnd]) xs w') :
  GX cs Q ((base 14).at a [.code mtRest]) xs w:=by
 have HK:Hid (_):=hk
 have HS:Hid (_):=hS
 have HI:Hid (p.au=100∧p.hold=hd∧jb < w.heap.size∧jb≠sp):=⟨hpa,hph,hjb,hjs⟩
 have HI0:Hid (InAt w jb 0 0 1 []):=i0
 have HI1:Hid (InAt w jb (0+3) 0 2 (opnD hd)):=i1
 clear hk hS hpa hph hjb hjs i0 i1
 obtain ⟨tm,df⟩:=a
 simp only at hd0 hsz f0 f1 f9 f11
 subst hd0
 obtain ⟨k0,k1,k2,k3,k4,k5,k6,k7,k8,k9,k10,k11,k12,k13,k14,k15,k16,k17,k18,k19,k20,k21,k22,k23,k24,k25,k26,k27,k28,k29,k30,k31,k32,k33,k34,k35,k36,k37,k38,k39,k40,k41,k42,k43,k44,k45,k46,k47,k48,k49,k50,k51,k52,k53,k54,k55,k56,k57,k58,k59,k60,k61,k62,k63,k64,k65,k66,k67,k68,k69,k70,k71,k72,k73,k74,k75,k76,k77,k78,k79,k80,k81,k82,rfl⟩:=arr83 hsz
 simp only [List.getElem?_toArray,List.getElem?_cons_succ,List.getElem?_cons_zero,Option.some.injEq] at f0 f1 f9 f11
 subst f0 f1 f9 f11
 clear hsz
 (have g_v:=valTo_ok;have g_s:=skpTo_ok;have g_e:=entTo_ok;have g_c:=cell_again;have g_f:=frozen_again;have g_h:=heap_again)
 have hfin:=HK.out
 clear HK
 have HF:Hid (_):=hfin
 clear hfin
 unfold mtRest
 simp only [Tryz.f14]
 refine GX.seq ?_
 ((refine GX.region ?_);walk_nrm)
 iterate 2 ((refine GX.v rfl rfl (by kernel_rfl) (fun T K hK=>?_));unfold execOp;go_simp;(refine hK _ _ ?_);clear hK K;(refine GX.like (v:=w) ?_ rfl rfl);clear T;walk_nrm)
 refine GX.callTurn rfl rfl rfl (by kernel_rfl) rfl rfl rfl ?_
 refine mt_both rfl h1 h2 HI.out.1 HI.out.2.1 HS.out HI.out.2.2.1 HI.out.2.2.2 HI0.out HI1.out (fun w2 outv Z' p' pa' pl' pc' q1 q2 q3 q4=>?_)
 rw [fin_at rfl]
 rcases q3 with ⟨e,_⟩ | ⟨hlen,nb,nc,rfl,o0,o1,o2⟩
 ·have:=ansD_len hd
  rw [e] at this
  exact absurd this (by decide)
 clear HS HI HI0 HI1
 have H1:Hid (_):=q1
 have H2:Hid (_):=q2
 have H4:Hid (_):=q4
 have HO:Hid (w2.cell? ⟨nb,0,none⟩=some (.int .i64 0)∧w2.cell? ⟨nb,1,none⟩=some (.string (strOfNums (ansD hd)))∧w2.cell? ⟨nb,2,none⟩=some (.bool false)):=⟨o0,o1,o2⟩
 clear q1 q2 q4 o0 o1 o2 hlen
 walk_nrm
 ((refine GX.v rfl rfl (by kernel_rfl) (fun T K hK=>?_));unfold execOp;go_simp;(refine hK _ _ ?_);clear hK K;(refine GX.like (v:=w2) ?_ rfl rfl);clear T;walk_nrm)
 refine GX.regionEnd ?_
 refine GX.seq ?_
 refine GX.seq ?_
 ((refine GX.region ?_);walk_nrm)
 iterate 4 ((refine GX.v rfl rfl (by kernel_rfl) (fun T K hK=>?_));unfold execOp;go_simp;(refine hK _ _ ?_);clear hK K;(refine GX.like (v:=w2) ?_ rfl rfl);clear T;walk_nrm)
 refine GX.regionEnd ?_
 refine GX.cond (t:=false) (by kernel_rfl) rfl ?_
 simp only [Bool.false_eq_true,if_false]
 refine GX.skipCode ?_
 refine GX.seq ?_
 refine GX.seq ?_
 ((refine GX.region ?_);walk_nrm)
 ((refine GX.v rfl rfl (by kernel_rfl) (fun T K hK=>?_));unfold execOp;go_simp;(refine hK _ _ ?_);clear hK K;(refine GX.like (v:=w2) ?_ rfl rfl);clear T;walk_nrm)
 refine GX.regionEnd ?_
 refine GX.block ?_
 refine GX.loop ?_
 have hfin:=HF.out
 unfold mtLoop mtEnd mtRest at hfin
 simp only [Tryz.f14] at hfin
 exact hfin _ w2 Z' p' pa' pl' pc' nb nc rfl rfl rfl rfl rfl rfl rfl HO.out.1 HO.out.2.1 HO.out.2.2 H1.out H2.out (fun x hx=>H4.out x (List.mem_cons_of_mem _ hx))
end Go.Proofs.YtjnkcibpkkjniaaGreat.Pool
namespace Go.Proofs.YtjnkcibpkkjniaaGreat.Pool
open Go Go.Conc Go.RowKit Go.Proofs.YtjnkcibpkkjniaaGreat.Sim
set_option maxRecDepth 20000
set_option maxHeartbeats 2000000
theorem below_put {w w1 w':World} (hB:Below w1.heap.size w1 w') (e:w1.heap=w.heap:=by rfl):Below w.heap.size w { w with heap:=w'.heap }:=⟨rfl,rfl,rfl,by rw [←e];exact hB.size,fun k hk=>by rw [←e] at hk ⊢;exact hB.block k hk⟩
noncomputable def mtOps:Array Oper:=match mtLoop with | .seq _ (.seq (.block _ (.seq _ (.seq (.region _ ops _) _))) _)=>ops | _=>#[]
def mtV (nb nc:Nat) (hd:Int):Nat→Value→World→Prop
 | 0,v,_=>v=.slice (some ⟨nb,0,none⟩) 1 nc
 | 1,v,_=>v=.int .i64 0
 | 2,v,_=>v=.pointer (some ⟨nb,0,none⟩)
 | 3,v,_=>v=.agg #[.int .i64 0, .string (strOfNums (ansD hd)), .bool false]
 | 4,v,_=>v=.int .i64 0
 | 5,v,_=>v=.int .i64 hd
 | 6,v,_=>v=.string (strOfNums (msgL 1 (openL 65000 hd [0,0,0,IntKind.u8.wrap 200,0])))
 | 7,v,_=>v=.string (strOfNums (msgL 4 []))
 | 8,v,_=>v=.string (strOfNums (ansD hd))
 | 9,v,_=>v=.agg #[.int .i64 0, .string (strOfNums (ansD hd)), .bool false]
 | 10,v,_=>v=.bool false
 | 11,v,_=>v=.bool false
 | 12,v,_=>v=.int .i64 3
 | 13,v,_=>v=.bool false
 | _,_,_=>True
theorem mtV_mono {nb nc:Nat} {hd:Int} (w w':World) (i:Nat) (u:Value) (hB:Below w.heap.size w w') (h:mtV nb nc hd i u w):mtV nb nc hd i u w':=by
 unfold mtV at h ⊢
 split at h <;> exact h
theorem mt_ok:okOps (strip mtOps) [0,1,9,13,14,15] 83=true:=by kernel_rfl
theorem mt_top:topB (strip mtOps)=true:=by kernel_rfl
theorem mt_size:mtOps.size=15:=by kernel_rfl
theorem mt_dst:(mtOps[11]?).bind (·.dst)=some 78:=by kernel_rfl
theorem mt_hop {cs:List Frame} {Q:Frame→List Frame→World→Prop} {b:Frame} {k:List Item} {xs:List Frame} {nb nc:Nat} {hd:Int} {w0:World} (hnb:nb < w0.heap.size) (c0:w0.cell? ⟨nb,0,none⟩=some (.int .i64 0)) (c1:w0.cell? ⟨nb,1,none⟩=some (.string (strOfNums (ansD hd)))) (c2:w0.cell? ⟨nb,2,none⟩=some (.bool false))
  (i:Nat) (o:Oper) (a:Act) (w:World) (l:List Nat) (hi:i < 14) (ho:mtOps[i]? = some o) (f1:a.tmps[1]? = some (.int .i64 hd)) (f13:a.tmps[13]? = some (.slice (some ⟨nb,0,none⟩) 1 nc)) (f14:a.tmps[14]? = some (.int .i64 0)) (f15:a.tmps[15]? = some (.int .i64 3))
  (hdep:∀ (j:Nat) (o':Oper) (d:Nat),mtOps[j]? = some o'→o'.dst=some d→(∃ e∈o.after,e.on=j∧Region.binds .any e=true)→∃ v,a.tmps[d]? = some v∧mtV nb nc hd j v w) (hs:Below w0.heap.size w0 w)
  (hK:∀ v w',mtV nb nc hd i v w'→Below w.heap.size w w'→GX cs Q (b.at (a.put o.dst v) (.inRegion mtOps l::k)) xs w'):GX cs Q (b.at a (.inRegion mtOps (i::l)::k)) xs w:=by
 have HO:=ho
 have e0:=(hs.cell (p:=⟨nb,0,none⟩) hnb).trans c0
 have e1:=(hs.cell (p:=⟨nb,1,none⟩) hnb).trans c1
 have e2:=(hs.cell (p:=⟨nb,2,none⟩) hnb).trans c2
 have e11:=mt_dst
 have g_v:=valTo_ok
 have g_e:=entTo_ok
 have g_c:=cell_again
 have g_f:=frozen_again
 have g_h:=heap_again
 have ks:=S_append
 have ka:=ansD_eq hd
 clear c0 c1 c2
 obtain rfl | rfl | rfl | rfl | rfl | rfl | rfl | rfl | rfl | rfl | rfl | rfl | rfl | rfl:i=0∨i=1∨i=2∨i=3∨i=4∨i=5∨i=6∨i=7∨i=8∨i=9∨i=10∨i=11∨i=12∨i=13:=by omega
 all_goals
  simp only [mtOps,mtLoop,mtRest,Tryz.f14] at ho
  simp at ho
  subst ho
 ·refine GX.v HO rfl (by kernel_rfl) (fun T K hK'=>?_)
  unfold execOp
  simp only [Act.eval,Array.getD_eq_getD_getElem?,f13,Option.getD_some]
  go_simp
  exact hK' _ _ (GX.like (hK _ _ rfl (Below.refl _ _)) rfl rfl)
 ·refine GX.v HO rfl (by kernel_rfl) (fun T K hK'=>?_)
  unfold execOp
  simp only [Act.eval,Array.getD_eq_getD_getElem?,f14,Option.getD_some]
  go_simp
  exact hK' _ _ (GX.like (hK _ _ rfl (Below.refl _ _)) rfl rfl)
 ·obtain ⟨u0,h0,p0⟩:=hdep 0 _ _ rfl rfl ⟨⟨0, .data⟩,by simp,rfl,rfl⟩
  simp only [mtV] at p0
  try subst p0
  obtain ⟨u1,h1,p1⟩:=hdep 1 _ _ rfl rfl ⟨⟨1, .data⟩,by simp,rfl,rfl⟩
  simp only [mtV] at p1
  try subst p1
  refine GX.v HO rfl (by kernel_rfl) (fun T K hK'=>?_)
  unfold execOp
  simp only [Act.eval,Array.getD_eq_getD_getElem?,h0,h1,Option.getD_some]
  go_simp
  exact hK' _ _ (GX.like (hK _ _ rfl (Below.refl _ _)) rfl rfl)
 ·obtain ⟨u0,h0,p0⟩:=hdep 2 _ _ rfl rfl ⟨⟨2, .data⟩,by simp,rfl,rfl⟩
  simp only [mtV] at p0
  try subst p0
  refine GX.v HO rfl (by kernel_rfl) (fun T K hK'=>?_)
  unfold execOp
  simp only [Act.eval,Array.getD_eq_getD_getElem?,h0,Option.getD_some]
  go_simp
  exact hK' _ _ (GX.like (hK _ _ rfl (Below.refl _ _)) rfl rfl)
 ·refine GX.v HO rfl (by kernel_rfl) (fun T K hK'=>?_)
  unfold execOp
  simp only [Act.eval,Array.getD_eq_getD_getElem?,f14,Option.getD_some]
  go_simp
  exact hK' _ _ (GX.like (hK _ _ rfl (Below.refl _ _)) rfl rfl)
 ·refine GX.v HO rfl (by kernel_rfl) (fun T K hK'=>?_)
  unfold execOp
  simp only [Act.eval,Array.getD_eq_getD_getElem?,f1,Option.getD_some]
  go_simp
  exact hK' _ _ (GX.like (hK _ _ rfl (Below.refl _ _)) rfl rfl)
 ·obtain ⟨u0,h0,p0⟩:=hdep 5 _ _ rfl rfl ⟨⟨5, .data⟩,by simp,rfl,rfl⟩
  simp only [mtV] at p0
  try subst p0
  refine GX.c HO rfl (by kernel_rfl) (fun T K hK'=>?_)
  unfold execOp
  simp only [Act.eval,Array.getD_eq_getD_getElem?,h0,Option.getD_some]
  go_simp
  refine hK' _ _ _ (fun T'=>Calls.mono (kopen_any 65000 hd 200 _) ?_)
  rintro e w' ⟨rfl,hB⟩
  exact ⟨_,rfl,GX.like (hK _ _ rfl (below_put hB)) rfl hB.os.symm⟩
 ·refine GX.c HO rfl (by kernel_rfl) (fun T K hK'=>?_)
  unfold execOp
  go_simp
  refine hK' _ _ _ (fun T'=>Calls.mono (kalive_any _) ?_)
  rintro e w' ⟨rfl,hB⟩
  exact ⟨_,rfl,GX.like (hK _ _ rfl (below_put hB)) rfl hB.os.symm⟩
 ·obtain ⟨u0,h0,p0⟩:=hdep 6 _ _ rfl rfl ⟨⟨6, .data⟩,by simp,rfl,rfl⟩
  simp only [mtV] at p0
  try subst p0
  obtain ⟨u1,h1,p1⟩:=hdep 7 _ _ rfl rfl ⟨⟨7, .data⟩,by simp,rfl,rfl⟩
  simp only [mtV] at p1
  try subst p1
  refine GX.v HO rfl (by kernel_rfl) (fun T K hK'=>?_)
  unfold execOp
  simp only [Act.eval,Array.getD_eq_getD_getElem?,h0,h1,Option.getD_some]
  go_simp
  exact hK' _ _ (GX.like (hK _ _ rfl (Below.refl _ _)) rfl rfl)
 ·obtain ⟨u0,h0,p0⟩:=hdep 4 _ _ rfl rfl ⟨⟨4, .data⟩,by simp,rfl,rfl⟩
  simp only [mtV] at p0
  try subst p0
  obtain ⟨u1,h1,p1⟩:=hdep 8 _ _ rfl rfl ⟨⟨8, .data⟩,by simp,rfl,rfl⟩
  simp only [mtV] at p1
  try subst p1
  refine GX.v HO rfl (by kernel_rfl) (fun T K hK'=>?_)
  unfold execOp
  simp only [Act.eval,Array.getD_eq_getD_getElem?,h0,h1,Option.getD_some]
  go_simp
  exact hK' _ _ (GX.like (hK _ _ rfl (Below.refl _ _)) rfl rfl)
 ·obtain ⟨u0,h0,p0⟩:=hdep 3 _ _ rfl rfl ⟨⟨3, .data⟩,by simp,rfl,rfl⟩
  simp only [mtV] at p0
  try subst p0
  obtain ⟨u1,h1,p1⟩:=hdep 9 _ _ rfl rfl ⟨⟨9, .data⟩,by simp,rfl,rfl⟩
  simp only [mtV] at p1
  try subst p1
  refine GX.v HO rfl (by kernel_rfl) (fun T K hK'=>?_)
  unfold execOp
  simp only [Act.eval,Array.getD_eq_getD_getElem?,h0,h1,Option.getD_some]
  go_simp
  exact hK' _ _ (GX.like (hK _ _ rfl (Below.refl _ _)) rfl rfl)
 ·obtain ⟨u0,h0,p0⟩:=hdep 10 _ _ rfl rfl ⟨⟨10, .data⟩,by simp,rfl,rfl⟩
  simp only [mtV] at p0
  try subst p0
  refine GX.v HO rfl (by kernel_rfl) (fun T K hK'=>?_)
  unfold execOp
  simp only [Act.eval,Array.getD_eq_getD_getElem?,h0,Option.getD_some]
  go_simp
  exact hK' _ _ (GX.like (hK _ _ rfl (Below.refl _ _)) rfl rfl)
 ·obtain ⟨ug,hg,pg⟩:=hdep 11 _ _ rfl rfl ⟨⟨11, .guard⟩,by simp,rfl,rfl⟩
  simp only [mtV] at pg
  subst pg
  refine GX.v HO (by simp [Region.wanted,yielded,e11,hg]) (by kernel_rfl) (fun T K hK'=>?_)
  unfold execOp
  simp only [Act.eval,Array.getD_eq_getD_getElem?,f15,Option.getD_some]
  go_simp
  exact hK' _ _ (GX.like (hK _ _ rfl (Below.refl _ _)) rfl rfl)
 ·obtain ⟨ug,hg,pg⟩:=hdep 11 _ _ rfl rfl ⟨⟨11, .guard⟩,by simp,rfl,rfl⟩
  simp only [mtV] at pg
  subst pg
  obtain ⟨u0,h0,p0⟩:=hdep 12 _ _ rfl rfl ⟨⟨12, .data⟩,by simp,rfl,rfl⟩
  simp only [mtV] at p0
  try subst p0
  refine GX.v HO (by simp [Region.wanted,yielded,e11,hg]) (by kernel_rfl) (fun T K hK'=>?_)
  unfold execOp
  simp only [Act.eval,Array.getD_eq_getD_getElem?,h0,Option.getD_some]
  go_simp
  exact hK' _ _ (GX.like (hK _ _ rfl (Below.refl _ _)) rfl rfl)
theorem mt_last {cs:List Frame} {Q:Frame→List Frame→World→Prop} {b:Frame} {k:List Item} {xs:List Frame} {nb nc:Nat} {hd:Int} {w0:World} (o:Oper) (a:Act) (w:World) (l:List Nat) (ho:mtOps[14]? = some o)
  (hdep:∀ (j:Nat) (o':Oper) (d:Nat),mtOps[j]? = some o'→o'.dst=some d→(∃ e∈o.after,e.on=j∧Region.binds .any e=true)→∃ v,a.tmps[d]? = some v∧mtV nb nc hd j v w) (hs:Below w0.heap.size w0 w) (hsz:a.tmps.size=83)
  (hK:∀ v w',((a.put o.dst v).tmps[81]? = some (.bool false)∧Below w0.heap.size w0 w')→GX cs Q (b.at (a.put o.dst v) (.inRegion mtOps l::k)) xs w'):GX cs Q (b.at a (.inRegion mtOps (14::l)::k)) xs w:=by
 have HO:=ho
 have HZ:Hid (a.tmps.size=83):=hsz
 clear hsz
 have g_v:=valTo_ok
 have g_c:=cell_again
 have g_f:=frozen_again
 have g_h:=heap_again
 simp only [mtOps,mtLoop,mtRest,Tryz.f14] at ho
 simp at ho
 subst ho
 obtain ⟨u0,h0,p0⟩:=hdep 11 _ _ rfl rfl ⟨⟨11, .data⟩,by simp,rfl,rfl⟩
 simp only [mtV] at p0
 try subst p0
 obtain ⟨u1,h1,p1⟩:=hdep 13 _ _ rfl rfl ⟨⟨13, .data⟩,by simp,rfl,rfl⟩
 simp only [mtV] at p1
 try subst p1
 refine GX.v HO rfl (by kernel_rfl) (fun T K hK'=>?_)
 unfold execOp
 simp only [Act.eval,Array.getD_eq_getD_getElem?,h0,h1,Option.getD_some]
 go_simp
 refine hK' _ _ (GX.like (hK (.bool false) _ ⟨?_,hs⟩) rfl rfl)
 simp [Act.put,HZ.out]
end Go.Proofs.YtjnkcibpkkjniaaGreat.Pool
