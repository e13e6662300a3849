import Derived.Test.YtjnkcibpkkjniaaGreatA00
import Derived.Test.YtjnkcibpkkjniaaGreatA11
set_option linter.all false
set_option maxHeartbeats 4000000
set_option maxRecDepth 100000
namespace Go.Proofs.YtjnkcibpkkjniaaGreat.kj
section
open Go.Conc Go.ConcN Go.Proofs.YtjnkcibpkkjniaaGreat.j7
open Go.ConcR (KK wgBlock WgAt stA smA rd wr DC0)
section
variable {P:Program} {m0:Machine} {t0:Trace} {Shun:Loc→Prop}
theorem Kp{n:Nat}{gs:Array Goroutine}{w:World}{sl:Option (Nat×Nat)}{t:Trace}{q:Nat→Nat}{g:Goroutine}(h:Beside P m0 t0 Shun n gs w sl t q g)(H:g.status=.running):∃d j0,(∃gs' t' q',Beside P m0 t0 Shun (n+1) gs' (w.at d) j0 t' q' g∧gs'.size=gs.size∧sumTo gs.size q'<sumTo gs.size q) ∨
   stepT P (crowd gs w sl)=runT P (crowd gs (w.at d) j0) 0:=by
 have I:∀x∈gs,awake x:=by
  intro x hx;obtain⟨i,O,rfl⟩:=eQ.1 hx;rcases eT i with rfl|b
  ·have:gs[0]=g:=by simpa[dq O]using h.main
   rw[this];exact eU (.inl H)
  ·exact eU ((h.leave.old i _ b (dq O)).status.elim .inl fun x=>.inr (.inr x))
 obtain⟨i,x,d,j0,hx,f,u⟩:=crowd_pick (P:=P) (w:=w) (sl:=sl) I ⟨0,g,h.main,H⟩;refine⟨d,j0,?_⟩;rcases eT i with rfl|b
 ·exact .inr u
 ·refine .inl ?_;have F:=h.leave.old i x b hx;have A:i<gs.size:=(dp.1 hx).1;have J:(i == 0)=false:=by simp;omega
  cases m:q i with
  |zero=>rw[m]at F;rw[F.1]at f;cases f
  |succ k =>
   rw[m]at F;rcases F with⟨S,_⟩|⟨_,g',es,hm,C,K⟩
   ·rw[S]at f;cases f
   have D:=eZ (P:=P) (sl:=j0) (i:=i) hx (by rw[J];exact C (w.at d));have R:sumTo gs.size (upd q i k)+(k+1)=sumTo gs.size q+k:=by
    have:=fb q k id A;simpa[m]using this
   refine⟨_,_,upd q i k,⟨oh h.run (u.trans D),?_,⟨fun j z L G=>?_,fun j L=>?_⟩,h.past.mute (show i≠0 by omega) hm⟩,by simp,by omega⟩
   ·rw[dI (show i≠0 by omega),dQ,h.main];simp[fe H]
   ·by_cases l:i=j
    ·subst l;rw[ff (by simpa using A)]at G;obtain rfl:=eX G;rw[fg,fh];exact K
    ·rw[dI l,dQ]at G;obtain⟨y,T,rfl⟩:=eg.1 G;have E:=h.leave.old j y L T;rw[eM E,fi q k (dE l),eN t l _ (fun op s=>by obtain⟨e,_,rfl⟩:=eP s;rfl)];exact E
   ·have M:gs.size≤j:=by simpa using L
    rw[eN t (g':=i) (show i≠j by omega) _ (fun op s=>by obtain⟨e,_,rfl⟩:=eP s;rfl)];exact h.leave.above j M
def Any:MemAct→Prop:=fun _=>True
theorem Clean.any(t:Trace):Clean Any t:=fun _ _=>trivial
theorem j8.recv{Q:Goroutine→World→Prop}{g e:Goroutine}{w:World}{c cap s r:Nat}{buf:Array Value}{closed M h:Bool}{z:Value}{sh:CommShape}(hg:g.status=.running)(m:∀d,stepG P true g (w.at d)=.comm e #[rcase c z] h sh (w.at d) #[])(hc:w.heap[c]?=some (.chan cap buf closed s r M))(y:0<buf.size)(k:∀d,j8 P Any Shun Q (e.finishComm P #[rcase c z] sh 0 (buf.getD 0 undef) true) ((w.at d).setChan c cap (buf.extract 1 buf.size) closed s (r+1) M)):j8 P Any Shun Q g w:=by
 intro gs sl t q D A E _
 suffices key:∀(O:Nat)(d0:Nat)(gs:Array Goroutine)(sl:Option (Nat×Nat)) (t:Trace) (q:Nat→Nat),sumTo gs.size q=O→gs[0]?=some g→Leavers P t gs q→Past Shun w.heap.size t →
   ∃N gs' g' w' j0 t' q',runNT P N (crowd gs (w.at d0) sl) t=(.next (crowd gs' w' j0),t')∧gs'.size=gs.size∧gs'[0]?=some g'∧Leavers P t' gs' q'∧Past Shun w'.heap.size t'∧Q g' w' by
  obtain⟨N,gs',g',w',j0,t',q',r1,r2,F,S,T,U⟩:=key _ w.drawn gs sl t q rfl D A E;exact⟨N,gs',g',w',j0,t',q',r1,r2,F,S,T,Clean.any _,U⟩
 clear D A E;intro O
 induction O using Nat.strongRecOn with
 |_ O ih =>
  intro d0 gs sl t q X D A E;have hb:Beside P (crowd gs (w.at d0) sl) t Shun 0 gs (w.at d0) sl t q g:=⟨rfl,D,A,E⟩;obtain⟨d,j0,⟨G,t2,q2,l,H,Y⟩|I⟩:=Kp hb hg
  ·obtain⟨N,gs',g',w',C,t',q',r1,r2,F⟩:=ih (sumTo G.size q2) (by rw[H,←X];exact Y) d G j0 t2 q2 rfl l.main l.leave l.past;refine⟨1+N,gs',g',w',C,t',q',?_,r2.trans H,F⟩;rw[eL,show runNT P 1 (crowd gs (w.at d0) sl) t=_ from l.run];exact r1
  ·have J:0<gs.size:=(dp.1 D).1;have hp:partners (gs.setIfInBounds 0 ph) c true=[]:=partners_nil fun j x hx=>by
    rcases getElem?_stand gs 0 j x hx with⟨_,rfl⟩|⟨R,hx⟩
    ·exact offersAt_ph _ _
    ·exact gU (by
      rcases(A.old j x (by omega) hx).status with k|k<;>rw[k]<;>simp) _ _
   have hT:=crowd_recv_buf (P:=P) (sl:=j0) (i:=0) D (show stepG P (0 == 0) g (w.at d)=_ from m d) hc y hp;rw[show((w.at d0).at d)=w.at d from rfl]at I;generalize K:(MemOp.ofEvents 0 g.frame.fn g.frame.place #[]++#[({ g:=0,fn:=e.frame.fn,pos:=e.frame.place,act:=.recv c r cap }:MemOp),{ g:=0,fn:=e.frame.fn,pos:=e.frame.place,act:=.recvDone c r }])=u at hT;have hu:∀op∈u,op.g=0∧op.act.touch? = none∧(op.act≠.mark .disable∧op.act≠.mark .enable)∧op.act.low w.heap.size:=by
    intro op f;have L:c<w.heap.size:=(dp.1 hc).1;rw[←K]at f;have:op=({ g:=0,fn:=e.frame.fn,pos:=e.frame.place,act:=.recv c r cap }:MemOp)∨op={ g:=0,fn:=e.frame.fn,pos:=e.frame.place,act:=.recvDone c r }:=by simpa[gF]using f
    rcases this with rfl|rfl
    ·exact⟨rfl,rfl,⟨by simp,by simp⟩,L⟩
    ·exact⟨rfl,rfl,⟨by simp,by simp⟩,L⟩
   have Z:∀j,Deaf (t++u) j=Deaf t j:=fun j=>gO t j u fun op f=>(hu op f).2.2.1
   have hsz:((w.at d).setChan c cap (buf.extract 1 buf.size) closed s (r+1) M).heap.size=w.heap.size:=by simp[World.setChan,World.at]
   have aa:Past Shun w.heap.size (t++u):=E.app0 (fun op f=>(hu op f).1) (fun op f b hb=>by rw[(hu op f).2.1]at hb;cases hb) (Z 0) fun op f=>(hu op f).2.2.2
   have ab:Leavers P (t++u) (gs.setIfInBounds 0 (e.finishComm P #[rcase c z] sh 0 (buf.getD 0 undef) true)) q:=⟨fun j x R hx=>by
    rw[dI (by omega)]at hx;rw[Z];exact A.old j x R hx,fun j R=>by
    rw[Z];exact A.above j (by simpa using R)⟩
   obtain⟨N,gs',g',w',C,t',q',r1,r2,F,S,T,_,U⟩:=k d (gs.setIfInBounds 0 (e.finishComm P #[rcase c z] sh 0 (buf.getD 0 undef) true)) j0 (t++u) q (by rw[ff J]) ab (by rw[hsz];exact aa) (Clean.any _);refine⟨1+N,gs',g',w',C,t',q',?_,by rw[r2];simp,F,S,T,U⟩;have h1:runNT P 1 (crowd gs (w.at d0) sl) t=(.next (crowd (gs.setIfInBounds 0 (e.finishComm P #[rcase c z] sh 0 (buf.getD 0 undef) true)) ((w.at d).setChan c cap (buf.extract 1 buf.size) closed s (r+1) M) j0),t++u) :=
    oh (t:=t) (n:=0) rfl (I.trans hT)
   rw[eL,h1];exact r1
end
end
section
open Go.Conc Go.ConcN Go.Conc.Lib Go.ConcR.Gen Go.ConcN.Gen Go.Proofs.YtjnkcibpkkjniaaGreat.j7
open Go.ConcR (KK wgBlock WgAt stA smA rd wr mk DC0)
section
variable {P:Program} {Shun:Loc→Prop} {Q:Goroutine→World→Prop} {g:Goroutine} {w:World}
theorem j8.goes{ty:TypeId}{Wg:Nat}{V W:Nat→Prop}{Stop:Goroutine→World→Prop}(n:∀b,V b→∀l,kL b l→¬Shun l):∀{m:Nat}{g:Goroutine}{w:World},(∀b,V b→b<w.heap.size)→Goes P true (RK ty Wg V) (DM V W) Stop m g w →
  (∀g' w',Stop g' w'→w'.heap.size=w.heap.size→w'.os=w.os→(∀b,¬W b→w'.heap[b]?=w.heap[b]?)→j8 P Any Shun Q g' w')→j8 P Any Shun Q g w:=by
 intro m
 induction m with
 |zero=>intro g w _ h k;exact k g w (h w (RK.refl w)) rfl rfl fun _ _=>rfl
 |succ m q =>
  intro g w hB h k;rcases h with h|⟨f,h⟩
  ·exact k g w (h w (RK.refl w)) rfl rfl fun _ _=>rfl
  ·refine j8.step (fun _ _=>trivial) f fun d=>?_
   obtain⟨a',w',es,s,⟨d1,d2,d3,d4⟩,t⟩:=goes_elim (h (w.at d) (RK.at w d));have hsz:w'.heap.size=w.heap.size:=d2;refine⟨a',w',es,s,fun e he=>⟨?_,trivial⟩,Nat.le_of_eq hsz.symm,q (fun b hb=>by rw[hsz];exact hB b hb) t fun g2 w2 k1 k2 u y=>k g2 w2 k1 (k2.trans hsz) (u.trans d3) fun b hb=>(y b hb).trans (d1 b hb)⟩;obtain⟨ad,wr,rfl,j,_⟩:=d4 e he;refine⟨fun x hx f=>?_,by simp,by simp,?_⟩
   ·have:x.loc=.cell ad:=by cases wr<;>simp[MemAct.ofEvent,MemAct.touch?]at hx<;>(subst hx;rfl)
    rw[this]at f;exact absurd f (n _ j _ rfl)
   ·show ad.block<_;rw[hsz];exact hB _ j
theorem j8.made{g':Goroutine}{o:Obj}{B:Nat}(b:g.status=.running)(hB:nD B w.heap.size)(h:∀w₁:World,w₁.heap.size=w.heap.size→stepG P true g w₁=.go g' (w₁.alloc o) #[])(k:∀d,j8 P Any Shun Q g' ((w.at d).alloc o)):j8 P Any Shun Q g w :=
 j8.step (fun _ _=>trivial) b fun d=>⟨g',_,#[],h (w.at d) rfl,by simp,by show w.heap.size≤(w.heap.push o).size;simp,k d⟩
end
structure DF (V:Nat→Prop) (b:Nat) (o:Obj) (w:World):Prop where
 v:V b
 o:w.heap[b]?=some o
theorem DF.keep{V:Nat→Prop}{b:Nat}{o:Obj}{w w₁:World}(h:DF V b o w)(k:∀b,V b→w₁.heap[b]?=w.heap[b]?):DF V b o w₁:=⟨h.v,(k _ h.v).trans h.o⟩
noncomputable def rJ:Code:=match nE with
 | .block _ (.cond _ _ (.cond _ c _))=>c
 |_=>.skip
noncomputable def nK:Code:=match rJ with
 | .seq (.seq _ (.block _ (.loop c))) _=>c
 |_=>.skip
noncomputable def oW:Code:=match rJ with
 | .seq _ c=>c
 |_=>.skip
noncomputable def uq:Array Oper:=match rJ with
 | .seq (.seq (.region _ ops _) _) _=>ops
 |_=>#[]
noncomputable def qS:Array Oper:=match nK with
 | .seq _ (.seq _ (.seq (.block _ (.seq (.region _ ops _) _)) _))=>ops
 |_=>#[]
noncomputable def vh:Array Oper:=match nK with
 | .seq _ (.seq _ (.seq (.block _ (.seq _ (.region _ ops _))) _))=>ops
 |_=>#[]
noncomputable def vi:Code:=match nK with
 | .seq _ (.seq _ (.seq _ c))=>c
 |_=>.skip
noncomputable def nX:List Item:=[.inBlock 2,.inBlock 1,.inLoop mG,.inBlock 0]
noncomputable def pZ:List Item:=.inLoop nK::.inBlock 3::.code oW::nX
def GD (p:WI) (B:WB) (RB:Nat) (v8 v15 v18 v19 v20 v21 v22 v23 v24:Value) (v9 v25 v26 mH lp lK v30 kX kY kZ la lq lr ld:Value):Array Value :=
 #[.chan (some B.CB),.chan (some B.CF),.int .i64 p.xl,undef,undef,undef,.slice none 0 0,kx p RB,v8,v9,.int .i64 p.xl,kx p RB,.chan (some B.CB),.chan (some B.CF),.tuple #[.int .i64 1,.bool false,lG,nJ],.int .i64 1,.bool false,.bool true,v18,v19,v20,v21,v22,v23,v24,v25,v26,mH,lp,lK,v30,kX,kY,kZ,la,lq,lr,ld,undef]
section
variable {p:WI} {B:WB} {V W:Nat→Prop} {us:List Frame} {w:World} {RB:Nat} {o:Obj} {v8 v15 v16 v17 v18 v19 v20 v21 v22 v23 v24 v9 v25 v26 mH lp lK v30 kX kY kZ la lq lr ld:Value}
theorem Kq(hF:DF V RB o w):Goes Tryz.prog true (RK Tryz.link.tWg B.Wg V) (DM V W) (fun g w=>DF V RB o w∧g=G (mw.at ⟨GD p B RB v8 undef v18 v19 v20 v21 v22 v23 v24 undef (.chan (some B.CB)) undef undef undef undef undef undef undef undef undef undef undef undef,[]⟩ (.inRegion uq [1,2]::.code (.block 3 (.loop nK))::.code oW::nX)) us) 20
   (G (mw.at ⟨GT p B RB v8 (.chan (some B.CB)) (.chan (some B.CF)) (.tuple #[.int .i64 1,.bool false,lG,nJ]) v15 v16 v17 v18 v19 v20 v21 v22 v23 v24,[]⟩ [.inRegion qR [1,2,3],.code nE,.inBlock 1,.inLoop mG,.inBlock 0]) us) w:=by
 simp only[GT,GD,qR,nE,uq,nK,oW,rJ,nX,mG,oV,oU,Tryz.f63,ez]
 ((refine gp rfl (fun _ b=>?_);replace hF:=DF.keep hF (RK.keep b);clear b);refine gD rfl rfl (by decide) (fun K d=>?_);(try simp only[ptr,kx]);go_simp;refine d _ _ ⟨⟨fun _ _=>rfl,rfl,rfl,fun e he=>?_⟩,?_⟩;(focus(clear d;have hm:=gu he;simp[go_sem,ptr,kx, *]at hm));clear d K)
 ((refine gp rfl (fun _ b=>?_);replace hF:=DF.keep hF (RK.keep b);clear b);refine gD rfl rfl (by decide) (fun K d=>?_);(try simp only[ptr,kx]);go_simp;refine d _ _ ⟨⟨fun _ _=>rfl,rfl,rfl,fun e he=>?_⟩,?_⟩;(focus(clear d;have hm:=gu he;simp[go_sem,ptr,kx, *]at hm));clear d K)
 ((refine gp rfl (fun _ b=>?_);replace hF:=DF.keep hF (RK.keep b);clear b);refine gD rfl rfl (by decide) (fun K d=>?_);(try simp only[ptr,kx]);go_simp;refine d _ _ ⟨⟨fun _ _=>rfl,rfl,rfl,fun e he=>?_⟩,?_⟩;(focus(clear d;have hm:=gu he;simp[go_sem,ptr,kx, *]at hm));clear d K)
 ((refine gp rfl (fun _ b=>?_);replace hF:=DF.keep hF (RK.keep b);clear b);rw[stepG_region_end];simp only[fv];refine⟨DM.nil,?_⟩)
 ((refine gp rfl (fun _ b=>?_);replace hF:=DF.keep hF (RK.keep b);clear b);rw[stepG_block];simp only[fv];refine⟨DM.nil,?_⟩)
 (refine gp rfl (fun _ b=>?_);replace hF:=DF.keep hF (RK.keep b);clear b);rw[fp (t:=false) rfl];simp only[fv,dG,dh];refine⟨DM.nil,?_⟩
 (refine gp rfl (fun _ b=>?_);replace hF:=DF.keep hF (RK.keep b);clear b);rw[fp (t:=true) rfl];simp only[fv,dg];refine⟨DM.nil,?_⟩
 ((refine gp rfl (fun _ b=>?_);replace hF:=DF.keep hF (RK.keep b);clear b);rw[stepG_seq];simp only[fv];refine⟨DM.nil,?_⟩)
 ((refine gp rfl (fun _ b=>?_);replace hF:=DF.keep hF (RK.keep b);clear b);rw[stepG_seq];simp only[fv];refine⟨DM.nil,?_⟩)
 ((refine gp rfl (fun _ b=>?_);replace hF:=DF.keep hF (RK.keep b);clear b);rw[fq];simp only[fv,gA,gB,gC,Nat.reduceAdd,dB,List.range,List.range.loop];refine⟨DM.nil,?_⟩)
 ((refine gp rfl (fun _ b=>?_);replace hF:=DF.keep hF (RK.keep b);clear b);refine gD rfl rfl (by decide) (fun K d=>?_);(try simp only[ptr,kx]);go_simp;refine d _ _ ⟨⟨fun _ _=>rfl,rfl,rfl,fun e he=>?_⟩,?_⟩;(focus(clear d;have hm:=gu he;simp[go_sem,ptr,kx, *]at hm));clear d K);exact fM fun w₁ b=>⟨hF.keep b.keep,rfl⟩
end
theorem Kr:∃o b,uq[1]?=some o∧o.dst=some 26∧o.op=.call { callee:=.builtin .len,args:=#[.tmp 25],argTypes:=b }∧b=#[181]∧o.guard=none:=⟨_,_,rfl,rfl,rfl,rfl,rfl⟩
section
variable {p:WI} {B:WB} {Shun:Loc→Prop} {V W:Nat→Prop} {us:List Frame} {w:World} {RB:Nat} {o:Obj} {v8 v15 v16 v17 v18 v19 v20 v21 v22 v23 v24 v9 v25 v26 mH lp lK v30 kX kY kZ la lq lr ld:Value} {Q:Goroutine→World→Prop}
theorem Ks{cap s r:Nat}{buf:Array Value}(m:w.heap[B.CB]?=some (.chan cap buf false s r false))(k:∀d,j8 Tryz.prog Any Shun Q (G (mw.at ⟨GD p B RB v8 v15 v18 v19 v20 v21 v22 v23 v24 v9 (.chan (some B.CB)) (.int .i64 buf.size) mH lp lK v30 kX kY kZ la lq lr ld,[]⟩ (.inRegion uq [2]::.code (.block 3 (.loop nK))::.code oW::nX)) us) (w.at d)):j8 Tryz.prog Any Shun Q (G (mw.at ⟨GD p B RB v8 v15 v18 v19 v20 v21 v22 v23 v24 v9 (.chan (some B.CB)) v26 mH lp lK v30 kX kY kZ la lq lr ld,[]⟩ (.inRegion uq [1,2]::.code (.block 3 (.loop nK))::.code oW::nX)) us) w:=by
 obtain⟨o,n,q,t,h,oa,u⟩:=Kr;have hu:=Tryz.underlying181;have j:B.CB<w.heap.size:=(dp.1 m).1;refine j8.step (fun _ _=>trivial) rfl fun d=>?_
 have f:(w.at d).heap[B.CB]?=some (.chan cap buf false s r false):=m;have hr:(execOp (Act.eval ⟨GD p B RB v8 v15 v18 v19 v20 v21 v22 v23 v24 v9 (.chan (some B.CB)) v26 mH lp lK v30 kX kY kZ la lq lr ld,[]⟩) o).run Tryz.prog (w.at d)=.ok (.value (.int .i64 buf.size)) (w.at d):=by
  unfold execOp;simp[go_sem,h,oa,Act.eval,GD,hY hu,Builtin.len_,goInt,run_getObj_chan _ _ f]
 have he:(execOp (Act.eval ⟨GD p B RB v8 v15 v18 v19 v20 v21 v22 v23 v24 v9 (.chan (some B.CB)) v26 mH lp lK v30 kX kY kZ la lq lr ld,[]⟩) o).events Tryz.prog (w.at d) #[]=#[⟨.obj B.CB,false,true⟩]:=by
  unfold execOp;simp[go_sem,h,oa,Act.eval,GD,hY hu,Builtin.len_,goInt,events_getObj_chan _ _ _ f,run_getObj_chan _ _ f]
 have l:=gq (main:=true) (b:=mw) (k:=.code (.block 3 (.loop nK))::.code oW::nX) (cs:=us) (rest:=[2]) q (by simp[Region.wanted,u]) (by decide) hr;refine⟨_,w.at d,#[⟨.obj B.CB,false,true⟩],by rw[l];unfold Go.Conc.listed;rw[he,seen_eq (by kernel_rfl) (by simp)],fun e he=>⟨?_,trivial⟩,dx _,?_⟩
 ·rw[gT]at he;subst he;refine⟨fun x hx _=>?_,by simp,by simp,j⟩;simp[MemAct.ofEvent,MemAct.touch?]at hx;subst hx;simp
 ·have e:(Act.put ⟨GD p B RB v8 v15 v18 v19 v20 v21 v22 v23 v24 v9 (.chan (some B.CB)) v26 mH lp lK v30 kX kY kZ la lq lr ld,[]⟩ o.dst (.int .i64 buf.size))=⟨GD p B RB v8 v15 v18 v19 v20 v21 v22 v23 v24 v9 (.chan (some B.CB)) (.int .i64 buf.size) mH lp lK v30 kX kY kZ la lq lr ld,[]⟩:=by
   rw[t];rfl
  rw[e];exact k d
end
section
variable {p:WI} {B:WB} {Shun:Loc→Prop} {V W:Nat→Prop} {us:List Frame} {w:World} {RB DB:Nat} {o:Obj} {v8 v15 v16 v17 v18 v19 v20 v21 v22 v23 v24 v9 v25 v26 mH lp lK v30 kX kY kZ la lq lr ld:Value} {Q:Goroutine→World→Prop}
noncomputable abbrev lY (a:Array Value) (l:List Item) (us:List Frame):Goroutine:=G (mw.at ⟨a,[]⟩ l) us
noncomputable def sn:List Item:=.code (.region 10 vh false)::.inBlock 4::.code vi::pZ
theorem Kt(hF:DF V RB o w):Goes Tryz.prog true (RK Tryz.link.tWg B.Wg V) (DM V W) (fun g w=>DF V RB o w∧g=lY (GD p B RB v8 v15 v18 v19 v20 v21 v22 v23 v24 v9 v25 v26 (.int .i64 0) lp lK v30 kX kY kZ la lq lr ld) (.code nK::pZ) us) 12
   (lY (GD p B RB v8 v15 v18 v19 v20 v21 v22 v23 v24 v9 v25 v26 mH lp lK v30 kX kY kZ la lq lr ld) (.inRegion uq [2]::.code (.block 3 (.loop nK))::.code oW::nX) us) w:=by
 simp only[lY,GD,uq,pZ,nK,oW,rJ,nX,nE,mG,oV,oU,Tryz.f63,ez]
 ((refine gp rfl (fun _ b=>?_);replace hF:=DF.keep hF (RK.keep b);clear b);refine gD rfl rfl (by decide) (fun K d=>?_);(try simp only[ptr,kx]);go_simp;refine d _ _ ⟨⟨fun _ _=>rfl,rfl,rfl,fun e he=>?_⟩,?_⟩;(focus(clear d;have hm:=gu he;simp[go_sem,ptr,kx, *]at hm));clear d K)
 ((refine gp rfl (fun _ b=>?_);replace hF:=DF.keep hF (RK.keep b);clear b);rw[stepG_region_end];simp only[fv];refine⟨DM.nil,?_⟩)
 ((refine gp rfl (fun _ b=>?_);replace hF:=DF.keep hF (RK.keep b);clear b);rw[stepG_block];simp only[fv];refine⟨DM.nil,?_⟩)
 ((refine gp rfl (fun _ b=>?_);replace hF:=DF.keep hF (RK.keep b);clear b);rw[stepG_loop];simp only[fv];refine⟨DM.nil,?_⟩);exact fM fun w₁ b=>⟨hF.keep b.keep,rfl⟩
variable {N:Nat}
theorem Ku{k:Nat}(h:k<N)(hF:DF V RB o w):Goes Tryz.prog true (RK Tryz.link.tWg B.Wg V) (DM V W) (fun g w=>DF V RB o w∧g=lY (GD p B RB v8 v15 v18 v19 v20 v21 v22 v23 v24 v9 v25 (.int .i64 N) (.int .i64 k) (.bool true) (.chan (some B.CB)) v30 kX kY kZ la lq lr ld) (.inRegion qS [1,2,3]::sn) us) 14
   (lY (GD p B RB v8 v15 v18 v19 v20 v21 v22 v23 v24 v9 v25 (.int .i64 N) (.int .i64 k) lp lK v30 kX kY kZ la lq lr ld) (.code nK::pZ) us) w:=by
 have f:(k:Int)<(N:Int):=by omega
 simp only[lY,GD,sn,qS,vh,vi,pZ,nK,oW,rJ,nX,nE,mG,oV,oU,Tryz.f63,ez]
 ((refine gp rfl (fun _ b=>?_);replace hF:=DF.keep hF (RK.keep b);clear b);rw[stepG_seq];simp only[fv];refine⟨DM.nil,?_⟩)
 ((refine gp rfl (fun _ b=>?_);replace hF:=DF.keep hF (RK.keep b);clear b);rw[fq];simp only[fv,gA,gB,gC,Nat.reduceAdd,dB,List.range,List.range.loop];refine⟨DM.nil,?_⟩)
 ((refine gp rfl (fun _ b=>?_);replace hF:=DF.keep hF (RK.keep b);clear b);refine gD rfl rfl (by decide) (fun K d=>?_);(try simp only[ptr,kx]);go_simp;refine d _ _ ⟨⟨fun _ _=>rfl,rfl,rfl,fun e he=>?_⟩,?_⟩;(focus(clear d;have hm:=gu he;simp[go_sem,ptr,kx, *]at hm));clear d K)
 ((refine gp rfl (fun _ b=>?_);replace hF:=DF.keep hF (RK.keep b);clear b);rw[stepG_region_end];simp only[fv];refine⟨DM.nil,?_⟩)
 ((refine gp rfl (fun _ b=>?_);replace hF:=DF.keep hF (RK.keep b);clear b);rw[stepG_seq];simp only[fv];refine⟨DM.nil,?_⟩)
 (refine gp rfl (fun _ b=>?_);replace hF:=DF.keep hF (RK.keep b);clear b);rw[fp (t:=true) (by simp[Act.eval])];simp only[fv,dg];refine⟨DM.nil,?_⟩
 ((refine gp rfl (fun _ b=>?_);replace hF:=DF.keep hF (RK.keep b);clear b);rw[stepG_skip];simp only[fv];refine⟨DM.nil,?_⟩)
 ((refine gp rfl (fun _ b=>?_);replace hF:=DF.keep hF (RK.keep b);clear b);rw[stepG_seq];simp only[fv];refine⟨DM.nil,?_⟩)
 ((refine gp rfl (fun _ b=>?_);replace hF:=DF.keep hF (RK.keep b);clear b);rw[stepG_block];simp only[fv];refine⟨DM.nil,?_⟩)
 ((refine gp rfl (fun _ b=>?_);replace hF:=DF.keep hF (RK.keep b);clear b);rw[stepG_seq];simp only[fv];refine⟨DM.nil,?_⟩)
 ((refine gp rfl (fun _ b=>?_);replace hF:=DF.keep hF (RK.keep b);clear b);rw[fq];simp only[fv,gA,gB,gC,Nat.reduceAdd,dB,List.range,List.range.loop];refine⟨DM.nil,?_⟩)
 ((refine gp rfl (fun _ b=>?_);replace hF:=DF.keep hF (RK.keep b);clear b);refine gD rfl rfl (by decide) (fun K d=>?_);(try simp only[ptr,kx]);go_simp;refine d _ _ ⟨⟨fun _ _=>rfl,rfl,rfl,fun e he=>?_⟩,?_⟩;(focus(clear d;have hm:=gu he;simp[go_sem,ptr,kx, *]at hm));clear d K);refine fM fun w₁ b=>⟨hF.keep b.keep,?_⟩
 rfl
theorem Kv(hF:DF V RB o w):Goes Tryz.prog true (RK Tryz.link.tWg B.Wg V) (DM V W) (fun g w=>DF V RB o w∧g=lY (GD p B RB v8 v15 v18 v19 v20 v21 v22 v23 v24 v9 v25 (.int .i64 N) (.int .i64 N) (.bool false) lK v30 kX kY kZ la lq lr ld) (.code oW::nX) us) 14
   (lY (GD p B RB v8 v15 v18 v19 v20 v21 v22 v23 v24 v9 v25 (.int .i64 N) (.int .i64 N) lp lK v30 kX kY kZ la lq lr ld) (.code nK::pZ) us) w:=by
 simp only[lY,GD,pZ,nK,oW,rJ,nX,nE,mG,oV,oU,Tryz.f63,ez]
 ((refine gp rfl (fun _ b=>?_);replace hF:=DF.keep hF (RK.keep b);clear b);rw[stepG_seq];simp only[fv];refine⟨DM.nil,?_⟩)
 ((refine gp rfl (fun _ b=>?_);replace hF:=DF.keep hF (RK.keep b);clear b);rw[fq];simp only[fv,gA,gB,gC,Nat.reduceAdd,dB,List.range,List.range.loop];refine⟨DM.nil,?_⟩)
 ((refine gp rfl (fun _ b=>?_);replace hF:=DF.keep hF (RK.keep b);clear b);refine gD rfl rfl (by decide) (fun K d=>?_);(try simp only[ptr,kx]);go_simp;refine d _ _ ⟨⟨fun _ _=>rfl,rfl,rfl,fun e he=>?_⟩,?_⟩;(focus(clear d;have hm:=gu he;simp[go_sem,ptr,kx, *]at hm));clear d K)
 ((refine gp rfl (fun _ b=>?_);replace hF:=DF.keep hF (RK.keep b);clear b);rw[stepG_region_end];simp only[fv];refine⟨DM.nil,?_⟩)
 ((refine gp rfl (fun _ b=>?_);replace hF:=DF.keep hF (RK.keep b);clear b);rw[stepG_seq];simp only[fv];refine⟨DM.nil,?_⟩)
 (refine gp rfl (fun _ b=>?_);replace hF:=DF.keep hF (RK.keep b);clear b);rw[fp (t:=false) (by simp[Act.eval])];simp only[fv,dG,dh];refine⟨DM.nil,?_⟩
 (refine gp rfl (fun _ b=>?_);replace hF:=DF.keep hF (RK.keep b);clear b);rw[stepG_exit (by rfl)];simp only[fv];refine⟨DM.nil,fM fun w₁ b=>⟨hF.keep b.keep,?_⟩⟩;rfl
end
theorem CQ:∃o,qS[1]?=some o∧o.dst=some 30∧o.op=.recv 181 (.tmp 29) false∧o.guard=none:=⟨_,rfl,rfl,rfl,rfl⟩
section
variable {p:WI} {B:WB} {Shun:Loc→Prop} {V W:Nat→Prop} {us:List Frame} {w:World} {RB DB:Nat} {o:Obj} {v8 v15 v16 v17 v18 v19 v20 v21 v22 v23 v24 v9 v25 v26 mH lp lK v30 kX kY kZ la lq lr ld:Value} {Q:Goroutine→World→Prop}
theorem Kw(w:World):stepG Tryz.prog true (lY (GD p B RB v8 v15 v18 v19 v20 v21 v22 v23 v24 v9 v25 v26 mH lp (.chan (some B.CB)) v30 kX kY kZ la lq lr ld) (.inRegion qS [1,2,3]::sn) us) w =
   .comm (lY (GD p B RB v8 v15 v18 v19 v20 v21 v22 v23 v24 v9 v25 v26 mH lp (.chan (some B.CB)) v30 kX kY kZ la lq lr ld) (.inRegion qS [1,2,3]::sn) us) #[rcase B.CB lG] true (.recv false) w #[]:=by
 obtain⟨o,f,j,b,h⟩:=CQ;have d:=Tryz.zeroValue155;have e:=fun w es=>sg (P:=Tryz.prog) (t:=155) (by kernel_rfl) w es
 have hu:=Tryz.underlying181;have hr:(execOp (Act.eval ⟨GD p B RB v8 v15 v18 v19 v20 v21 v22 v23 v24 v9 v25 v26 mH lp (.chan (some B.CB)) v30 kX kY kZ la lq lr ld,[]⟩) o).run Tryz.prog w=.ok (.comm #[rcase B.CB lG] true (.recv false)) w:=by
  unfold execOp;simp[b,d,Act.eval,GD,rcase,lG,hY hu]
 have he:(execOp (Act.eval ⟨GD p B RB v8 v15 v18 v19 v20 v21 v22 v23 v24 v9 v25 v26 mH lp (.chan (some B.CB)) v30 kX kY kZ la lq lr ld,[]⟩) o).events Tryz.prog w #[]=#[]:=by
  unfold execOp;simp[go_sem,b,e,Act.eval,GD,hY hu]
 unfold lY;rw[stepG_comm f (by simp[Region.wanted,h]) (by decide) hr,hD he]
theorem Kx(v:Value):(lY (GD p B RB v8 v15 v18 v19 v20 v21 v22 v23 v24 v9 v25 v26 mH lp (.chan (some B.CB)) v30 kX kY kZ la lq lr ld) (.inRegion qS [1,2,3]::sn) us).finishComm Tryz.prog #[rcase B.CB lG] (.recv false) 0 v true =
   lY (GD p B RB v8 v15 v18 v19 v20 v21 v22 v23 v24 v9 v25 v26 mH lp (.chan (some B.CB)) v kX kY kZ la lq lr ld) (.inRegion qS [2,3]::sn) us:=by
 obtain⟨o,b,d,e,f⟩:=CQ;unfold Goroutine.finishComm lY;simp only[G];rw[fl,b];simp only[dW,d];rfl
variable {i sl sc:Nat} {sa:Option Addr} {sb:Bool}
theorem Ky(q:i<p.xl)(hW:W DB)(hF:DF V DB (.cells lG.cells 155) w):Goes Tryz.prog true (RK Tryz.link.tWg B.Wg V) (DM V W) (fun g w=>DF V DB (.cells #[.int .i64 i,.slice sa sl sc,.bool sb] 155) w∧g=lY (GD p B RB v8 v15 v18 v19 v20 v21 v22 v23 v24 (ptr DB) v25 v26 mH lp lK (.agg #[.int .i64 i,.slice sa sl sc,.bool sb]) (kx p RB) (ptr DB) (.int .i64 i) (.pointer (some ⟨DB,1,none⟩)) (.agg #[.slice sa sl sc,.bool sb]) (.pointer (some ⟨RB,i*2,none⟩)) ld) (.inRegion vh [6]::.inBlock 4::.code vi::pZ) us) 16
   (lY (GD p B RB v8 v15 v18 v19 v20 v21 v22 v23 v24 (ptr DB) v25 v26 mH lp lK (.agg #[.int .i64 i,.slice sa sl sc,.bool sb]) kX kY kZ la lq lr ld) (.inRegion qS [3]::sn) us) w:=by
 simp only[lY,GD,sn,qS,vh,vi,pZ,nK,oW,rJ,nX,nE,mG,oV,oU,Tryz.f63,ez]
 (refine gp rfl (fun _ d=>?_);replace hF:=DF.keep hF (RK.keep d);clear d);refine gD rfl rfl (by decide) (fun K f=>?_);have h:=cell_of hF.o 0;have j:=cell_of hF.o 1;have k:=cell_of hF.o 2;have m:=qO hF.o 0;have z1:=qO hF.o 1;have z2:=qO hF.o 2;simp[lG,Value.cells]at h j k;simp only[ptr];go_simp;refine f _ _ ⟨⟨fun b hb=>?_,by simp[World.setCell],rfl,fun e he=>?_⟩,?_⟩
 ·have l:DB≠b:=fun e=>hb (e▸hW)
  rw[oB l,oB l,oB l]
 ·clear f;have hm:=gu he;simp[go_sem,ptr,xZ,x4,storedEv, *]at hm;rcases hm with rfl|rfl|rfl<;>exact⟨_,_,rfl,hF.v,fun _=>hW⟩
 clear f K h j k m z1 z2;have hF:=(⟨hF.v,qP (qP (qP hF.o 0 (.int .i64 i)) 1 (.slice sa sl sc)) 2 (.bool sb)⟩:DF V DB _ _);simp only[lG,Value.cells,ik,iu,iq]at hF
 ((refine gp rfl (fun _ d=>?_);replace hF:=DF.keep hF (RK.keep d);clear d);rw[stepG_region_end];simp only[fv];refine⟨DM.nil,?_⟩)
 ((refine gp rfl (fun _ d=>?_);replace hF:=DF.keep hF (RK.keep d);clear d);rw[fq];simp only[fv,gA,gB,gC,Nat.reduceAdd,dB,List.range,List.range.loop];refine⟨DM.nil,?_⟩);have n:(i:Int)<(p.xl:Int):=by omega
 ((refine gp rfl (fun _ d=>?_);replace hF:=DF.keep hF (RK.keep d);clear d);refine gD rfl rfl (by decide) (fun K f=>?_);have h:=cell_of (DF.o hF) 0;have j:=cell_of (DF.o hF) 1;have k:=cell_of (DF.o hF) 2;simp at h j k;(try simp only[ptr,kx]);go_simp;refine f _ _ ⟨⟨fun _ _=>rfl,rfl,rfl,fun e he=>?_⟩,?_⟩;(focus(clear f;have hm:=gu he;simp[go_sem,ptr,kx, *]at hm;(try(subst hm;exact⟨_,_,rfl,DF.v hF,by simp⟩));(try(rcases hm with rfl|rfl|rfl<;>exact⟨_,_,rfl,DF.v hF,by simp⟩));(try(rcases hm with rfl|rfl<;>exact⟨_,_,rfl,DF.v hF,by simp⟩))));clear f K h j k)
 ((refine gp rfl (fun _ d=>?_);replace hF:=DF.keep hF (RK.keep d);clear d);refine gD rfl rfl (by decide) (fun K f=>?_);have h:=cell_of (DF.o hF) 0;have j:=cell_of (DF.o hF) 1;have k:=cell_of (DF.o hF) 2;simp at h j k;(try simp only[ptr,kx]);go_simp;refine f _ _ ⟨⟨fun _ _=>rfl,rfl,rfl,fun e he=>?_⟩,?_⟩;(focus(clear f;have hm:=gu he;simp[go_sem,ptr,kx, *]at hm;(try(subst hm;exact⟨_,_,rfl,DF.v hF,by simp⟩));(try(rcases hm with rfl|rfl|rfl<;>exact⟨_,_,rfl,DF.v hF,by simp⟩));(try(rcases hm with rfl|rfl<;>exact⟨_,_,rfl,DF.v hF,by simp⟩))));clear f K h j k)
 ((refine gp rfl (fun _ d=>?_);replace hF:=DF.keep hF (RK.keep d);clear d);refine gD rfl rfl (by decide) (fun K f=>?_);have h:=cell_of (DF.o hF) 0;have j:=cell_of (DF.o hF) 1;have k:=cell_of (DF.o hF) 2;simp at h j k;(try simp only[ptr,kx]);go_simp;refine f _ _ ⟨⟨fun _ _=>rfl,rfl,rfl,fun e he=>?_⟩,?_⟩;(focus(clear f;have hm:=gu he;simp[go_sem,ptr,kx, *]at hm;(try(subst hm;exact⟨_,_,rfl,DF.v hF,by simp⟩));(try(rcases hm with rfl|rfl|rfl<;>exact⟨_,_,rfl,DF.v hF,by simp⟩));(try(rcases hm with rfl|rfl<;>exact⟨_,_,rfl,DF.v hF,by simp⟩))));clear f K h j k)
 ((refine gp rfl (fun _ d=>?_);replace hF:=DF.keep hF (RK.keep d);clear d);refine gD rfl rfl (by decide) (fun K f=>?_);have h:=cell_of (DF.o hF) 0;have j:=cell_of (DF.o hF) 1;have k:=cell_of (DF.o hF) 2;simp at h j k;(try simp only[ptr,kx]);go_simp;refine f _ _ ⟨⟨fun _ _=>rfl,rfl,rfl,fun e he=>?_⟩,?_⟩;(focus(clear f;have hm:=gu he;simp[go_sem,ptr,kx, *]at hm;(try(subst hm;exact⟨_,_,rfl,DF.v hF,by simp⟩));(try(rcases hm with rfl|rfl|rfl<;>exact⟨_,_,rfl,DF.v hF,by simp⟩));(try(rcases hm with rfl|rfl<;>exact⟨_,_,rfl,DF.v hF,by simp⟩))));clear f K h j k)
 ((refine gp rfl (fun _ d=>?_);replace hF:=DF.keep hF (RK.keep d);clear d);refine gD rfl rfl (by decide) (fun K f=>?_);have h:=cell_of (DF.o hF) 0;have j:=cell_of (DF.o hF) 1;have k:=cell_of (DF.o hF) 2;simp at h j k;(try simp only[ptr,kx]);go_simp;refine f _ _ ⟨⟨fun _ _=>rfl,rfl,rfl,fun e he=>?_⟩,?_⟩;(focus(clear f;have hm:=gu he;simp[go_sem,ptr,kx, *]at hm;(try(subst hm;exact⟨_,_,rfl,DF.v hF,by simp⟩));(try(rcases hm with rfl|rfl|rfl<;>exact⟨_,_,rfl,DF.v hF,by simp⟩));(try(rcases hm with rfl|rfl<;>exact⟨_,_,rfl,DF.v hF,by simp⟩))));clear f K h j k)
 ((refine gp rfl (fun _ d=>?_);replace hF:=DF.keep hF (RK.keep d);clear d);refine gD rfl rfl (by decide) (fun K f=>?_);have h:=cell_of (DF.o hF) 0;have j:=cell_of (DF.o hF) 1;have k:=cell_of (DF.o hF) 2;simp at h j k;(try simp only[ptr,kx]);go_simp;refine f _ _ ⟨⟨fun _ _=>rfl,rfl,rfl,fun e he=>?_⟩,?_⟩;(focus(clear f;have hm:=gu he;simp[go_sem,ptr,kx, *]at hm;(try(subst hm;exact⟨_,_,rfl,DF.v hF,by simp⟩));(try(rcases hm with rfl|rfl|rfl<;>exact⟨_,_,rfl,DF.v hF,by simp⟩));(try(rcases hm with rfl|rfl<;>exact⟨_,_,rfl,DF.v hF,by simp⟩))));clear f K h j k);exact fM fun w₁ d=>⟨hF.keep d.keep,rfl⟩
theorem Kz{k:Nat}{rep:Array Value}(n:i<p.xl)(q:k<2147483647)(hsz:rep.size=p.xl*2)(hW:W RB)(hF:DF V RB (.cells rep 140) w):Goes Tryz.prog true (RK Tryz.link.tWg B.Wg V) (DM V W) (fun g w=>DF V RB (.cells (lay rep i sa sl sc sb) 140) w∧g=lY (GD p B RB v8 v15 v18 v19 v20 v21 v22 v23 v24 v9 v25 v26 (.int .i64 (k+1:Nat)) lp lK v30 kX kY kZ la (.agg #[.slice sa sl sc,.bool sb]) (.pointer (some ⟨RB,i*2,none⟩)) (.int .i64 (k+1:Nat))) (.code nK::pZ) us) 16
   (lY (GD p B RB v8 v15 v18 v19 v20 v21 v22 v23 v24 v9 v25 v26 (.int .i64 k) lp lK v30 kX kY kZ la (.agg #[.slice sa sl sc,.bool sb]) (.pointer (some ⟨RB,i*2,none⟩)) ld) (.inRegion vh [6]::.inBlock 4::.code vi::pZ) us) w:=by
 simp only[lY,GD,vh,vi,pZ,nK,oW,rJ,nX,nE,mG,oV,oU,Tryz.f63,ez]
 (refine gp rfl (fun _ d=>?_);replace hF:=DF.keep hF (RK.keep d);clear d);refine gD rfl rfl (by decide) (fun K f=>?_);have j:=(cell_of hF.o (i*2)).trans (dq (by omega));have l:=(cell_of hF.o (i*2+1)).trans (dq (by omega));have m:=qO hF.o (i*2);have z1:=qO hF.o (i*2+1);go_simp;refine f _ _ ⟨⟨fun b hb=>?_,by simp[World.setCell],rfl,fun e he=>?_⟩,?_⟩
 ·have h:RB≠b:=fun e=>hb (e▸hW)
  rw[oB h,oB h]
 ·clear f;have hm:=gu he;simp[go_sem,xZ,x4,storedEv, *]at hm;rcases hm with rfl|rfl<;>exact⟨_,_,rfl,hF.v,fun _=>hW⟩
 clear f K j l m z1;have hF:=(⟨hF.v,qP (qP hF.o (i*2) (.slice sa sl sc)) (i*2+1) (.bool sb)⟩:DF V RB _ _)
 ((refine gp rfl (fun _ d=>?_);replace hF:=DF.keep hF (RK.keep d);clear d);rw[stepG_region_end];simp only[fv];refine⟨DM.nil,?_⟩)
 ((refine gp rfl (fun _ d=>?_);replace hF:=DF.keep hF (RK.keep d);clear d);rw[stepG_inBlock];simp only[fv];refine⟨DM.nil,?_⟩)
 ((refine gp rfl (fun _ d=>?_);replace hF:=DF.keep hF (RK.keep d);clear d);rw[fq];simp only[fv,gA,gB,gC,Nat.reduceAdd,dB,List.range,List.range.loop];refine⟨DM.nil,?_⟩);have hb:IntKind.i64.wrap ((k:Int)+1)=((k+1:Nat):Int):=by rw[iw];omega
 ((refine gp rfl (fun _ d=>?_);replace hF:=DF.keep hF (RK.keep d);clear d);refine gD rfl rfl (by decide) (fun K f=>?_);(try simp only[ptr,kx]);go_simp;refine f _ _ ⟨⟨fun _ _=>rfl,rfl,rfl,fun e he=>?_⟩,?_⟩;(focus(clear f;have hm:=gu he;simp[go_sem,ptr,kx, *]at hm));clear f K)
 ((refine gp rfl (fun _ d=>?_);replace hF:=DF.keep hF (RK.keep d);clear d);refine gD rfl rfl (by decide) (fun K f=>?_);(try simp only[ptr,kx]);go_simp;refine f _ _ ⟨⟨fun _ _=>rfl,rfl,rfl,fun e he=>?_⟩,?_⟩;(focus(clear f;have hm:=gu he;simp[go_sem,ptr,kx, *]at hm));clear f K)
 ((refine gp rfl (fun _ d=>?_);replace hF:=DF.keep hF (RK.keep d);clear d);rw[stepG_region_end];simp only[fv];refine⟨DM.nil,?_⟩)
 ((refine gp rfl (fun _ d=>?_);replace hF:=DF.keep hF (RK.keep d);clear d);rw[stepG_inLoop];simp only[fv];refine⟨DM.nil,?_⟩);exact fM fun w₁ d=>⟨hF.keep d.keep,rfl⟩
end
def zU (v:Value):Prop:=∃sa sl sc sb,v=.agg #[.slice sa sl sc,.bool sb]
structure td (p:WI) (rep:Array Value) (v:Nat→Value) (l:List Nat):Prop where
 size:rep.size=p.xl*2
 at_:∀k∈l,k<p.xl∧∃sa sl sc sb,v k=.agg #[.slice sa sl sc,.bool sb]∧rep[k*2]?=some (.slice sa sl sc)∧rep[k*2+1]?=some (.bool sb)
theorem td.lay{p:WI}{rep:Array Value}{v:Nat→Value}{l:List Nat}(h:td p rep v l){i:Nat}(d:i<p.xl){sa:Option Addr}{sl sc:Nat}{sb:Bool}(f:v i=.agg #[.slice sa sl sc,.bool sb]):td p (lay rep i sa sl sc sb) v (l++[i]):=by
 have hsz:=h.size;refine⟨CO.trans h.size,fun k b=>?_⟩
 by_cases e:k=i
 ·subst e;obtain⟨j,m⟩:=CP (rep:=rep) (i:=k) (sa:=sa) (sl:=sl) (sc:=sc) (sb:=sb) (by omega);exact⟨d,sa,sl,sc,sb,f,j,m⟩
 ·rw[gQ,iy]at b;obtain⟨b1,xa,xl,xc,xb,b2,n,q⟩:=h.at_ k (b.resolve_right e);exact⟨b1,xa,xl,xc,xb,b2,(x5 (by omega)).trans n,(x5 (by omega)).trans q⟩
structure sq (CB RB:Nat) (wo w:World):Prop where
 size:wo.heap.size≤w.heap.size
 os:w.os=wo.os
 heap:∀b,b<wo.heap.size→b≠CB→b≠RB→w.heap[b]?=wo.heap[b]?
section
variable {p:WI} {B:WB} {Shun:Loc→Prop} {us:List Frame} {RB:Nat} {wo:World} {v8 v15 v18 v19 v20 v21 v22 v23 v24 v25:Value} {Q:Goroutine→World→Prop} {msg v:Nat→Value} {cap sent N:Nat}
theorem KA(hN:N<2147483647)(hS:∀b,b=RB∨wo.heap.size≤b→∀l,kL b l→¬Shun l)(A:RB≠B.CB)(ak:RB<wo.heap.size)(al:B.CB<wo.heap.size):∀(wait l:List Nat)(k:Nat){w:World}{rep:Array Value}{r:Nat} {v9 lp lK v30 kX kY kZ la lq lr ld:Value},k+wait.length=N →
  w.heap[B.CB]?=some (.chan cap (wait.map msg).toArray false sent r false)→w.heap[RB]?=some (.cells rep 140)→td p rep v l →
  (∀i∈wait,i<p.xl∧zU (v i)∧msg i=.agg (#[.int .i64 i]++(v i).cells))→sq B.CB RB wo w →
  (∀w' f v9 lp lK v30 kX kY kZ la lq lr ld,w'.heap[RB]?=some (.cells f 140)→td p f v (l++wait)→sq B.CB RB wo w'→j8 Tryz.prog Any Shun Q (lY (GD p B RB v8 v15 v18 v19 v20 v21 v22 v23 v24 v9 v25 (.int .i64 N) (.int .i64 N) lp lK v30 kX kY kZ la lq lr ld) (.code oW::nX) us) w') →
  j8 Tryz.prog Any Shun Q (lY (GD p B RB v8 v15 v18 v19 v20 v21 v22 v23 v24 v9 v25 (.int .i64 N) (.int .i64 k) lp lK v30 kX kY kZ la lq lr ld) (.code nK::pZ) us) w:=by
 intro wait
 induction wait with
 |nil =>
  intro l k w rep r v9 lp lK v30 kX kY kZ la lq lr ld O hC R S X n kk;obtain rfl:k=N:=by simpa using O
  refine j8.goes (ty:=Tryz.link.tWg) (Wg:=B.Wg) (V:=fun b=>b=RB) (W:=fun _=>False) (fun b hb=>hS b (.inl hb)) (fun b hb=>by have:=n.size;rw[hb];omega) (Kv (B:=B) ⟨rfl,R⟩) (fun g' w' u hsz x C=>?_);obtain⟨hF,rfl⟩:=u;exact kk w' rep _ _ _ _ _ _ _ _ _ _ _ hF.o (by rw[gZ];exact S) ⟨by rw[hsz];exact n.size,x.trans n.os,fun b Y T U=>(C b id).trans (n.heap b Y T U)⟩
 |cons i rest ih =>
  intro l k w rep r v9 lp lK v30 kX kY kZ la lq lr ld O hC R S X n kk;have Z:k<N:=by rw[←O];simp
  refine j8.goes (ty:=Tryz.link.tWg) (Wg:=B.Wg) (V:=fun b=>b=RB) (W:=fun _=>False) (fun b hb=>hS b (.inl hb)) (fun b hb=>by have:=n.size;rw[hb];omega) (Ku (B:=B) Z ⟨rfl,R⟩) (fun g1 w1 u hsz x C=>?_);obtain⟨_,rfl⟩:=u;have D:=(C B.CB id).trans hC;have aa:=(C RB id).trans R;obtain⟨hi,⟨sa,sl,sc,sb,hv⟩,E⟩:=X i (by simp);refine j8.recv rfl (fun d=>Kw _) D (by simp) (fun d=>?_);have F:((i::rest).map msg).toArray.getD 0 undef=.agg #[.int .i64 i,.slice sa sl sc,.bool sb]:=by
   have:((i::rest).map msg).toArray.getD 0 undef=msg i:=by simp
   rw[this,E,hv];rfl
  rw[F,Kx];have hex:((i::rest).map msg).toArray.extract 1 ((i::rest).map msg).toArray.size=(rest.map msg).toArray:=by
   simp;exact gY (by simp)
  rw[hex];have y:∀b,b≠B.CB→((w1.at d).setChan B.CB cap (rest.map msg).toArray false sent (r+1) false).heap[b]?=w1.heap[b]?:=fun b hb=>by
   simp only[World.setChan,World.at];rw[dI (dE hb)]
  have G:B.CB<w1.heap.size:=(dp.1 D).1;have h:((w1.at d).setChan B.CB cap (rest.map msg).toArray false sent (r+1) false).heap[B.CB]?=some (.chan cap (rest.map msg).toArray false sent (r+1) false):=by
   simp only[World.setChan,World.at];rw[ff G]
  have H:((w1.at d).setChan B.CB cap (rest.map msg).toArray false sent (r+1) false).heap.size=w1.heap.size:=by simp[World.setChan,World.at]
  have s:((w1.at d).setChan B.CB cap (rest.map msg).toArray false sent (r+1) false).os=w1.os:=rfl;generalize((w1.at d).setChan B.CB cap (rest.map msg).toArray false sent (r+1) false)=w2 at y h H s ⊢;obtain⟨DB,q⟩:∃DB,nD DB w2.heap.size:=⟨_,rfl⟩;refine j8.made (B:=DB) (g':=lY (GD p B RB v8 v15 v18 v19 v20 v21 v22 v23 v24 (ptr DB) v25 (.int .i64 N) (.int .i64 k) (.bool true) (.chan (some B.CB)) (.agg #[.int .i64 i,.slice sa sl sc,.bool sb]) kX kY kZ la lq lr ld) (.inRegion qS [3]::sn) us) (o:=.cells lG.cells 155) rfl q (fun w₁ I=>?_) (fun d2=>?_)
  ·rw[show DB=w₁.heap.size from q.eq.trans I.symm];unfold lY;rw[xU (b:=mw) (ops:=qS) (i:=2) (elem:=155) rfl rfl (by decide) rfl Tryz.zeroValue155 (sg (by kernel_rfl))];rfl
  have J:((w2.at d2).alloc (.cells lG.cells 155)).heap.size=w2.heap.size+1:=by show(w2.heap.push _).size=_;simp
  have e:∀b,b<w2.heap.size→((w2.at d2).alloc (.cells lG.cells 155)).heap[b]?=w2.heap[b]?:=fun b hb=>by
   show(w2.heap.push _)[b]?=_;rw[gX hb,dq hb]
  have m:((w2.at d2).alloc (.cells lG.cells 155)).heap[DB]?=some (.cells lG.cells 155):=by
   rw[q.eq];show(w2.heap.push _)[w2.heap.size]?=_;simp
  have t:((w2.at d2).alloc (.cells lG.cells 155)).os=w2.os:=rfl;generalize((w2.at d2).alloc (.cells lG.cells 155))=w3 at J e m t ⊢;have ah:DB=w2.heap.size:=q;have am:=n.size;refine j8.goes (ty:=Tryz.link.tWg) (Wg:=B.Wg) (V:=fun b=>b=DB) (W:=fun b=>b=DB) (fun b hb=>hS b (.inr (by rw[hb];omega))) (fun b hb=>by rw[hb];omega) (Ky (B:=B) hi rfl ⟨rfl,m⟩) (fun g4 w4 u ai K z=>?_);obtain⟨_,rfl⟩:=u;have ab:RB≠DB:=by omega
  have ad:B.CB≠DB:=by omega
  have ae:w4.heap[RB]?=some (.cells rep 140):=(z RB ab).trans ((e RB (by omega)).trans ((y RB A).trans aa));have af:w4.heap[B.CB]?=some (.chan cap (rest.map msg).toArray false sent (r+1) false):=(z B.CB ad).trans ((e _ (by omega)).trans h);refine j8.goes (ty:=Tryz.link.tWg) (Wg:=B.Wg) (V:=fun b=>b=RB) (W:=fun b=>b=RB) (fun b hb=>hS b (.inl hb)) (fun b hb=>by rw[hb];omega) (Kz (B:=B) (k:=k) hi (by omega) S.size rfl ⟨rfl,ae⟩) (fun g5 w5 u aj L M=>?_);obtain⟨ag,rfl⟩:=u;refine ih (l++[i]) (k+1) (r:=r+1) (by rw[←O];simp;omega) ((M _ (dE A)).trans af) ag.o (S.lay hi hv) (fun j hj=>X j (by simp[hj])) ⟨by omega,by rw[L,K,t,s,x];exact n.os,fun b Y T U=>?_⟩ (fun w' f v9 lp lK v30 kX kY kZ la lq lr ld a1 a2 a3=>kk w' f _ _ _ _ _ _ _ _ _ _ _ a1 (by rw[iz]at a2;exact a2) a3);exact(M b U).trans ((z b (by show b≠DB;omega)).trans ((e b (by omega)).trans ((y b T).trans ((C b id).trans (n.heap b Y T U)))))
end
end
section
open Go.Conc Go.ConcN Go.Conc.Lib Go.ConcR.Gen Go.ConcN.Gen Go.Proofs.YtjnkcibpkkjniaaGreat.j7
open Go.ConcR (KK wgBlock WgAt stA smA rd wr mk DC0)
variable [Scope]
section
variable {P:Program} {Shun:Loc→Prop} {Q:Goroutine→World→Prop} {g g':Goroutine} {w:World}
theorem j8.c0(b:g.status=.running)(h:∀w,stepG P true g w=.go g' w #[])(k:∀w',w'.heap=w.heap→w'.os=w.os→j8 P Any Shun Q g' w'):j8 P Any Shun Q g w :=
 j8.step (fun _ _=>trivial) b fun d=>⟨g',w.at d,#[],h _,by simp,dx _,k _ rfl rfl⟩
end
section
variable {p:WI} {B:WB} {Shun:Loc→Prop} {V W:Nat→Prop} {us cs:List Frame} {w:World} {RB DB:Nat} {o:Obj} {v8 v15 v16 v17 v18 v19 v20 v21 v22 v23 v24 v9 v25 v26 mH lp lK v30 kX kY kZ la lq lr ld:Value} {Q:Goroutine→World→Prop}
def GE (p:WI) (B:WB) (RB:Nat) (v8 v15 v18 v19 v20 v21 v22 v23 v24:Value) (v9 v25 v26 mH lp lK v30 kX kY kZ la lq lr ld:Value):Array Value :=
 ((GD p B RB v8 v15 v18 v19 v20 v21 v22 v23 v24 v9 v25 v26 mH lp lK v30 kX kY kZ la lq lr ld).setIfInBounds 38 (kx p RB)).setIfInBounds 6 (kx p RB)
theorem KB(hF:DF V RB o w):Goes Tryz.prog true (RK Tryz.link.tWg B.Wg V) (DM V W) (fun g w=>DF V RB o w∧g=lY (GE p B RB v8 v15 v18 v19 v20 v21 v22 v23 v24 v9 v25 v26 mH lp lK v30 kX kY kZ la lq lr ld) (.code .ret::nX) us) 12
   (lY (GD p B RB v8 v15 v18 v19 v20 v21 v22 v23 v24 v9 v25 v26 mH lp lK v30 kX kY kZ la lq lr ld) (.code oW::nX) us) w:=by
 simp only[lY,GE,GD,oW,rJ,nX,nE,mG,oV,oU,Tryz.f63,ez]
 ((refine gp rfl (fun _ b=>?_);replace hF:=DF.keep hF (RK.keep b);clear b);rw[stepG_seq];simp only[fv];refine⟨DM.nil,?_⟩)
 ((refine gp rfl (fun _ b=>?_);replace hF:=DF.keep hF (RK.keep b);clear b);rw[fq];simp only[fv,gA,gB,gC,Nat.reduceAdd,dB,List.range,List.range.loop];refine⟨DM.nil,?_⟩)
 ((refine gp rfl (fun _ b=>?_);replace hF:=DF.keep hF (RK.keep b);clear b);refine gD rfl rfl (by decide) (fun K d=>?_);(try simp only[ptr,kx]);go_simp;refine d _ _ ⟨⟨fun _ _=>rfl,rfl,rfl,fun e he=>?_⟩,?_⟩;(focus(clear d;have hm:=gu he;simp[go_sem,ptr,kx, *]at hm));clear d K)
 ((refine gp rfl (fun _ b=>?_);replace hF:=DF.keep hF (RK.keep b);clear b);refine gD rfl rfl (by decide) (fun K d=>?_);(try simp only[ptr,kx]);go_simp;refine d _ _ ⟨⟨fun _ _=>rfl,rfl,rfl,fun e he=>?_⟩,?_⟩;(focus(clear d;have hm:=gu he;simp[go_sem,ptr,kx, *]at hm));clear d K)
 ((refine gp rfl (fun _ b=>?_);replace hF:=DF.keep hF (RK.keep b);clear b);rw[stepG_region_end];simp only[fv];refine⟨DM.nil,?_⟩);exact fM fun w₁ b=>⟨hF.keep b.keep,rfl⟩
variable {c:Frame} {ret:Value}
theorem KC{A:Array Value}(e:A.getD 6 undef=ret)(k:∀w',w'.heap=w.heap→w'.os=w.os→j8 Tryz.prog Any Shun Q (G (c.finish ret) cs) w'):j8 Tryz.prog Any Shun Q (lY A (.code .ret::nX) (c::cs)) w:=by
 refine j8.c0 rfl (fun w=>stepG_ret') fun w1 f h=>?_
 refine j8.c0 (g':=G (c.finish ret) cs) rfl (fun w=>?_) fun w2 j l=>k w2 (j.trans f) (l.trans h)
 have d:Tryz.f63.results=#[.tmp 6]:=rfl;have:=stepG_leave (P:=Tryz.prog) (main:=true) (b:=mw) (a:=⟨A,[]⟩) (todo:=.code .ret::nX) (c:=c) (cs:=cs) (w:=w) (v:=A.getD 6 undef) rfl rfl Tryz.func63 (fw d _ _ _) (fy d _ _);rw[e]at this;exact this
variable {listed:Array Bool} {a:Act}
theorem KD{o:Oper}(b:kI[8]?=some o)(hr:8∈Region.ready .any kI listed)(d:me kI (v10 p B ret) (po B) 36 listed a):(execOp a.eval o).run Tryz.prog w=.ok (.value (v10 p B ret 8)) w∧∀e∈(execOp a.eval o).events Tryz.prog w #[],False:=by
 have hd:=dep d b hr;clear hr;simp only[kI,nW,qx,oT,Tryz.f35]at b hd;simp only[fR,gx,fS,dR]at b hd;subst b;simp[Region.binds,v10]at hd;refine⟨?_,?_⟩
 all_goals unfold execOp
 all_goals simp only[Act.eval,v10,du,hd,ez]
 ·go_simp
 ·intro e he;simp[go_sem]at he
theorem KE:∃o,kI[8]?=some o∧o.dst=some 4:=⟨_,rfl,rfl⟩
theorem KF{V0:Nat→Prop}{fuel t:Nat}(M:∀b,V0 b→∀l,kL b l→¬Shun l)(y:∀b,V0 b→b<w.heap.size)(hF:MF p B V0 w)(f:me kI (v10 p B undef) (po B) 36 listed a)(hr:7∈Region.ready .any kI listed)(O:listed.getD 8 false=false)(hu:mr kI listed≤fuel+1)(k:∀w',w'.heap=w.heap→w'.os=w.os→j8 Tryz.prog Any Shun Q (G (c.finish ret) cs) w'):j8 Tryz.prog Any Shun Q (G ((wf.at a (.inRegion kI (7::Region.linearise.go .any kI fuel t (listed.setIfInBounds 7 true) [])::[.code .ret])).finish ret) (c::cs)) w:=by
 obtain⟨o,U,s,od,X,og⟩:=zO;rw[fl,s];have L:listed.getD 7 false=false:=xO f.ky hr;have Y:me kI (v10 p B ret) (po B) 36 (listed.setIfInBounds 7 true) (a.put o.dst ret):=f.put zN s hr rfl fun j q=>by
  have Z:j≠7:=fun e=>by rw[e,L]at q;cases q
  have e8:j≠8:=fun e=>by rw[e,O]at q;cases q
  unfold v10;split<;>first|rfl|exact absurd rfl Z|exact absurd rfl e8
 have z:7<listed.size:=by rw[f.ky,si];decide
 have aa:=qI (ops:=kI) (listed:=listed) (i:=7) (by rw[si];decide) f.ky L;have hw:=vN (P:=Tryz.prog) (mn:=true) (R:=RK Tryz.link.tWg B.Wg V0) (S:=V0) (ops:=kI) (val:=v10 p B ret) (fix:=po B) (T:=36) (sp:=fun i=>i == 7) (L0:=fun _=>true) (Sok:=MF p B V0) (b:=wf) (k:=[.code .ret]) (cs:=c::cs)
  RK.trans (fun w w₁ h hF=>hF.keep h.keep) zN (by decide) (fun i o listed a w s hr j3 f hF=>by
   by_cases e:i=8
   ·subst e;obtain⟨A,C⟩:=KD (w:=w) s hr f;exact⟨A,fun e he=>(C e he).elim⟩
   ·exact CK i o listed a w s hr (by simp only[xX]at *;simp at j3 ⊢;exact⟨j3,e⟩) f hF) fuel t _ _ w Y (fun j q=>by
    obtain rfl:j=7:=by simpa using q
    rw[mg _ _ _ z,dj rfl]) hF (by omega)
 refine j8.goes (W:=fun _=>False) M y (Goes.u7 (fun _ _ _ h=>DM.CL h) hw) fun g' w' hs hsz D hh=>?_
 obtain⟨ab,E,u,m,F,⟨i,H,t2,hi,I,ad,rfl⟩|⟨x,rfl⟩⟩:=hs
 ·have:=xO m.ky I;rw[F i hi]at this
  cases this
 ·have n:w'.heap=w.heap:=by
   apply dJ;intro i;exact hh i id
  refine j8.c0 rfl (fun w=>stepG_region_end) fun w1 A o1=>?_
  refine j8.c0 rfl (fun w=>stepG_ret') fun w2 C o2=>?_
  refine j8.c0 (g':=G (c.finish ret) cs) rfl (fun w=>?_) fun w3 h3 o3=>k w3 (h3.trans (C.trans (A.trans n))) (o3.trans (o2.trans (o1.trans D)))
  have d:Tryz.f35.results=#[.tmp 4]:=rfl;obtain⟨o8,J,K⟩:=KE;have h4:E.tmps.getD 4 undef=ret:=by
   have:=m.val 8 o8 4 J (x 8 (by rw[si];decide)) K;rw[du,this];rfl
  have:=stepG_leave (P:=Tryz.prog) (main:=true) (b:=wf) (a:=E) (todo:=[.code .ret]) (c:=c) (cs:=cs) (w:=w) (v:=E.tmps.getD 4 undef) rfl m.defers Tryz.func35 (fw d _ _ _) (fy d _ _);rw[h4]at this;exact this
end
end
section
open Go.Conc Go.ConcN Go.Conc.Lib Go.ConcR.Gen Go.ConcN.Gen Go.Proofs.YtjnkcibpkkjniaaGreat.j7
open Go.ConcR (KK wgBlock WgAt stA smA rd wr mk DC0)
variable [Scope]
section
variable {p:WI} {B:WB} {Shun:Loc→Prop} {V0:Nat→Prop} {us cs:List Frame} {c:Frame} {wo:World} {RB:Nat} {rep:Array Value} {v8 v15 v16 v17 v18 v19 v20 v21 v22 v23 v24:Value} {Q:Goroutine→World→Prop} {msg v:Nat→Value} {cap sent r:Nat} {wait got:List Nat}
theorem MF.old{w:World}(hF:MF p B V0 wo)(e:sq B.CB RB wo w)(d:∀b,V0 b→b<wo.heap.size∧b≠B.CB∧b≠RB):MF p B V0 w :=
 hF.keep fun b hb=>e.heap b (d b hb).1 (d b hb).2.1 (d b hb).2.2
theorem KG(hS:∀b,V0 b∨b=RB∨wo.heap.size≤b→∀l,kL b l→¬Shun l)(Z:∀b,V0 b→b<wo.heap.size∧b≠B.CB∧b≠RB)(F:RB≠B.CB)(hF:MF p B V0 wo)(hU:zR p B (c::cs) us)(hC:wo.heap[B.CB]?=some (.chan cap (wait.map msg).toArray false sent r false))(hR:wo.heap[RB]?=some (.cells rep 140))(hL:td p rep v got)(hN:wait.length<2147483647)(hA:∀i∈wait,i<p.xl∧zU (v i)∧msg i=.agg (#[.int .i64 i]++(v i).cells))(kk:∀w' e,w'.heap[RB]?=some (.cells e 140)→td p e v (got++wait)→sq B.CB RB wo w'→j8 Tryz.prog Any Shun Q (G (c.finish (kx p RB)) cs) w'):j8 Tryz.prog Any Shun Q (G (mw.at ⟨GT p B RB v8 (.chan (some B.CB)) (.chan (some B.CF)) (.tuple #[.int .i64 1,.bool false,lG,nJ]) v15 v16 v17 v18 v19 v20 v21 v22 v23 v24,[]⟩ [.inRegion qR [1,2,3],.code nE,.inBlock 1,.inLoop mG,.inBlock 0]) us) wo:=by
 have u:RB<wo.heap.size:=(dp.1 hR).1;have H:B.CB<wo.heap.size:=(dp.1 hC).1;have j:∀b,b=RB→∀l,kL b l→¬Shun l:=fun b hb=>hS b (.inr (.inl hb))
 refine j8.goes (ty:=Tryz.link.tWg) (Wg:=B.Wg) (V:=fun b=>b=RB) (W:=fun _=>False) j (fun b hb=>by rw[hb];exact u) (Kq (B:=B) ⟨rfl,hR⟩) (fun g1 w1 x hsz I hh=>?_);obtain⟨J,rfl⟩:=x;have k:sq B.CB RB wo w1:=⟨Nat.le_of_eq hsz.symm,I,fun b _ _ _=>hh b id⟩;have y:=(hh B.CB id).trans hC;refine Ks y fun d=>?_
 have K:((wait.map msg).toArray.size:Int)=((wait.length:Nat):Int):=by simp
 rw[K];refine j8.goes (ty:=Tryz.link.tWg) (Wg:=B.Wg) (V:=fun b=>b=RB) (W:=fun _=>False) j (fun b hb=>by rw[hb];show RB<w1.heap.size;omega) (Kt (B:=B) (w:=w1.at d) ⟨rfl,J.o⟩) (fun g2 w2 x z A C=>?_);obtain⟨L,rfl⟩:=x;have M:sq B.CB RB wo w2:=⟨by rw[z];exact k.size,A.trans k.os,fun b m n q=>(C b id).trans (k.heap b m n q)⟩;have O:=(C B.CB id).trans (show(w1.at d).heap[B.CB]?=_ from y);refine KA (wo:=wo) hN (fun b hb=>hS b (.inr hb)) F u H wait got 0 (by omega) O L.o hL hA M fun w3 e v9 lp lK v30 kX kY kZ la lq lr ld R S h=>?_
 refine j8.goes (ty:=Tryz.link.tWg) (Wg:=B.Wg) (V:=fun b=>b=RB) (W:=fun _=>False) j (fun b hb=>by have:=h.size;rw[hb];omega) (KB (B:=B) ⟨rfl,R⟩) (fun g4 w4 x D E T=>?_);obtain⟨U,rfl⟩:=x;have s:sq B.CB RB wo w4:=⟨by rw[D];exact h.size,E.trans h.os,fun b m n q=>(T b id).trans (h.heap b m n q)⟩;obtain⟨a,listed,fuel,t,ht,hr,h8,hu,rfl⟩:=hU;unfold xY;refine KC (ret:=kx p RB) (by simp[GE,GD]) fun w5 X o5=>?_
 have f:sq B.CB RB wo w5:=⟨by rw[X];exact s.size,o5.trans s.os,fun b m n q=>by rw[X];exact s.heap b m n q⟩;refine KF (V0:=V0) (fun b hb=>hS b (.inl hb)) (fun b hb=>dA (Z b hb).1 f.size) (hF.old f Z) ht hr h8 hu fun w6 Y o6=>?_
 exact kk w6 e (by rw[Y,X];exact U.o) S ⟨by rw[Y];exact f.size,o6.trans f.os,fun b m n q=>by rw[Y];exact f.heap b m n q⟩
end
end
end Go.Proofs.YtjnkcibpkkjniaaGreat.kj
namespace Go.Proofs.YtjnkcibpkkjniaaGreat.j7
inductive Nm:Value→Nat→Prop
 |ptr (a:Addr):Nm (.pointer (some a)) a.block
 |slice (a:Addr) (l c:Nat):Nm (.slice (some a) l c) a.block
 |map (r:Nat):Nm (.map (some r)) r
 |caps {f:Fn} {xs ys:Array Value} {i:Nat} {v:Value} {b:Nat}:xs[i]?=some v→Nm v b→Nm (.func f xs ys) b
 |CS {f:Fn} {xs ys:Array Value} {i:Nat} {v:Value} {b:Nat}:ys[i]?=some v→Nm v b→Nm (.func f xs ys) b
 |iface {t:TypeId} {v:Value} {b:Nat}:Nm v b→Nm (.iface t v) b
 |agg {xs:Array Value} {i:Nat} {v:Value} {b:Nat}:xs[i]?=some v→Nm v b→Nm (.agg xs) b
 |tuple {xs:Array Value} {i:Nat} {v:Value} {b:Nat}:xs[i]?=some v→Nm v b→Nm (.tuple xs) b
inductive qT (w:World) (A:Array Value):Nat→Prop
 |arg {i:Nat} {v:Value} {b:Nat}:A[i]?=some v→Nm v b→qT w A b
 |cell {b b':Nat} {c:Array Value} {e:TypeId} {fr:Nat×Nat} {i:Nat} {v:Value}:qT w A b→w.heap[b]?=some (.cells c e fr)→c[i]?=some v→Nm v b'→qT w A b'
 |num {b:Nat} {ad:Addr} {lost:Bool}:qT w A b→w.heap[b]?=some (.number ad lost)→qT w A ad.block
 |key {b b':Nat} {es:Array MapEntry} {clk:Nat} {i:Nat} {x:MapEntry}:qT w A b→w.heap[b]?=some (.map es clk)→es[i]?=some x→(Nm x.key b'∨Nm x.val b')→qT w A b'
section
variable [Scope]
theorem VR.named{ρ:jR}{v v':Value}{b:Nat}(d:Nm v b):VR ρ v v'→∃p,ρ b=some p:=by
 intro h
 induction h generalizing b with
 |ptr q=>cases d;obtain⟨_,p,hp,_⟩:=q;exact⟨p,hp⟩
 |slice l c q=>cases d;obtain⟨_,p,hp,_⟩:=q;exact⟨p,hp⟩
 |map hr=>cases d;exact⟨_,hr⟩
 |func _ j _ z _ t u =>
  cases d with
  |caps e d=>obtain⟨v',f⟩:=ox j e;exact t _ _ _ e f d
  |CS e d=>obtain⟨v',f⟩:=ox z e;exact u _ _ _ e f d
 |iface _ m=>cases d with|iface d=>exact m d
 |agg j _ m=>cases d with|agg e d=>obtain⟨v',f⟩:=ox j e;exact m _ _ _ e f d
 |tuple j _ m=>cases d with|tuple e d=>obtain⟨v',f⟩:=ox j e;exact m _ _ _ e f d
 |bool b=>cases d
 |int k n=>cases d
 |string s=>cases d
 |oL=>cases d
 |lW l c=>cases d
 |qk=>cases d
 |qG=>cases d
 |nilFunc=>cases d
 |nilIface=>cases d
 |mN _ y=>cases d;obtain⟨b,x,y⟩:=y;exact⟨_,y⟩
 |hole _ _=>cases d
 |oM _ =>
  cases d with
  | @caps _ _ _ i _ _ e d =>
   match i,e with
   |0,e=>simp at e;subst e;cases d with|iface d=>cases d
   |i+1,e=>simp at e
  |CS e d=>simp at e
theorem jW.named{ρ:jR}{xs ys:Array Value}(h:jW ρ xs ys){i:Nat}{v:Value}{b:Nat}(e:xs[i]?=some v)(f:Nm v b):∃p,ρ b=some p:=by
 obtain⟨v',d⟩:=ox h.size e;exact VR.named f (h.get i v v' e d)
theorem HR.reached{ρ:jR}{w w':World}(h:HR ρ w w')(hw:∀b p,ρ b=some p→p.part=none∨∃ty,p.part=some ⟨0,0,ty⟩){A u:Array Value}(x:jW ρ A u){b:Nat}(hr:qT w A b):∃p,ρ b=some p:=by
 induction hr with
 |arg k f=>exact x.named k f
 |cell _ hb k f m =>
  obtain⟨p,hp⟩:=m;obtain⟨o,o',l,_,d⟩:=h.obj _ p hp;unfold lR at d;rw[hb]at l
  cases l
  rcases hw _ p hp with e|⟨ty,e⟩
  ·rw[e]at d
   cases d with
   |cells n=>exact n.named k f
  ·rw[e]at d;rcases d with⟨_,_,_,c1,q,s,_,j,_,n⟩|⟨c1,q,j,_,_,hr⟩
   ·cases j;exact n.named k f
   ·cases j
    have:=(dp.1 k).1;have F:=hr.size;omega
 |num _ hb m =>
  obtain⟨p,hp⟩:=m;obtain⟨o,o',l,_,d⟩:=h.obj _ p hp;unfold lR at d;rw[hb]at l
  cases l
  rcases hw _ p hp with e|⟨ty,e⟩
  rotate_left
  ·rw[e]at d;rcases d with⟨_,_,_,c1,q,s,_,j,_,n⟩|⟨c1,q,j,_,_,hr⟩<;>cases j
  rw[e]at d
  cases d with
  |number z=>obtain⟨_,p2,t,_⟩:=z;exact⟨p2,t⟩
 |key _ hb k f m =>
  obtain⟨p,hp⟩:=m;obtain⟨o,o',l,_,d⟩:=h.obj _ p hp;unfold lR at d;rw[hb]at l
  cases l
  rcases hw _ p hp with e|⟨ty,e⟩
  rotate_left
  ·rw[e]at d;rcases d with⟨_,_,_,c1,q,s,_,j,_,n⟩|⟨c1,q,j,_,_,hr⟩<;>cases j
  rw[e]at d
  cases d with
  | @map es ES clk C D =>
   obtain⟨y,E⟩:∃y,ES[_]?=some y:=⟨_,dq (by rw[←C];exact(dp.1 k).1)⟩;obtain⟨k1,k2,_⟩:=D _ _ _ k E;rcases f with f|f
   ·exact VR.named f k1
   ·exact VR.named f k2
theorem jW.diag{ρ:jR}{xs:Array Value}(h:∀(i:Nat) v,xs[i]?=some v→VR ρ v v):jW ρ xs xs:=⟨rfl,fun i v v' a b=>by rw[a]at b;cases b;exact h i v a⟩
end
end Go.Proofs.YtjnkcibpkkjniaaGreat.j7
