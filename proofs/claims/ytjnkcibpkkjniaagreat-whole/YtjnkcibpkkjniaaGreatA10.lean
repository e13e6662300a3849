import Derived.Test.YtjnkcibpkkjniaaGreatA00
import Derived.Test.YtjnkcibpkkjniaaGreatA09
import Derived.Conc.TokenWalk
set_option linter.all false
set_option maxHeartbeats 8000000
set_option maxRecDepth 100000
namespace Go.Proofs.YtjnkcibpkkjniaaGreat
def hD:=@Go.Conc.listed_none
end Go.Proofs.YtjnkcibpkkjniaaGreat
namespace Go.Proofs.YtjnkcibpkkjniaaGreat.kj
section
open Go.Conc Go.ConcN Go.Proofs.YtjnkcibpkkjniaaGreat.j7
open Go.ConcR (KK wgBlock WgAt stA smA rd wr DC0)
variable [Scope]
section
variable {X:Ctx} {s:St} {n:Nat} {gs:Array Goroutine} {w w':World} {sl:Option (Nat×Nat)} {t:Trace} {a a':Goroutine}
structure qv (s s':St) (w w':World):Prop where
 j:s'.j=s.j
 V:s'.V=s.V
 W:s'.W=s.W
 sp:s'.tag=.sp↔s.tag=.sp
 got:s'.got=s.got
 val:∀i∈s.got,(s'.D i).v=(s.D i).v
 heap:∀b,s.V b→¬s.W b→w'.heap[b]?=w.heap[b]?
theorem Same.vX{s':St}(h:Same s s' w w'):qv s s' w w':=⟨h.j,h.V,h.W,h.sp,h.got,h.val,h.heap⟩
theorem qv.trans{s s' d:St}{w w' e:World}(h:qv s s' w w')(k:qv s' d w' e):qv s d w e :=
 ⟨k.j.trans h.j,k.V.trans h.V,k.W.trans h.W,k.sp.trans h.sp,k.got.trans h.got,fun i f=>(k.val i (h.got▸f)).trans (h.val i f),fun b hb hw=>(k.heap b (h.V▸hb) (h.W▸hw)).trans (h.heap b hb hw)⟩
variable {m:Nat}
theorem Goes.dm{V W:Nat→Prop}{R:World→World→Prop}{Stop:Goroutine→World→Prop}(h:Goes X.P true R DC0 Stop m a w):Goes X.P true R (DM V W) Stop m a w:=Goes.u7 (fun _ _ _=>DM.pF) h
variable {Next:Goroutine→World→Prop}
theorem At.says[ki X.P][lu X.P](C:X.Good)(h:At X s w a){e:Event}(f:∀w₁,RK X.N.ty X.N.Wg s.V w w₁→oy X.P true (RK X.N.ty X.N.Wg s.V) e Next a w₁)(q:∀s1,(s1.tag=.sp↔s.tag=.sp)→∀B,X.N.Wg<B→Ev0 X s1 B e∧(MemAct.ofEvent e).low B∧e.loc≠.mark (.release (stA X.N.Wg))):∃s' w' a',At X s' w' a'∧(∃m,Goes X.P true (RK X.N.ty X.N.Wg s'.V) DC0 Next m a' w')∧qv s s' w w'∧s'.p=s.p∧s'.d0=deafBehind s.d0 #[e]:=by
 obtain⟨s',w',a',k1,k2⟩:=h.go C (f w (RK.refl w)).1 (Post:=fun s' w' a'=>(∃m,Goes X.P true (RK X.N.ty X.N.Wg s'.V) DC0 Next m a' w')∧qv s s' w w'∧s'.p=s.p∧s'.d0=deafBehind s.d0 #[e]) fun s1 w1 d k=>by
  obtain⟨J,D,t1,k⟩:=k;obtain⟨_,a',E,m,F⟩:=f w1 (k.rk d);have y:(fun b=>s1.V b∨(w1.heap.size≤b∧b<w1.heap.size))=s.V:=funext fun b=>(propext ⟨fun h=>h.elim id fun h=>by omega,.inl⟩).trans (congrFun d.V b)
  have G:(fun b=>s1.W b∨(w1.heap.size≤b∧b<w1.heap.size))=s.W:=funext fun b=>(propext ⟨fun h=>h.elim id fun h=>by omega,.inl⟩).trans (congrFun d.W b)
  refine⟨a',w1,#[e],_,E,dx _,rfl,fun _ _ _=>rfl,fun x hx=>?_,rfl,fun tag' H I=>⟨⟨m,?_⟩,⟨d.j,y,G,I.trans d.sp,d.got,d.val,fun b hb _=>d.heap b hb⟩,d.p,by rw[←d.d0]⟩⟩
  ·rw[gT]at hx;subst hx;exact q s1 d.sp _ k.j2.kq.1
  ·show Goes X.P true (RK X.N.ty X.N.Wg fun b=>s1.V b∨(w1.heap.size≤b∧b<w1.heap.size)) DC0 Next m a' w1;rw[y];exact F
 exact⟨s',w',a',k1,k2⟩
theorem At.add[ki X.P][lu X.P](y:X.Good)(h:At X s w a)(ak:∀g w,Next g w→g.status=.running)(j3:s.tag=.sp)(hp:s.p=0)(hd:s.d0=0)(hj:s.j<X.N.n)(hG:Goes X.P true (RK X.N.ty X.N.Wg s.V) DC0 (Ca X.P true (RK X.N.ty X.N.Wg s.V) X.N.ty X.N.Wg Next) m a w):∃s' w' a',At X s' w' a'∧(∀w₁,RK X.N.ty X.N.Wg s'.V w' w₁→Next a' w₁)∧qv s s' w w'∧s'.p=1∧s'.d0=0:=by
 have C:∀{m:Mark},(m=.disable∨m=.enable)→∀s1:St,∀B,X.N.Wg<B→Ev0 X s1 B (Go.ConcR.mk m)∧(MemAct.ofEvent (Go.ConcR.mk m)).low B∧(Go.ConcR.mk m).loc≠.mark (.release (stA X.N.Wg)):=fun hm s1 B hB=>by
  rcases hm with rfl|rfl
  ·exact⟨fun x hx=>by simp[Go.ConcR.mk,MemAct.ofEvent,MemAct.touch?]at hx,trivial,by simp[Go.ConcR.mk]⟩
  ·exact⟨fun x hx=>by simp[Go.ConcR.mk,MemAct.ofEvent,MemAct.touch?]at hx,trivial,by simp[Go.ConcR.mk]⟩
 obtain⟨s1,w1,a1,h1,q1,r1⟩:=h.walk y (fun g w k=>k.1) (Goes.dm hG);rw[←r1.V]at q1;obtain⟨s2,w2,a2,h2,⟨m2,q2⟩,r2,al,I⟩:=h1.says y q1 fun s1 _=>C (.inl rfl) s1
 rw[r1.d0,hd]at I;have I:s2.d0=1:=I;obtain⟨q,w3,a3,h3,q3,r3⟩:=h2.walk y (fun g w k=>k.1) (Goes.dm q2);have J:qv s q w w3:=(r1.vX.trans r2).trans r3.vX;have aa:q.tag=.sp:=J.sp.2 j3;have am:q.p=0:=by rw[r3.p,al,r1.p,hp]
 have an:q.d0=1:=by rw[r3.d0,I]
 have ao:s1.V=q.V:=r1.V.trans J.V.symm;obtain⟨n3,aE,aF,t3,ap⟩:=h3;obtain⟨n4,f,aG,w4,aH,t4,d,aq,f1,f2,f3,f4,f5⟩:=ap.turn y (q3 w3 (RK.refl w3)).1;have E:f.tag=.sp:=f2.sp.2 aa;have ar:f.p=0:=f2.p.trans am;have aI:f.j<X.N.n:=by rw[f2.j,J.j];exact hj
 obtain⟨st,sm,O,au⟩:=f4.wg;obtain⟨rfl,rfl,av,_⟩:=au.opened (by rw[E];trivial);rw[ar,gN]at O;have aJ:=Vc_le f.j f.D;have aD:=y.pX;obtain⟨_,hA⟩:=q3 (w4.at d) (f4.rk f2);obtain⟨a5,e1,e2,e3⟩:=hA (Vc f.j f.D) (by omega) O;have K:=uf (X:=X) (a:=stA X.N.Wg) rfl (.inl rfl);have ab:((Vc f.j f.D:Nat):Int)+1=((Vc f.j f.D+1:Nat):Int):=by omega
 obtain⟨L,F⟩:∃x,x=(w4.at d).setCell (stA X.N.Wg) (.int .u64 ((((Vc f.j f.D:Nat):Int)+1)*KK)):=⟨_,rfl⟩;have ae:L.heap.size=(w4.at d).heap.size:=by rw[F];simp[World.setCell]
 have G:∀b,b≠X.N.Wg→L.heap[b]?=(w4.at d).heap[b]?:=fun b hb=>by rw[F];exact rH _ _ _ hb
 have af:L.os=(w4.at d).os:=by rw[F];rfl
 have ag:WgAt X.N.ty X.N.Wg L ((((Vc f.j f.D:Nat):Int)+1)*KK) 0:=by rw[F];exact O.setSt _
 rw[←F]at e1 e2 e3;have M:∀tag',(tag'=f.tag∨(f.tag=.blk∧tag'=.w3))→Mode f.j 1 f.D tag' ((((Vc f.j f.D:Nat):Int)+1)*KK) 0:=fun tag' ht=>by
  have:tag'=.sp:=(oS ht).2 E;subst this;rw[ab];exact .opn trivial av fun vs e=>by cases e
 have ah:∀e∈#[rd (stA X.N.Wg),wr (stA X.N.Wg)],Ev0 X f (w4.at d).heap.size e:=fun e he x hx aw=>by
  rcases K.1 e he with k|⟨ad,wr,rfl,k⟩
  ·rw[k]at hx;cases hx
  ·have:x=⟨.cell ad,wr,.atomic⟩:=by cases wr<;>simp[MemAct.ofEvent,MemAct.touch?]at hx<;>exact hx.symm
   subst this;exact .inl ⟨.inl ⟨ad,rfl,k⟩,by simp,by simp⟩
 obtain⟨tag',aK,k1,k2⟩:=f4.Cw y f1.main (a':=a5) (es:=#[rd (stA X.N.Wg),wr (stA X.N.Wg)]) f5 (w':=L) (by omega) af (fun b _ hb _=>G b hb) (p':=1) (d0':=1) (by omega) (fun k=>absurd E k) ag M ah
  (K.2.1 _ (by rw[ae];exact f4.j2.kq.1)) K.2.2.1 (by rw[f2.d0,an];exact K.2.2.2.1)
 have eV:(fun b=>f.V b∨((w4.at d).heap.size≤b∧b<L.heap.size))=q.V:=funext fun b=>(propext ⟨fun h=>h.elim id fun h=>by omega,.inl⟩).trans (congrFun f2.V b)
 have eW:(fun b=>f.W b∨((w4.at d).heap.size≤b∧b<L.heap.size))=q.W:=funext fun b=>(propext ⟨fun h=>h.elim id fun h=>by omega,.inl⟩).trans (congrFun f2.W b)
 have ax:∃Y,At X Y L a5∧qv s Y w L∧Y.p=1∧Y.d0=1∧Y.V=q.V:=by
  refine⟨_,⟨n4+1,_,aq,_,oh f1.run (f3.trans (eZ (P:=X.P) (i:=0) f1.main e1)),k2,by rw[gJ _ _ _ (dp.1 f1.main).1]⟩,J.trans ⟨f2.j,eV,eW,((oS k1).trans (f2.sp)),f2.got,f2.val,fun b hb hw=>?_⟩,rfl,rfl,eV⟩;have ay:b≠X.N.Wg:=fun e=>by
   have:=f4.j2.v b (by rw[f2.V];exact hb);exact this.2.1 e
  exact(G b ay).trans (f2.heap b hb)
 clear k2 k1;obtain⟨Y,h5,r5,ai,aj,R⟩:=ax;rw[ao]at e2 e3;have last:∀{Z:St}{w6:World}{a6:Goroutine},At X Z w6 a6→qv s Z w w6→Z.p=1→Z.d0=1→Z.V=q.V→(∃m,Goes X.P true (RK X.N.ty X.N.Wg q.V) DC0 (oy X.P true (RK X.N.ty X.N.Wg q.V) (Go.ConcR.mk .enable) Next) m a6 w6) →
   ∃s' w' a',At X s' w' a'∧(∀w₁,RK X.N.ty X.N.Wg s'.V w' w₁→Next a' w₁)∧qv s s' w w'∧s'.p=1∧s'.d0=0:=by
  intro Z w6 a6 h6 r6 az aA aB ⟨m6,q6⟩;rw[←aB]at q6;obtain⟨s7,w7,a7,h7,q7,H⟩:=h6.walk y (fun g w k=>k.1) (Goes.dm q6);rw[←H.V]at q7;obtain⟨s8,w8,a8,h8,⟨m8,q8⟩,r8,T,U⟩:=h7.says y q7 fun s1 _=>C (.inr rfl) s1
  obtain⟨s9,w9,a9,h9,q9,r9⟩:=h8.walk y ak (Goes.dm q8);exact⟨s9,w9,a9,h9,q9,((r6.trans H.vX).trans r8).trans r9.vX,by rw[r9.p,T,H.p,az],by rw[r9.d0,U,H.d0,aA];rfl⟩
 by_cases hv:Vc f.j f.D=0
 ·obtain⟨m6,q6⟩:=e2 hv;rw[←R]at q6;obtain⟨s7,w7,a7,h7,q7,H⟩:=h5.walk y (fun g w k=>k.1) (Goes.dm q6);rw[←H.V]at q7;obtain⟨s8,w8,a8,h8,q8,r8,T,U⟩:=h7.says y q7 fun s1 aC B hB=>⟨fun x hx aw=>by
   have:x=⟨.cell (smA X.N.Wg),false,.said⟩:=by simp[MemAct.ofEvent,MemAct.touch?]at hx;exact hx.symm
   subst this;exact .inl ⟨.inl ⟨_,rfl,rfl⟩,by simp,fun _=>aC.2 (H.sp.2 (r5.sp.2 j3))⟩,hB,by simp⟩
  have e7:s7.V=q.V:=H.V.trans R;rw[r8.V,e7]at q8;exact last h8 ((r5.trans H.vX).trans r8) (by rw[T,H.p,ai]) (by rw[U,H.d0,aj];rfl) (r8.V.trans e7) q8
 ·exact last h5 r5 ai aj R (e3 hv)
end
end
section
open Go.Conc Go.ConcN Go.Proofs.YtjnkcibpkkjniaaGreat.j7
open Go.ConcR (KK wgBlock WgAt stA smA rd wr DC0)
variable [Scope]
variable {P:Program} {i:Nat}
theorem WSit.Jx{N:mE}{pk:Machine→Nat×Nat×Option (Nat×Nat)}{m0:Machine}{t0:Trace}{Gt:Nat→Tape}{J q:Nat→lC}{n:Nat}{d:WD}{g:Goroutine}{w:World}(e:q i=J i)(h:WSit P N pk m0 t0 Gt J i n d g w):WSit P N pk m0 t0 Gt q i n d g w:=by
 cases h with
 |pre k f=>rw[←e]at k f ⊢;exact .pre k f
 |rE k f y G C D E F=>rw[←e]at y C D E F;exact .rE k f y G C D E F
 |post k f=>rw[←e]at k f;exact .post k f
 |r0 k f=>rw[←e]at k f;exact .r0 k f
 |k1 k f=>rw[←e]at k f;exact .k1 k f
 |d1 k f=>rw[←e]at k f;exact .d1 k f
 |d2 k f=>rw[←e]at k f;exact .d2 k f
 |d3 k f=>rw[←e]at k f;exact .d3 k f
 |d4 k f=>rw[←e]at k f;exact .d4 k f
 |quit k f=>rw[←e]at f;exact .quit k f
def lC.kF (J:lC) (S:Nat→Prop):lC:={ J with S:=S }
def Ctx.kF (X:Ctx) (j:Nat) (S:Nat→Prop):Ctx:={ X with J:=upd X.J j ((X.J j).kF S) }
theorem lC.Good.kF{J:lC}(h:J.Good P)(S:Nat→Prop):(J.kF S).Good P:=⟨h.Cj,h.rel,h.calls,h.shape⟩
variable {X:Ctx} {j:Nat} {S:Nat→Prop}
theorem vb(h:i≠j):(X.kF j S).J i=X.J i:=fi _ _ h
theorem se:(X.kF j S).J j=(X.J j).kF S:=fg _ _ _
theorem zD(i:Nat):((X.kF j S).J i).ρ=(X.J i).ρ∧((X.kF j S).J i).wS=(X.J i).wS∧((X.kF j S).J i).msg=(X.J i).msg:=by
 by_cases h:i=j
 ·subst h;rw[se];exact⟨rfl,rfl,rfl⟩
 ·rw[vb h];exact⟨rfl,rfl,rfl⟩
theorem Ctx.Good.kF{X:Ctx}(h:X.Good)(j:Nat)(S:Nat→Prop):(X.kF j S).Good where
 sync:=h.sync
 pos:=h.pos
 pW:=fun i d=>by
  by_cases e:i=j
  ·subst e;rw[se];exact(h.pW i d).kF S
  ·rw[vb e];exact h.pW i d
 anch:=h.anch
 sT:=h.sT
 glue:=h.glue
 pX:=h.pX
 xP:=h.xP
 kq:=h.kq
 oz:=h.oz
section
variable {X:Ctx} {s:St} {n:Nat} {gs:Array Goroutine} {w w':World} {sl:Option (Nat×Nat)} {t:Trace} {a a':Goroutine}
theorem Cx(t:Trace)(fn:FuncId)(pos:String)(k:Nat)(x y:MemOp):t++((MemOp.ofEvents 0 fn pos #[]).push x |>.push y)=t++#[x,y]:=by
 simp[gF]
theorem At.fork[ki X.P][lu X.P](hX:X.Good)(h:At X s w a)(hr:a.status=.running)(j3:s.tag=.sp)(hp:s.p=1)(hd:s.d0=0)(hj:s.j<X.N.n){S':Nat→Prop}(hS:∀b,S' b→s.V b){Post:Goroutine→World→Prop}(hgo:∀w₁,RK X.N.ty X.N.Wg s.V w w₁→∃a' child,stepG X.P true a w₁=.spawn a' child w₁ #[]∧(∃m,Goes X.P false (RK X.N.ty X.N.Wg S') (DQ S') (xM X.P X.N ((X.J s.j).kF S')) m child w₁)∧Post a' w₁):∃s' w' a',At (X.kF s.j S') s' w' a'∧Post a' w'∧s'.j=s.j+1∧s'.p=0∧s'.d0=0∧s'.V=s.V∧s'.W=(fun b=>s.W b∧¬S' b)∧s'.tag=.sp∧s'.got=s.got∧∀b,s.V b→w'.heap[b]?=w.heap[b]?:=by
 obtain⟨n,gs,sl,t,hn⟩:=h;obtain⟨n1,s1,O,w1,aC,t1,d,ak,f1,f2,f3,f4,f5⟩:=hn.turn hX hr;obtain⟨a',child,e1,⟨m,e2⟩,e3⟩:=hgo (w1.at d) (f4.rk f2);have hB:=hX.pos;have f:s1.tag=.sp:=f2.sp.2 j3;have au:s1.p=1:=f2.p.trans hp;have al:s1.d0=0:=f2.d0.trans hd;have aa:s1.j=s.j:=f2.j;have hsz:=f4.size.1 f;have K:=f4.j2;have hT:=runT_crowd_spawn (P:=X.P) (sl:=ak) (i:=0) f1.main e1;rw[hsz]at hT;have af:=f4.un s.j (by omega) hj;have ar:child.status=.running:=by
  have:=(WSit.pre (pk:=X.pk) (m0:=X.m0) (t0:=X.t0) (Gt:=X.Gt) (J:=(X.kF s.j S').J) (i:=s.j) (n:=n1+1) (by rw[se];exact e2) (by rw[se];exact af.2)).runs (by simp);exact this
 generalize hx:({ g:=0,fn:=a.frame.fn,pos:=a.frame.place,act:=.go (X.N.B+s1.j) }:MemOp)=x at hT;generalize hy:({ g:=X.N.B+s1.j,fn:=child.frame.fn,pos:=a.frame.place,act:=.start }:MemOp)=y at hT;have T:x.g=0∧x.act=.go (X.N.B+s1.j):=by subst hx;exact⟨rfl,rfl⟩
 have U:y.g=X.N.B+s1.j∧y.act=.start:=by subst hy;exact⟨rfl,rfl⟩
 have am:∀op∈#[x,y],op.act≠.mark .disable∧op.act≠.mark .enable:=fun op F=>by
  simp only[fI,fJ,fK,fL]at F;rcases F with rfl|rfl
  ·rw[T.2];simp
  ·rw[U.2];simp
 have an:∀op∈#[x,y],op.act.touch? = none:=fun op F=>by
  simp only[fI,fJ,fK,fL]at F;rcases F with rfl|rfl
  ·rw[T.2];rfl
  ·rw[U.2];rfl
 have E:∀k,Deaf (t1++#[x,y]) k=Deaf t1 k:=fun k=>gO t1 k _ am
 have ao:Deaf t1 (X.N.B+s1.j)=0:=f4.fresh _ (by omega);obtain⟨st,sm,hw,hm⟩:=f4.wg;obtain⟨rfl,rfl,ho,_⟩:=hm.opened (by rw[f];trivial);have H:∀i,i<s1.j→upd s1.D s.j (⟨10,m,0,(X.J s.j).ρ,undef⟩:WD) i=s1.D i:=fun i I=>fi _ _ (by omega)
 have ab:∀i,(upd s1.D s.j (⟨10,m,0,(X.J s.j).ρ,undef⟩:WD) i).ρ=(s1.D i).ρ:=fun i=>by
  by_cases e:i=s.j
  ·subst e;rw[fg];exact af.1.symm
  ·rw[fi _ _ e]
 have ap:∀b,S' b→s1.V b:=fun b hb=>by rw[f2.V];exact hS b hb
 refine⟨{ s1 with j:=s1.j+1,p:=0,D:=upd s1.D s.j ⟨10,m,0,(X.J s.j).ρ,undef⟩,W:=fun b=>s1.W b∧¬S' b },w1.at d,a',⟨n1+1,(O.setIfInBounds 0 a').push child,ak,t1++#[x,y],?_,?_,?_⟩,e3,by simp only[aa],rfl,al,f2.V,by simp only[f2.W],f,f2.got,f2.heap⟩
 ·have:=oh f1.run (f3.trans hT);rw[Cx t1 _ _ 0]at this;exact this
 ·refine⟨⟨fun _=>?_,fun e=>absurd f e⟩,?_,fun i g h0 h1 h2=>?_,fun i I=>?_,fun i h1 h2=>?_,fun e=>absurd f e,by rw[E];exact f4.hear,fun j hj=>?_,⟨_,_,hw,?_⟩,?_,f4.nodup,fun i=>?_,f4.fin,?_,?_,?_,fun i I ag=>?_,fun e=>?_,fun e=>?_,?_,f4.base,f4.os⟩
  ·simp only[gW,gG,hsz];rfl
  ·simp only;show s1.j+1+0≤X.N.n;omega
  ·have av:i<X.N.B:=h1;rw[gX (by simp;omega),←dq,dI (by omega)]at h2;rw[E];exact f4.lv i g h0 h1 h2
  ·have L:i<s1.j+1:=I;have aD:(X.kF s.j S').N=X.N:=rfl;rcases fC i s1.j with C|ad
   ·obtain⟨g,k1,k2,k3⟩:=f4.wk i C;refine⟨g,?_,?_,by rw[E];simp only[H i C];exact k3⟩
    ·show((O.setIfInBounds 0 a').push child)[X.N.B+i]?=_;rw[gX (by simp;omega),←dq,dI (by omega)];exact k1
    ·simp only[H i C];exact WSit.Jx (vb (by omega)) (k2.rely hX.sync (f5 i (by omega)) (RK.refl _) (Leaves.refl _ _) rfl)
   ·obtain rfl:i=s.j:=by omega
    refine⟨child,?_,?_,?_⟩
    ·show((O.setIfInBounds 0 a').push child)[X.N.B+s.j]?=_;rw[show X.N.B+s.j=(O.setIfInBounds 0 a').size by simp[hsz,aa],Array.getElem?_push_size]
    ·simp only[fg];have ae:=WSit.pre (P:=X.P) (N:=X.N) (pk:=X.pk) (m0:=X.m0) (t0:=X.t0) (Gt:=X.Gt) (J:=(X.kF s.j S').J) (i:=s.j) (n:=n1+1) (by rw[se];exact e2) (by rw[se];exact af.2);rw[se]at ae;exact ae
    ·rw[E];simp only[fg];show Deaf t1 (X.N.B+s.j)=0;rw[←aa];exact ao
  ·have av:s1.j+1≤i:=h1;have aw:i<X.N.n:=h2;have hu:=f4.un i (by omega) aw;simp only[fi s1.D (⟨10,m,0,(X.J s.j).ρ,undef⟩:WD) (show i≠s.j by omega),(zD (X:=X) (j:=s.j) (S:=S') i).1,(zD (X:=X) (j:=s.j) (S:=S') i).2.1];exact hu
  ·rw[E];simp only[gW,gG]at hj;exact f4.fresh j (by omega)
  ·have hv:Vc (s1.j+1) (upd s1.D s.j (⟨10,m,0,(X.J s.j).ρ,undef⟩:WD))=Vc s1.j s1.D+1:=by
    unfold Vc;rw[sumTo,sumTo_congr (g:=fun i=>cnt (s1.D i)) fun i I=>by rw[H i I],aa,fg];rfl
   rw[au,←hv];have:=Mode.opn (p:=0) (D:=upd s1.D s.j (⟨10,m,0,(X.J s.j).ρ,undef⟩:WD)) (j:=s1.j+1) (tag:=s1.tag) (by rw[f];trivial) (fun i I=>?_) (fun vs e=>by rw[f]at e;cases e)
   ·rw[gN]at this;exact this
   ·rcases fC i s1.j with C|ad
    ·rw[H i C];exact ho i C
    ·rw[show i=s.j by omega,fg];exact .inl (by simp)
  ·have hl:(s1.wait.map fun i=>((X.kF s.j S').J i).msg (upd s1.D s.j (⟨10,m,0,(X.J s.j).ρ,undef⟩:WD) i).v)=s1.wait.map fun i=>(X.J i).msg (s1.D i).v:=gK fun i I=>by
    have:=((f4.list i).1 (gL _ I)).1;rw[H i this,(zD i).2.2]
   simp only;rw[hl];exact f4.back
  ·rw[f4.list];simp only;constructor
   ·rintro⟨k1,k2⟩;exact⟨by omega,by rw[H i k1];exact k2⟩
   ·rintro⟨k1,k2⟩;rcases fC i s1.j with C|ad
    ·rw[H i C]at k2;exact⟨C,k2⟩
    ·rw[show i=s.j by omega,fg]at k2;simp at k2
  ·have eR:∀k,KP X s1 k→rG (X.kF s.j S') k=rG X k:=fun k R=>by
    funext l;unfold rG;refine propext (exists_congr fun b=>and_congr_right fun _=>or_congr (exists_congr fun i=>and_congr_right fun I=>and_congr_right fun e=>?_) Iff.rfl);have:i≠s.j:=fun Z=>by
     rcases R with⟨G,a2⟩|⟨G,_⟩
     ·have e2:k=X.N.B+i:=e;omega
     ·exact G f
    rw[vb this]
   have eO:oR (X.kF s.j S') { s1 with j:=s1.j+1,p:=0,D:=upd s1.D s.j ⟨10,m,0,(X.J s.j).ρ,undef⟩,W:=fun b=>s1.W b∧¬S' b }=oR X s1:=by
    funext k l;unfold oR;simp only[ab];rfl
   have eK:KP (X.kF s.j S') { s1 with j:=s1.j+1,p:=0,D:=upd s1.D s.j ⟨10,m,0,(X.J s.j).ρ,undef⟩,W:=fun b=>s1.W b∧¬S' b }=fun k=>KP X s1 k∨k=X.N.B+s1.j:=by
    funext k;refine propext ⟨fun R=>?_,fun R=>?_⟩
    ·rcases R with⟨G,a2⟩|⟨G,_⟩
     ·have ax:X.N.B≤k:=G;have aE:k<X.N.B+(s1.j+1):=a2
      by_cases e:k=X.N.B+s1.j
      ·exact .inr e
      ·exact .inl (.inl ⟨ax,by omega⟩)
     ·exact absurd f G
    ·rcases R with(⟨G,a2⟩|⟨G,_⟩)|e
     ·exact .inl ⟨G,show k<X.N.B+(s1.j+1) by omega⟩
     ·exact absurd f G
     ·exact .inl ⟨show X.N.B≤k by omega,show k<X.N.B+(s1.j+1) by omega⟩
   have ec:np (X.kF s.j S') { s1 with j:=s1.j+1,p:=0,D:=upd s1.D s.j ⟨10,m,0,(X.J s.j).ρ,undef⟩,W:=fun b=>s1.W b∧¬S' b }=np X s1:=rfl;rw[eO,eK,ec];have ay:=f4.tr.congr (Rd':=rG (X.kF s.j S')) (fun _ _=>rfl) eR;have A:Apart (nI X.N) X.Shun (oR X s1) (rG (X.kF s.j S')) (KP X s1):=by
    have A0:=K.vT hX (show s1.j≤X.N.n by omega);exact⟨A0.own,fun k k' l R M=>by rw[eR k' M];exact A0.ownRd k k' l R M,A0.ownSh,fun k l R=>by rw[eR k R];exact A0.rdSh k l R,A0.zero,A0.xJ⟩
   refine PT.fork A ay (k:=X.N.B+s1.j) (by omega) (fun R=>?_) T U (by rw[f4.hear,al]) ao (fun l _ hl=>?_) (fun l _ hl=>?_) (.inl rfl)
   ·rcases R with⟨_,a2⟩|⟨G,_⟩
    ·omega
    ·exact G f
   ·obtain⟨i,I,e,hl⟩:=hl;have az:i=s.j:=by omega
    subst az;obtain⟨b,p,k1,k2⟩:=hl.block;have hb:=K.lt _ hj b p k1;refine⟨fun hs=>?_,K.oz _ hj b p l k1 k2,fun k' M=>⟨fun⟨i',L,Z,ah⟩=>?_,fun⟨b',aA,ai⟩=>?_⟩⟩
    ·rcases hs.block with q|q|q
     ·exact hb.2.2.1 (k2.uniq q)
     ·exact hb.2.2.2.1 (k2.uniq q)
     ·exact hb.2.2.2.2 (k2.uniq q)
    ·rcases M with⟨G,a2⟩|⟨G,_⟩
     ·exact pV.loc hX.sync (K.apart s.j i' hj L (by omega)) hl ah
     ·exact G f
    ·obtain rfl:=k2.uniq aA;refine hb.2.1 ?_;rcases ai with⟨i',L,Z,Y⟩|⟨Z,_⟩
     ·rcases M with⟨G,a2⟩|⟨G,_⟩
      ·have aj:k'=X.N.B+i':=Z;rw[vb (by omega)]at Y;exact(K.sj i' (by omega) _ Y).1
      ·exact absurd f G
     ·rcases M with⟨G,a2⟩|⟨G,_⟩
      ·have aj:k'=X.N.B+X.N.n:=Z;omega
      ·exact absurd f G
   ·obtain⟨b,hb,ai⟩:=hl;have aq:s1.V b:=by
     rcases ai with⟨i',L,Z,Y⟩|⟨Z,_⟩
     ·have aj:X.N.B+s1.j=X.N.B+i':=Z;have:i'=s.j:=by omega
      subst this;rw[se]at Y;exact ap b Y
     ·have aj:X.N.B+s1.j=X.N.B+X.N.n:=Z;omega
    have hv:=K.v b aq;refine⟨fun hs=>?_,hv.2.2.2.2 l hb,fun k' M ⟨i',L,Z,ah⟩=>?_⟩
    ·rcases hs.block with q|q|q
     ·exact hv.2.1 (hb.uniq q)
     ·exact hv.2.2.1 (hb.uniq q)
     ·exact hv.2.2.2.1 (hb.uniq q)
    ·obtain⟨y',p',k1,k2⟩:=ah.block;obtain rfl:=hb.uniq k2;exact(K.lt i' L y' p' k1).2.1 aq
  ·intro op F;rcases dN.1 F with k|k
   ·exact f4.low op k
   ·simp only[fI,fJ,fK,fL]at k;rcases k with rfl|rfl
    ·rw[T.2];trivial
    ·rw[U.2];trivial
  ·exact f4.norel.app fun op F=>by
    simp only[fI,fJ,fK,fL]at F;rcases F with rfl|rfl
    ·rw[T.2];simp
    ·rw[U.2];simp
  ·rcases fC i s1.j with C|ad
   ·simp only[H i C]at ag;obtain⟨r,hr⟩:=f4.rel i C ag;exact⟨r,hr.qu an⟩
   ·have:i<s1.j+1:=I;simp only[show i=s.j by omega,fg]at ag;omega
  ·rw[show({ s1 with j:=s1.j+1,p:=0,D:=upd s1.D s.j ⟨10,m,0,(X.J s.j).ρ,undef⟩,W:=fun b=>s1.W b∧¬S' b }:St).tag=s1.tag from rfl,f]at e;cases e
  ·rw[show({ s1 with j:=s1.j+1,p:=0,D:=upd s1.D s.j ⟨10,m,0,(X.J s.j).ρ,undef⟩,W:=fun b=>s1.W b∧¬S' b }:St).tag=s1.tag from rfl,f]at e;cases e
  ·refine⟨fun i I b p hb=>K.lt i I b p (by rw[←ab i];exact hb),fun i i' h1 h2 aB=>?_,fun i I b p l hb=>K.oz i I b p l (by rw[←ab i];exact hb),K.v,fun b hb=>K.wv b hb.1,fun i I b hb=>?_,fun e=>absurd f e,K.kq,K.old⟩
   ·simp only[ab];exact K.apart i i' h1 h2 aB
   ·have L:i<s1.j+1:=I;rcases fC i s1.j with C|ad
    ·rw[vb (by omega)]at hb;have:=K.sj i C b hb;exact⟨this.1,fun k=>this.2 k.1⟩
    ·rw[show i=s.j by omega,se]at hb;exact⟨ap b hb,fun k=>k.2 hb⟩
 ·show((O.setIfInBounds 0 a').push child)[0]?=some a';have h0:0<O.size:=(dp.1 f1.main).1;rw[gX (by simpa using h0),←dq,ff h0]
end
end
section
open Go.Conc Go.ConcN Go.Proofs.YtjnkcibpkkjniaaGreat.j7
open Go.ConcR (KK wgBlock WgAt stA smA rd wr DC0)
variable [Scope]
section
variable {X:Ctx} {s:St} {n n':Nat} {gs gs':Array Goroutine} {w w':World} {sl:Option (Nat×Nat)} {t u:Trace} {a a':Goroutine}
theorem At.Jy[ki X.P][lu X.P](hX:X.Good)(h:At X s w a)(hr:a.status=.running)(j3:s.tag=.sp)(hp:s.p=0)(hd:s.d0=0)(hj:s.j=X.N.n)(hS:∀b,X.Sc b→s.V b){Post:Goroutine→World→Prop}(hgo:∀w₁,RK X.N.ty X.N.Wg s.V w w₁→∃a' child,stepG X.P true a w₁=.spawn a' child w₁ #[]∧(∃m,Goes X.P false (RK X.N.ty X.N.Wg X.Sc) (DQ X.Sc) (oy X.P false (RK X.N.ty X.N.Wg X.Sc) (Go.ConcR.mk .disable) X.lM) m child w₁)∧Post a' w₁):∃s' w' a',At X s' w' a'∧Post a' w'∧s'.j=X.N.n∧s'.p=0∧s'.d0=0∧s'.V=s.V∧s'.W=(fun b=>s.W b∧¬X.Sc b)∧s'.tag≠.sp∧s'.got=s.got∧∀b,s.V b→w'.heap[b]?=w.heap[b]?:=by
 obtain⟨n,gs,sl,t,hn⟩:=h;obtain⟨n1,s1,I,w1,ah,t1,d,L,f1,f2,f3,f4,f5⟩:=hn.turn hX hr;obtain⟨a',child,e1,⟨m,e2⟩,e3⟩:=hgo (w1.at d) (f4.rk f2);have hB:=hX.pos;have D:s1.tag=.sp:=f2.sp.2 j3;have M:s1.p=0:=f2.p.trans hp;have O:s1.d0=0:=f2.d0.trans hd;have F:s1.j=X.N.n:=f2.j.trans hj;have hsz:=f4.size.1 D;have E:=f4.j2;have hT:=runT_crowd_spawn (P:=X.P) (sl:=L) (i:=0) f1.main e1;rw[hsz,F]at hT;generalize hx:({ g:=0,fn:=a.frame.fn,pos:=a.frame.place,act:=.go (X.N.B+X.N.n) }:MemOp)=x at hT;generalize hy:({ g:=X.N.B+X.N.n,fn:=child.frame.fn,pos:=a.frame.place,act:=.start }:MemOp)=y at hT;have G:x.g=0∧x.act=.go (X.N.B+X.N.n):=by subst hx;exact⟨rfl,rfl⟩
 have H:y.g=X.N.B+X.N.n∧y.act=.start:=by subst hy;exact⟨rfl,rfl⟩
 have R:∀op∈#[x,y],op.act≠.mark .disable∧op.act≠.mark .enable:=fun op C=>by
  simp only[fI,fJ,fK,fL]at C;rcases C with rfl|rfl
  ·rw[G.2];simp
  ·rw[H.2];simp
 have T:∀op∈#[x,y],op.act.touch? = none:=fun op C=>by
  simp only[fI,fJ,fK,fL]at C;rcases C with rfl|rfl
  ·rw[G.2];rfl
  ·rw[H.2];rfl
 have f:∀k,Deaf (t1++#[x,y]) k=Deaf t1 k:=fun k=>gO t1 k _ R
 have U:Deaf t1 (X.N.B+X.N.n)=0:=f4.fresh _ (by omega);obtain⟨st,sm,hw,hm⟩:=f4.wg;obtain⟨rfl,rfl,ho,_⟩:=hm.opened (by rw[D];trivial);have Y:∀b,X.Sc b→s1.V b:=fun b hb=>by rw[f2.V];exact hS b hb
 refine⟨{ s1 with tag:=.kd,fc:=m,dc:=0,W:=fun b=>s1.W b∧¬X.Sc b },w1.at d,a',⟨n1+1,(I.setIfInBounds 0 a').push child,L,t1++#[x,y],?_,?_,?_⟩,e3,F,M,O,f2.V,by simp only[f2.W],by simp,f2.got,f2.heap⟩
 ·have:=oh f1.run (f3.trans hT);rw[Cx t1 _ _ 0]at this;exact this
 ·refine⟨⟨(fun e=>nomatch e),fun _=>⟨?_,F,M⟩⟩,f4.jn,fun i g h0 h1 h2=>?_,fun i K=>?_,fun i h1 h2=>?_,fun _=>⟨child,?_,.kd e2,by rw[f,U]⟩,by rw[f];exact f4.hear,fun j hj=>?_,⟨_,_,hw,.opn trivial ho fun vs e=>by cases e⟩,f4.back,f4.nodup,f4.list,by rw[f4.fin,D];rfl,?_,?_,?_,fun i K ad=>?_,(fun e=>nomatch e),(fun e=>nomatch e),?_,f4.base,f4.os⟩
  ·simp only[gW,gG,hsz,F]
  ·have ai:i<X.N.B:=h1;rw[gX (by simp;omega),←dq,dI (by omega)]at h2;rw[f];exact f4.lv i g h0 h1 h2
  ·have J:i<s1.j:=K;obtain⟨g,k1,k2,k3⟩:=f4.wk i J;refine⟨g,?_,k2.rely hX.sync (f5 i (by omega)) (RK.refl _) (Leaves.refl _ _) rfl,by rw[f];exact k3⟩;rw[gX (by simp;omega),←dq,dI (by omega)];exact k1
  ·exact f4.un i h1 h2
  ·rw[show X.N.B+X.N.n=(I.setIfInBounds 0 a').size by simp[hsz,F],Array.getElem?_push_size]
  ·rw[f];simp only[gW,gG]at hj;exact f4.fresh j (by omega)
  ·have eK:KP X { s1 with tag:=.kd,fc:=m,dc:=0,W:=fun b=>s1.W b∧¬X.Sc b }=fun k=>KP X s1 k∨k=X.N.B+X.N.n:=by
    funext k;refine propext ⟨fun Z=>?_,fun Z=>?_⟩
    ·rcases Z with k1|⟨_,k2⟩
     ·exact .inl (.inl k1)
     ·exact .inr k2
    ·rcases Z with(k1|⟨k1,_⟩)|e
     ·exact .inl k1
     ·exact absurd D k1
     ·exact .inr ⟨by simp,e⟩
   have ec:np X { s1 with tag:=.kd,fc:=m,dc:=0,W:=fun b=>s1.W b∧¬X.Sc b }=X.N.B+X.N.n:=rfl;have eO:oR X { s1 with tag:=.kd,fc:=m,dc:=0,W:=fun b=>s1.W b∧¬X.Sc b }=oR X s1:=rfl;rw[eO,eK,ec];have aa:=f4.tr;rw[Cv D]at aa;have A:=E.vT hX (show s1.j≤X.N.n by omega);refine PT.fork A aa (k:=X.N.B+X.N.n) (by omega) (fun Z=>?_) G H (by rw[f4.hear,O]) U (fun l _ hl=>?_) (fun l _ hl=>?_) (.inr ⟨rfl,rfl⟩)
   ·rcases Z with⟨_,a2⟩|⟨a1,_⟩
    ·omega
    ·exact a1 D
   ·obtain⟨i,K,e,_⟩:=hl;omega
   ·obtain⟨b,hb,ae⟩:=hl;have ab:s1.V b:=by
     rcases ae with⟨i',J,e',_⟩|⟨_,af⟩
     ·omega
     ·exact Y b af
    have hv:=E.v b ab;refine⟨fun hs=>?_,hv.2.2.2.2 l hb,fun k' aj ⟨i',J,e',ag⟩=>?_⟩
    ·rcases hs.block with q|q|q
     ·exact hv.2.1 (hb.uniq q)
     ·exact hv.2.2.1 (hb.uniq q)
     ·exact hv.2.2.2.1 (hb.uniq q)
    ·obtain⟨y',p',k1,k2⟩:=ag.block;obtain rfl:=hb.uniq k2;exact(E.lt i' J y' p' k1).2.1 ab
  ·intro op C;rcases dN.1 C with k|k
   ·exact f4.low op k
   ·simp only[fI,fJ,fK,fL]at k;rcases k with rfl|rfl
    ·rw[G.2];trivial
    ·rw[H.2];trivial
  ·exact f4.norel.app fun op C=>by
    simp only[fI,fJ,fK,fL]at C;rcases C with rfl|rfl
    ·rw[G.2];simp
    ·rw[H.2];simp
  ·obtain⟨r,hr⟩:=f4.rel i K ad;exact⟨r,hr.qu T⟩
  ·exact⟨E.lt,E.apart,E.oz,E.v,fun b hb=>E.wv b hb.1,fun i K b hb=>⟨(E.sj i K b hb).1,fun k=>(E.sj i K b hb).2 k.1⟩,fun _ b hb=>⟨Y b hb,fun k=>k.2 hb⟩,E.kq,E.old⟩
 ·show((I.setIfInBounds 0 a').push child)[0]?=some a';have h0:0<I.size:=(dp.1 f1.main).1;rw[gX (by simpa using h0),←dq,ff h0]
theorem ku.taken(I:X.Good)(h:ku X s n gs w t)(hsz:gs'.size=gs.size)(hgo:∀k,0<k→gs'[k]?=gs[k]?)(hn:∀i',i'<X.N.n→kp (kr X.P X.pk (X.N.B+i') X.m0 X.t0) n'=kp (kr X.P X.pk (X.N.B+i') X.m0 X.t0) n){got' wait':List Nat}(hl:got'++wait'=s.got++s.wait)(O:w'.heap[X.N.CB]?=some (.chan X.N.n (wait'.map fun i=>(X.J i).msg (s.D i).v).toArray false (got'.length+wait'.length) got'.length false))(e:∀b,b≠X.N.CB→w'.heap[b]?=w.heap[b]?)(d:w'.heap.size=w.heap.size)(F:w'.os=w.os)(E:∀op∈u,op.act.touch? = none)(R:∀op∈u,op.act.low w.heap.size)(ab:∀op∈u,op.g=0)(T:∀op∈u,op.act≠.mark .disable∧op.act≠.mark .enable)(U:∀op∈u,op.act≠.mark (.release (stA X.N.Wg))):ku X { s with got:=got',wait:=wait' } n' gs' w' (t++u):=by
 have hB:=I.pos;have ad:=h.jn;have f:∀k,Deaf (t++u) k=Deaf t k:=fun k=>gO t k u T
 have L:∀S:Nat→Prop,(∀b,S b→s.V b)→RK X.N.ty X.N.Wg S w w':=fun S hS=>⟨fun b hb=>e b (h.j2.v b (hS b hb)).2.2.1,fun⟨a,b,k⟩=>⟨a,b,qL k (e _ I.kq.1)⟩⟩
 have M:∀i',i'<X.N.n→Leaves (s.D i').ρ w w':=fun i' y=>Leaves.block fun b p hb=>e _ (h.j2.lt i' y b p hb).2.2.2.1
 obtain⟨st,sm,hw,hm⟩:=h.wg;refine⟨by rw[hsz];exact h.size,h.jn,fun i' g1 h0 W G=>?_,fun i' y=>?_,fun i' W G=>?_,fun K=>?_,by rw[f];exact h.hear,fun j hj=>?_,⟨st,sm,qL hw (e _ I.kq.1),hm⟩,O,by rw[show({ s with got:=got',wait:=wait' }:St).got++({ s with got:=got',wait:=wait' }:St).wait=got'++wait' from rfl,hl];exact h.nodup,fun i'=>by
  show i'∈got'++wait'↔_;rw[hl];exact h.list i',by rw[e _ (dE I.kq.2.2)];exact h.fin,?_,?_,?_,fun i' y Y=>?_,fun K=>?_,fun K=>?_,⟨by rw[d];exact h.j2.lt,h.j2.apart,h.j2.oz,by rw[d];exact h.j2.v,h.j2.wv,h.j2.sj,h.j2.sc,by rw[d];exact h.j2.kq,by rw[d];exact h.j2.old⟩,by rw[d];exact h.base,F.trans h.os⟩
 ·rw[hgo i' h0]at G;rw[f];exact h.lv i' g1 h0 W G
 ·have aa:i'<s.j:=y;obtain⟨g1,e1,e2,e3⟩:=h.wk i' y;exact⟨g1,by rw[hgo _ (by omega)];exact e1,e2.rely I.sync (hn i' (by omega)) (L _ fun b hb=>(h.j2.sj i' y b hb).1) (M i' (by omega)) F,by rw[f];exact e3⟩
 ·have H:=h.un i' W G;have hle:=M i' G;rw[H.1]at hle;exact⟨H.1,HR.leaves I.sync H.2 hle F⟩
 ·obtain⟨a,k1,k2,k3⟩:=h.cl K;exact⟨a,by rw[hgo _ (by omega)];exact k1,k2.rely (L _ fun b hb=>(h.j2.sc K b hb).1),by rw[f];exact k3⟩
 ·rw[f];exact h.fresh j (by rw[←hsz];exact hj)
 ·have:=PT.zA u.toList h.tr (fun op C=>E op (by simpa using C));have G:PT (nI X.N) X.Shun (oR X s) (rG X) (KP X s) (np X s) (t++u):=by simpa using this
  exact G
 ·intro op C;rw[d];rcases dN.1 C with k|k
  ·exact h.low op k
  ·exact R op k
 ·exact h.norel.app fun op C=>U op C
 ·obtain⟨r,hr⟩:=h.rel i' y Y;exact⟨r,hr.qu E⟩
 ·obtain⟨q,Z⟩:=h.acq K;exact⟨q,Z.app fun i' r _ hr=>hr.qu E⟩
 ·obtain⟨q,p,Z⟩:=h.cls K;exact⟨q,p,Z.app (fun i' r _ hr=>hr.qu E) fun op C _=>E op C⟩
theorem ku.leave(hX:X.Good)(h:ku X s n gs w t)(R:s.tag=.qt)(hd:s.d0=0)(hsz:gs'.size=gs.size)(hgo:∀k,0<k→gs'[k]?=gs[k]?){y:MemOp}(I:y.g=0∧y.act=.recvClosed X.N.CF):(∃q,Leavers X.P (t++#[y]) gs' q)∧Past (fun l=>X.Shun l∨nI X.N l) w.heap.size (t++#[y])∧∀i,i<X.N.n→Done (X.J i) (s.D i).ρ (s.D i).v w∧i∈s.got++s.wait:=by
 have hB:=hX.pos;have ht:s.tag≠.sp:=by rw[R];simp
 obtain⟨aq,hj,hp⟩:=h.size.2 ht;obtain⟨st,sm,hw,hm⟩:=h.wg;obtain⟨_,_,_,T⟩:=hm.vW (by rw[R];trivial);obtain⟨qa,pc,hc⟩:=h.cls R;have G:∀op∈#[y],op.act.touch? = none:=fun op d=>by rw[gT]at d;rw[d,I.2];rfl
 have K:∀op∈#[y],op.act≠.mark .disable∧op.act≠.mark .enable:=fun op d=>by rw[gT]at d;rw[d,I.2];simp
 have F:∀k,Deaf (t++#[y]) k=Deaf t k:=fun k=>gO t k _ K
 have hyp:(t++#[y])[t.size]?=some y:=by rw[gR (dx _)];simp
 have ah:(t++#[y]).heard t.size:=⟨0,by simp[Trace.g?,I.1],by rw[deaf_old (dx _)];exact h.hear.trans hd⟩;have f:ue X (t++#[y]) qa pc:=hc.app (fun i r _ hr=>hr.qu G) fun op d _=>G op d
 have ai:NoRelease (stA X.N.Wg) (t++#[y]):=h.norel.app fun op d=>by rw[gT]at d;rw[d,I.2];simp
 have L:HappensBefore (t++#[y]) pc t.size:=.single (.inr ⟨.closed (c:=X.N.CF) f.act (by rw[act?_of hyp,I.2]),f.heard,ah⟩);have aa:HappensBefore (t++#[y]) qa pc:=.single (.inl ⟨f.lt,_,f.acq.g,f.g⟩);have aj:(t++#[y]).g? t.size=some 0:=by simp[Trace.g?,I.1]
 have known:∀i,HappensBefore (t++#[y]) i t.size→Knows (t++#[y]) 0 i:=fun i hi=>⟨t.size,y,hyp,I.1,.inr hi⟩
 have ab:∀k,k<X.N.n→∃r,Rl X.N (t++#[y]) (X.N.B+k) r∧∀i,i≤r→(t++#[y]).g? i=some (X.N.B+k)→HappensBefore (t++#[y]) i t.size:=fun k U=>by
  obtain⟨r,hr,ak⟩:=f.acq.all k U;have H:HappensBefore (t++#[y]) r qa:=.single (.inr ⟨.marked ak (.inr hr.rel.act) f.acq.act (fun k _ _=>ai k),hr.rel.heard,f.acq.heard⟩);refine⟨r,hr,fun i hi C=>?_⟩;rcases fC i r with E|M
  ·have e0:HappensBefore (t++#[y]) i r:=.single (.inl ⟨E,_,C,hr.rel.g⟩);exact((e0.trans H).trans aa).trans L
  ·obtain rfl:i=r:=by omega
   exact(H.trans aa).trans L
 have ad:∀i op,(t++#[y])[i]?=some op→op.g=X.N.B+X.N.n→op.act.touch?≠none→HappensBefore (t++#[y]) i t.size:=fun i op O C al=>by
  rcases Nat.lt_trichotomy i pc with E|rfl|am
  ·have e0:HappensBefore (t++#[y]) i pc:=.single (.inl ⟨E,_,by unfold Trace.g?;rw[O];exact dD some C,f.g⟩);exact e0.trans L
  ·exact L
  ·exact absurd (f.after i op am O C) al
 have hK:∀g,KP X s g→(∃k,k<X.N.n∧g=X.N.B+k)∨g=X.N.B+X.N.n:=fun g C=>by
  rcases C with⟨a1,a2⟩|⟨_,a2⟩
  ·exact .inl ⟨g-X.N.B,by omega,by omega⟩
  ·exact .inr a2
 have an:=h.tr.appMute (g:=0) (u:=#[y]) (fun op d=>by rw[gT]at d;rw[d];exact I.1) G;refine⟨?_,?_,fun i hi=>?_⟩
 ·refine⟨fun i=>if i<X.N.B then s.q i else if i<X.N.B+s.j then(s.D (i-X.N.B)).fuel else s.fc,fun i g h0 C=>?_,fun k U=>?_⟩
  ·rw[hgo i h0]at C;rw[F];have E:i<gs.size:=(dp.1 C).1
   by_cases h1:i<X.N.B
   ·simp only[h1,dg];exact h.lv i g h0 h1 C
   ·by_cases h2:i<X.N.B+s.j
    ·simp only[h1,h2,dg,dh];obtain⟨g1,H,V,e3⟩:=h.wk (i-X.N.B) (by omega);rw[show X.N.B+(i-X.N.B)=i by omega]at H e3;rw[C]at H;obtain rfl:=eX H;rw[e3];have W:=T (i-X.N.B) (by omega);generalize s.D (i-X.N.B)=dd at V W
     cases V with
     |quit R _=>exact R
     |_=>simp at W
    ·simp only[h1,h2,dh];obtain⟨g1,H,V,e3⟩:=h.cl ht;have:i=X.N.B+X.N.n:=by omega
     subst this;rw[C]at H;obtain rfl:=eX H;rw[e3];rw[R]at V;generalize s.fc=fc,s.dc=dc at V
     cases V with
     |qt R=>exact R
  ·rw[hsz]at U;rw[F];exact h.fresh _ U
 ·refine an.past (by rw[F];exact h.hear.trans hd) (fun op d=>?_) (fun i op x O C U hx ao=>?_) (fun i g C U ae=>?_)
  ·rcases dN.1 d with k|k
   ·exact h.low op k
   ·rw[gT]at k;rw[k,I.2];exact h.j2.kq.2.2
  ·rcases hK _ U with⟨k,Y,e⟩|e
   ·obtain⟨r,hr,Z⟩:=ab k Y;rcases fC r i with E|M
    ·exact .inr (hr.soft i op x E O e hx ao)
    ·exact .inl (known i (Z i M (by unfold Trace.g?;rw[O];exact dD some e)))
   ·exact .inl (known i (ad i op O e (by rw[hx];simp)))
  ·refine⟨t.size,aj,?_⟩;obtain⟨op,O,ap⟩:=eg.1 C;rcases hK _ U with⟨k,Y,e⟩|e
   ·obtain⟨r,hr,Z⟩:=ab k Y;rcases fC r i with E|M
    ·exact absurd ae (hr.rel.after i E (by rw[C,e]))
    ·exact Z i M (by rw[C,e])
   ·refine ad i op O (ap.trans e) fun hn=>?_
    obtain⟨x,hx,_⟩:=ae;obtain⟨ar,af,ag⟩:=fE hx;rw[O]at af;obtain rfl:=eX af;rw[hn]at ag;cases ag
 ·have W:=T i (by omega);obtain⟨g1,H,V,e3⟩:=h.wk i (by omega);exact⟨V.done (by omega),(h.list i).2 ⟨by omega,by omega⟩⟩
end
end
section
open Go.Conc Go.ConcN Go.Proofs.YtjnkcibpkkjniaaGreat.j7
open Go.ConcR (KK wgBlock WgAt stA smA rd wr DC0)
variable [Scope]
section
variable {P:Program} {gs:Array Goroutine} {w w₁:World} {sl:Option (Nat×Nat)} {g g₂:Goroutine} {es:Array Event} {c c' cap Jz s s' r r':Nat} {buf:Array Value} {tm JA closed:Bool} {z z':Value}
theorem JB(J:gs[0]?=some g)(h:stepG P (0 == 0) g w=.comm g₂ #[rcase c z,rcase c' z'] true .select w₁ es)(E:w₁.heap[c]?=some (.chan cap buf closed s r tm))(q:0<buf.size)(y:w₁.heap[c']?=some (.chan Jz #[] true s' r' JA))(hp:partners (gs.setIfInBounds 0 ph) c true=[])(F:partners (gs.setIfInBounds 0 ph) c' true=[]):∃d,runT P (crowd gs w sl) 0=(.next (crowd (gs.setIfInBounds 0 (g₂.finishComm P #[rcase c z,rcase c' z'] .select (0:Nat) (buf.getD 0 undef) true)) ((w₁.at d).setChan c cap (buf.extract 1 buf.size) closed s (r+1) tm) sl),
    MemOp.ofEvents 0 g.frame.fn g.frame.place es++#[{ g:=0,fn:=g₂.frame.fn,pos:=g₂.frame.place,act:=.recv c r cap },{ g:=0,fn:=g₂.frame.fn,pos:=g₂.frame.place,act:=.recvDone c r }]) ∨
   runT P (crowd gs w sl) 0=(.next (crowd (gs.setIfInBounds 0 (g₂.finishComm P #[rcase c z,rcase c' z'] .select (1:Nat) z' false)) (w₁.at d) sl),
    MemOp.ofEvents 0 g.frame.fn g.frame.place es++#[{ g:=0,fn:=g₂.frame.fn,pos:=g₂.frame.place,act:=.recvClosed c' }]):=by
 have hw:ways w₁ (gs.setIfInBounds 0 ph) (rcase c z)=[.buffer]:=by simp[ways,rcase,E,q]
 have G:ways w₁ (gs.setIfInBounds 0 ph) (rcase c' z')=[.closed]:=by simp[ways,rcase,y,F]
 have e:(((#[rcase c z,rcase c' z']:Array CommCase).zipIdx.toList.map fun(c,k)=>(k,c,ways w₁ (gs.setIfInBounds 0 ph) c)).filter fun(_,_,ws)=>!ws.isEmpty)=[(0,rcase c z,[.buffer]),(1,rcase c' z',[.closed])]:=by
  simp[hw,G]
 have f:(#[rcase c z,rcase c' z']:Array CommCase).any (illMade w₁)=false:=any_ill fun L C=>by
  simp at C;rcases C with rfl|rfl
  ·exact made_recv z E
  ·exact made_recv z' y
 rw[runT_crowd_comm J h];have K:(Question.select 2).forced=false:=rfl;have D:(Question.select 2).cut (w₁.tape w₁.drawn (.select 2))=0∨(Question.select 2).cut (w₁.tape w₁.drawn (.select 2))=1:=by
  have:(Question.select 2).cut (w₁.tape w₁.drawn (.select 2))<2:=by
   simp only[Question.cut];exact gi _ (by omega)
  omega
 refine⟨w₁.drawn+1,?_⟩;have H:w₁.drew.heap[c]?=some (.chan cap buf closed s r tm):=E;rcases D with I|I
 ·refine .inl ?_;unfold communicate;simp only[e];rw[dk]
  ·simp[choose,Sem.run,I,bind,Sem.bind,pure,rcase,H,hp,World.setChan,crowd,Question.forced]
   try first|exact⟨rfl,rfl,rfl,rfl,rfl⟩|rfl
  ·rw[Bool.not_eq_true];exact f
 ·refine .inr ?_;unfold communicate;simp only[e];rw[dk]
  ·simp[choose,Sem.run,I,bind,Sem.bind,pure,rcase,crowd,Question.forced]
   try first|exact⟨rfl,rfl,rfl,rfl,rfl⟩|rfl
  ·rw[Bool.not_eq_true];exact f
end
section
variable {X:Ctx} {s:St} {n:Nat} {gs:Array Goroutine} {w:World} {sl:Option (Nat×Nat)} {t:Trace} {a:Goroutine} {z1 z2:Value}
structure zE (s s':St) (i:Nat) (w w':World):Prop where
 j:s'.j=s.j
 p:s'.p=s.p
 d0:s'.d0=s.d0
 V:s'.V=s.V
 W:s'.W=s.W
 sp:s'.tag=.sp↔s.tag=.sp
 got:s'.got=s.got++[i]
 new:i ∉ s.got
 val:∀i∈s.got,(s'.D i).v=(s.D i).v
 heap:∀b,s.V b→w'.heap[b]?=w.heap[b]?
structure vc (X:Ctx) (s s':St) (w:World) (a':Goroutine) (w':World):Prop where
 run:∃N gs' j0 t' q',runNT X.P N X.m0 X.t0=(.next (crowd gs' w' j0),t')∧gs'[0]?=some a'∧Leavers X.P t' gs' q'∧Past (fun l=>X.Shun l∨nI X.N l) w'.heap.size t'
 done:∀i,i<X.N.n→Done (X.J i) (s'.D i).ρ (s'.D i).v w'∧i∈s'.got++s'.wait
 nodup:(s'.got++s'.wait).Nodup
 range:∀i∈s'.got++s'.wait,i<X.N.n
 back:w'.heap[X.N.CB]?=some (.chan X.N.n (s'.wait.map fun i=>(X.J i).msg (s'.D i).v).toArray false (s'.got.length+s'.wait.length) s'.got.length false)
 j2:qJ X s' w'
 V:s'.V=s.V
 W:s'.W=s.W
 got:s'.got=s.got
 val:∀i∈s.got,(s'.D i).v=(s.D i).v
 heap:∀b,s.V b→w'.heap[b]?=w.heap[b]?
 base:Scope.base≤w'.heap.size
 os:w'.os=X.m0.world.os
def sf (X:Ctx) (s:St) (w:World) (a:Goroutine) (z1 z2:Value):Prop :=
 (∃i s' w',At X s' w' (a.finishComm X.P (lI X z1 z2) .select (0:Nat) ((X.J i).msg (s'.D i).v) true)∧i<X.N.n∧zE s s' i w w') ∨
 ∃s' w',vc X s s' w (a.finishComm X.P (lI X z1 z2) .select (1:Nat) z2 false) w'
variable {s':St} {w':World}
theorem kg.Cy{d:St}{i:Nat}{e:World}(h:kg s s' w w')(k:zE s' d i w' e):zE s d i w e :=
 ⟨k.j.trans h.j,k.p.trans h.p,k.d0.trans h.d0,k.V.trans h.V,k.W.trans h.W,k.sp.trans h.sp,by rw[k.got,h.got],by have:=k.new;rw[h.got]at this;exact this,fun i f=>(k.val i (h.got▸f)).trans (h.val i f),fun b hb=>(k.heap b (h.V▸hb)).trans (h.heap b hb)⟩
theorem kg.over{s s' d:St}{w w' e:World}{a':Goroutine}(h:kg s s' w w')(k:vc X s' d w' a' e):vc X s d w a' e :=
 ⟨k.run,k.done,k.nodup,k.range,k.back,k.j2,k.V.trans h.V,k.W.trans h.W,k.got.trans h.got,fun i f=>(k.val i (h.got▸f)).trans (h.val i f),fun b hb=>(k.heap b (h.V▸hb)).trans (h.heap b hb),k.base,k.os⟩
theorem sf.keeps(h:kg s s' w w')(k:sf X s' w' a z1 z2):sf X s w a z1 z2:=by
 rcases k with⟨i,s2,w2,k1,k2,d⟩|⟨s2,w2,k1⟩
 ·exact .inl ⟨i,s2,w2,k1,k2,h.Cy d⟩
 ·exact .inr ⟨s2,w2,h.over k1⟩
theorem sV.keeps(d:ku X s n gs w t)(h:sV s s')(e:s'.got=s.got)(f:∀b,s.V b→w'.heap[b]?=w.heap[b]?):kg s s' w w' :=
 ⟨h.j,h.p,h.d0,h.V,h.W,h.sp,e,fun i k=>by have:=(d.list i).1 (gV _ k);exact h.val i this.1 this.2,f⟩
theorem ku.select[ki X.P][lu X.P](Y:X.Good)(h:oA X s n gs w sl t a){d:Nat}{j0:Option (Nat×Nat)}{H:Goroutine}(Z:stepT X.P (crowd gs w sl)=runT X.P (crowd gs (w.at d) j0) 0)(L:ku X s n gs (w.at d) t)(hn:∀i,i<X.N.n→kp (kr X.P X.pk (X.N.B+i) X.m0 X.t0) (n+1)=kp (kr X.P X.pk (X.N.B+i) X.m0 X.t0) n)(hr:a.status=.running)(j3:s.tag≠.sp)(af:s.d0=0)(R:stepG X.P true a (w.at d)=.comm H (lI X z1 z2) true .select (w.at d) #[]):sf X s (w.at d) H z1 z2∨∃gs',oA X s (n+1) gs' (w.at d) j0 t (parked H (lI X z1 z2) .select)∧s.wait=[]∧s.tag≠.qt:=by
 have f:∀(r:Nat)(b:Bool),partners (gs.setIfInBounds 0 ph) r b=[]:=fun r b=>partners_nil fun k g hg=>by
  by_cases hk:k=0
  ·subst hk;rcases getElem?_stand gs 0 0 g hg with⟨_,rfl⟩|⟨k,_⟩
   ·exact offersAt_ph r b
   ·exact absurd rfl k
  ·exact L.offers Y hk hg r b
 have h0:0<gs.size:=(dp.1 h.main).1;have aa:∀(x:Goroutine) k,0<k→(gs.setIfInBounds 0 x)[k]?=gs[k]?:=fun x k hk=>dI (by omega)
 have T:∀x:Goroutine,(gs.setIfInBounds 0 x)[0]?=some x:=fun x=>ff h0
 have take:∀(d' i:Nat)(rest:List Nat)(u:Trace),s.wait=i::rest→runT X.P (crowd gs (w.at d) j0) 0=(.next (crowd (gs.setIfInBounds 0 (H.finishComm X.P (lI X z1 z2) .select (0:Nat) (((s.wait.map fun i=>(X.J i).msg (s.D i).v).toArray).getD 0 undef) true)) (((w.at d).at d').setChan X.N.CB X.N.n ((s.wait.map fun i=>(X.J i).msg (s.D i).v).toArray.extract 1 (s.wait.map fun i=>(X.J i).msg (s.D i).v).toArray.size) false (s.got.length+s.wait.length) (s.got.length+1) false) j0),u) →
   u=MemOp.ofEvents 0 a.frame.fn a.frame.place #[]++#[{ g:=0,fn:=H.frame.fn,pos:=H.frame.place,act:=.recv X.N.CB s.got.length X.N.n },{ g:=0,fn:=H.frame.fn,pos:=H.frame.place,act:=.recvDone X.N.CB s.got.length }]→sf X s (w.at d) H z1 z2:=by
  intro d' i rest u I M hu;have ag:i<X.N.n:=by
   have:=((L.list i).1 (by rw[I];simp)).1;have:=L.jn;omega
  have K:∀op∈u,op=({ g:=0,fn:=H.frame.fn,pos:=H.frame.place,act:=.recv X.N.CB s.got.length X.N.n }:MemOp)∨op={ g:=0,fn:=H.frame.fn,pos:=H.frame.place,act:=.recvDone X.N.CB s.got.length }:=fun op G=>by
   rw[hu]at G;simpa[gF]using G
  have W:i ∉ s.got:=fun k=>by
   have:=L.nodup;rw[I,gP]at this;exact this.2.2 i k i (by simp) rfl
  have ab:∀b,b≠X.N.CB→(((w.at d).at d').setChan X.N.CB X.N.n ((s.wait.map fun i=>(X.J i).msg (s.D i).v).toArray.extract 1 (s.wait.map fun i=>(X.J i).msg (s.D i).v).toArray.size) false (s.got.length+s.wait.length) (s.got.length+1) false).heap[b]?=(w.at d).heap[b]?:=fun b hb=>by
   rw[ug,dk (fun e=>hb e.1.symm)];rfl
  have hC:=L.taken Y (gs':=gs.setIfInBounds 0 (H.finishComm X.P (lI X z1 z2) .select (0:Nat) (((s.wait.map fun i=>(X.J i).msg (s.D i).v).toArray).getD 0 undef) true)) (n':=n+1) (u:=u) (by simp) (aa _) hn (got':=s.got++[i]) (wait':=rest) (by rw[I];simp)
   (by
    rw[ug,dj ⟨rfl,L.j2.kq.2.1⟩,I];simp[dL];refine⟨by rw[gY (by simp)],by omega⟩) ab (by simp[World.setChan];rfl) rfl
   (fun op G=>by rcases K op G with rfl|rfl<;>rfl) (fun op G=>by rcases K op G with rfl|rfl<;>exact L.j2.kq.2.1) (fun op G=>by rcases K op G with rfl|rfl<;>rfl) (fun op G=>by rcases K op G with rfl|rfl<;>simp) (fun op G=>by rcases K op G with rfl|rfl<;>simp)
  refine .inl ⟨i,_,_,⟨n+1,_,j0,_,oh h.run (Z.trans M),hC,?_⟩,ag,⟨rfl,rfl,rfl,rfl,rfl,Iff.rfl,rfl,W,fun _ _=>rfl,fun b hb=>ab b (L.j2.v b hb).2.2.1⟩⟩;rw[T];rw[I];rfl
 have over:∀(d':Nat)(u:Trace),s.tag=.qt→runT X.P (crowd gs (w.at d) j0) 0=(.next (crowd (gs.setIfInBounds 0 (H.finishComm X.P (lI X z1 z2) .select (1:Nat) z2 false)) ((w.at d).at d') j0),u) →
   u=MemOp.ofEvents 0 a.frame.fn a.frame.place #[]++#[{ g:=0,fn:=H.frame.fn,pos:=H.frame.place,act:=.recvClosed X.N.CF }]→sf X s (w.at d) H z1 z2:=by
  intro d' u V M hu;have ah:u=#[{ g:=0,fn:=H.frame.fn,pos:=H.frame.place,act:=.recvClosed X.N.CF }]:=by rw[hu];simp[gF]
  subst ah;obtain⟨⟨q,k1⟩,k2,k3⟩:=L.leave Y V af (gs':=gs.setIfInBounds 0 (H.finishComm X.P (lI X z1 z2) .select (1:Nat) z2 false)) (by simp) (aa _) (y:={ g:=0,fn:=H.frame.fn,pos:=H.frame.place,act:=.recvClosed X.N.CF }) ⟨rfl,rfl⟩;have hC:=L.at Y d' (n':=n) (fun _ _=>rfl);exact .inr ⟨s,_,⟨n+1,_,j0,_,q,oh h.run (Z.trans M),T _,k1,k2⟩,fun i hi=>⟨((k3 i hi).1).leaves Y.sync (Leaves.of_heap rfl) rfl,(k3 i hi).2⟩,L.nodup,fun i hi=>by have:=((L.list i).1 hi).1;have:=L.jn;omega,hC.back,hC.j2,rfl,rfl,rfl,fun _ _=>rfl,fun _ _=>rfl,hC.base,hC.os⟩
 have C:=L.back;have F:=L.fin;have ai:X.N.CB≠X.N.CF:=Y.kq.2.2
 cases hw:s.wait with
 |nil =>
  rw[hw]at C;have ad:NoWays (w.at d) (gs.setIfInBounds 0 ph) (rcase X.N.CB z1):=ways_recv_none C (f _ _)
  by_cases V:s.tag=.qt
  ·rw[V]at F;have M:=crowd_sel_recv_closed (P:=X.P) (sl:=j0) (k:=1) (z:=z2) h.main (by exact R) rfl (fun m c' hm E=>by
    match m,hm,E with
    |0,_,E=>simp[lI]at E;subst E;exact ad
    |1,hm,_=>exact absurd rfl hm
    |m+2,_,E=>simp[lI]at E) F (f _ _)
   exact .inl (over (w.at d).drawn _ V M rfl)
  ·rw[zC V]at F;have U:NoWays (w.at d) (gs.setIfInBounds 0 ph) (rcase X.N.CF z2):=ways_recv_none F (f _ _);have M:=crowd_waits (P:=X.P) (sl:=j0) h.main (by exact R) (fun cc ae=>by
    simp[lI]at ae;rcases ae with rfl|rfl
    ·exact ad
    ·exact U)
   refine .inr ⟨_,⟨oh h.run (Z.trans M),?_,T _⟩,by first|exact hw|rfl,V⟩;have:=L.taken Y (gs':=gs.setIfInBounds 0 (parked H (lI X z1 z2) .select)) (n':=n+1) (w':=w.at d) (u:=MemOp.ofEvents 0 a.frame.fn a.frame.place #[]) (by simp) (aa _) hn (got':=s.got) (wait':=s.wait) rfl (by rw[hw];exact C) (fun _ _=>rfl) rfl rfl
    (by simp[gF]) (by simp[gF]) (by simp[gF]) (by simp[gF]) (by simp[gF])
   simpa[gF]using this
 |cons i rest =>
  rw[hw]at C;have O:0<((i::rest).map fun i=>(X.J i).msg (s.D i).v).toArray.size:=by simp
  rw[←hw]at C O
  by_cases V:s.tag=.qt
  ·rw[V]at F;obtain⟨d',M⟩:=JB (P:=X.P) (sl:=j0) h.main (by exact R) C O F (f _ _) (f _ _);rcases M with M|M
   ·exact .inl (take d' i rest _ hw M rfl)
   ·exact .inl (over d' _ V M rfl)
  ·rw[zC V]at F;have U:NoWays (w.at d) (gs.setIfInBounds 0 ph) (rcase X.N.CF z2):=ways_recv_none F (f _ _);have M:=crowd_sel_recv_buf (P:=X.P) (sl:=j0) (k:=0) (z:=z1) h.main (by exact R) rfl (fun m c' hm E=>by
    match m,hm,E with
    |0,hm,_=>exact absurd rfl hm
    |1,_,E=>simp[lI]at E;subst E;exact U
    |m+2,_,E=>simp[lI]at E) C O (f _ _)
   exact .inl (take (w.at d).drawn i rest _ hw M rfl)
theorem At.select[ki X.P][lu X.P](hX:X.Good)(h:At X s w a)(hr:a.status=.running)(j3:s.tag≠.sp)(ae:s.d0=0)(aa:∀w₁,RK X.N.ty X.N.Wg s.V w w₁→stepG X.P true a w₁=.comm a (lI X z1 z2) true .select w₁ #[]):sf X s w a z1 z2:=by
 have wf:WellFounded Lt2:=Prod.lex Nat.lt_wfRel Nat.lt_wfRel |>.wf
 have G:∀w₁,stepG X.P true { parked a (lI X z1 z2) .select with status:=.running } w₁=stepG X.P true a w₁:=fun w₁=>by
  rw[stepG_tries];congr 1;obtain⟨fr,cs,st,dy,off⟩:=a;simp only at hr;subst hr;rfl
 suffices key:∀μ (s1:St),meas X s1=μ→∀n gs w1 sl t Z,oA X s1 n gs w1 sl t Z→kg s s1 w w1 →
   ((Z.status=.running∧(∀w₁,stepG X.P true Z w₁=stepG X.P true a w₁))∨(Z=parked a (lI X z1 z2) .select∧s1.wait=[]∧s1.tag≠.qt))→sf X s w a z1 z2 by
  obtain⟨n,gs,sl,t,C⟩:=h;exact key _ s rfl n gs w sl t a C (kg.refl s w) (.inl ⟨hr,fun _=>rfl⟩)
 intro μ
 induction μ using wf.induction with
 |_ μ ih =>
  have pG:∀(s1:St),meas X s1=μ→∀n gs w1 sl t,oA X s1 n gs w1 sl t (parked a (lI X z1 z2) .select)→kg s s1 w w1→s1.wait=[]→s1.tag≠.qt→sf X s w a z1 z2:=by
   intro s1 q n gs w1 sl t C F af hq;have ab:s1.tag≠.sp:=fun e=>j3 (F.sp.1 e)
   rcases C.env hX (.pG a z1 z2 rfl af hq ab)with⟨d,j0,L,_⟩|⟨s2,ag,w2,ah,t2,a2,M,h2,E,h4,h5,h6⟩
   ·cases L
   ·cases h5 with
    |same y H =>
     subst y;have O:=F.trans (E.keeps C.pY H h4)
     cases h6 with
     |run L=>cases L
     |pG gm y1 y2 R e4 e5 e6=>exact ih (meas X s2) (q▸h2) s2 rfl _ _ _ _ _ _ M O (.inr ⟨rfl,e4,e5⟩)
    |served i gm y1 y2 y H R e4 e5 =>
     have he:gm={ a with status:=gm.status,offers:=gm.offers }∧lI X z1 z2=lI X y1 y2:=by
      obtain⟨fr,cs,st,dy,off⟩:=a;obtain⟨jS,ak,st',al,aj⟩:=gm;simp only[parked,eH,dR,eC]at y;obtain⟨rfl,rfl,_,rfl,ec,_⟩:=y;exact⟨rfl,ec⟩
     have hf:gm.finishComm X.P (lI X y1 y2) .select (0:Nat) ((X.J i).msg (s2.D i).v) true=a.finishComm X.P (lI X z1 z2) .select (0:Nat) ((X.J i).msg (s2.D i).v) true:=by
      rw[he.1,←he.2];rfl
     have I:i ∉ s1.got:=fun k=>by
      have ad:=M.pY.nodup;rw[R,e4,gZ,gP]at ad;exact ad.2.2 i k i (by simp) rfl
     have am:=C.pY.jn;refine .inl ⟨i,s2,w2,?_,by omega,F.Cy ⟨E.j,E.p,E.d0,E.V,E.W,E.sp,R,I,fun i' ai=>?_,h4⟩⟩
     ·rw[←hf];exact⟨_,_,_,_,by rw[H]at M;exact M⟩
     ·have:=(C.pY.list i').1 (gV _ ai);exact E.val i' this.1 this.2
    |woken gm y1 y2 y H R =>
     have O:=F.trans (E.keeps C.pY R h4);subst H;exact ih (meas X s2) (q▸h2) s2 rfl _ _ _ _ _ _ M O (.inl ⟨rfl,G⟩)
  intro s1 q n gs w1 sl t Z C F T;rcases T with⟨f,K⟩|⟨y,H,R⟩
  ·rcases C.env hX (.run f)with⟨d,j0,_,k1,k2,k3⟩|⟨s2,ag,w2,ah,t2,a2,M,h2,E,h4,h5,h6⟩
   ·have U:kg s s1 w (w1.at d):=F.trans (kg.at s1 w1 d);have Y:stepG X.P true Z (w1.at d)=.comm a (lI X z1 z2) true .select (w1.at d) #[]:=by
     rw[K];exact aa _ (k2.rk U)
    rcases ku.select hX C k1 k2 k3 f (fun e=>j3 (F.sp.1 e)) (F.d0.trans ae) Y with k|⟨gs',l1,l2,l3⟩
    ·exact k.keeps U
    ·exact pG s1 q _ _ _ _ _ l1 U l2 l3
   ·cases h5 with
    |same y H =>
     subst y;exact ih (meas X s2) (q▸h2) s2 rfl _ _ _ _ _ _ M (F.trans (E.keeps C.pY H h4)) (.inl ⟨f,K⟩)
    |served i gm y1 y2 y=>rw[y]at f;cases f
    |woken gm y1 y2 y=>rw[y]at f;cases f
  ·subst y;exact pG s1 q _ _ _ _ _ C F H R
end
end
section
open Go.Conc Go.ConcN Go.Proofs.YtjnkcibpkkjniaaGreat.j7
open Go.ConcR (KK wgBlock WgAt stA smA rd wr DC0)
def Clean (A:MemAct→Prop) (t:Trace):Prop:=∀op∈t,A op.act
theorem Clean.app{A:MemAct→Prop}{t:Trace}(h:Clean A t){g:Nat}{fn:FuncId}{pos:String}{es:Array Event}(d:∀e∈es,A (.ofEvent e)):Clean A (t++MemOp.ofEvents g fn pos es):=by
 intro op f;rcases dN.1 f with k|k
 ·exact h op k
 ·obtain⟨e,he,rfl⟩:=eP k;exact d e he
section
variable {P:Program} {m0:Machine} {t0:Trace} {Shun:Loc→Prop} {pk:Machine→Nat×Nat×Option (Nat×Nat)}
theorem JC{A:MemAct→Prop}(hA:∀e:Event,e.mute=true→A (.ofEvent e))(U:∀gs w sl,(∀g∈gs,awake g)→(∃(i:Nat)(g:Goroutine),gs[i]?=some g∧g.status=.running) →
  ∃g,gs[(pk (crowd gs w sl)).1]?=some g∧g.status=.running∧stepT P (crowd gs w sl)=runT P (crowd gs (w.at (pk (crowd gs w sl)).2.1) (pk (crowd gs w sl)).2.2) (pk (crowd gs w sl)).1){n:Nat}{gs:Array Goroutine}{w:World}{sl:Option (Nat×Nat)}{t:Trace}{q:Nat→Nat}{g:Goroutine}(h:Beside P m0 t0 Shun n gs w sl t q g)(hc:Clean A t)(V:g.status=.running):∃d j0,(∃gs' t' q',Beside P m0 t0 Shun (n+1) gs' (w.at d) j0 t' q' g∧Clean A t'∧gs'.size=gs.size∧sumTo gs.size q'<sumTo gs.size q∧kr P pk 0 m0 t0 n=(0,0)) ∨
   (kr P pk 0 m0 t0 n=(d,(nn (stepG P true g (w.at d))).drawn)∧∀g' w' es,stepG P true g (w.at d)=.go g' w' es→(∀e∈es,EvL Shun w'.heap.size e∧A (.ofEvent e))→w.heap.size≤w'.heap.size →
    ∃gs' t',Beside P m0 t0 Shun (n+1) gs' w' j0 t' q g'∧Clean A t'∧gs'.size=gs.size):=by
 have W:∀x∈gs,awake x:=by
  intro x hx;obtain⟨i,hi,rfl⟩:=eQ.1 hx;rcases eT i with rfl|f
  ·have:gs[0]=g:=by simpa[dq hi]using h.main
   rw[this];exact eU (.inl V)
  ·exact eU ((h.leave.old i _ f (dq hi)).status.elim .inl fun x=>.inr (.inr x))
 obtain⟨x,hx,F,G⟩:=U gs w sl W ⟨0,g,h.main,V⟩;have C:=zd (P:=P) (pk:=pk) (i0:=0) h.run h.main;have D:=tU (P:=P) (pk:=pk) (i0:=0) h.run;generalize pk (crowd gs w sl)=y at hx G C D;obtain⟨i,d,j0⟩:=y;simp only at hx G C D;refine⟨d,j0,?_⟩;rcases eT i with rfl|f
 ·refine .inr ⟨C rfl,fun g' w' es hgo L hsz=>?_⟩;obtain rfl:x=g:=by rw[h.main]at hx;exact(eX hx).symm
  have E:=eZ (P:=P) (sl:=j0) (i:=0) h.main (show stepG P (0 == 0) x (w.at d)=_ from hgo);have H:0<gs.size:=(dp.1 h.main).1;refine⟨_,_,⟨oh h.run (G.trans E),by simp[H],BP h.leave h.main _ _ _,(h.past.mono hsz).own fun e he=>(L e he).1⟩,hc.app fun e he=>(L e he).2,by simp⟩
 ·refine .inl ?_;have R:=h.leave.old i x f hx;have H:i<gs.size:=(dp.1 hx).1;have Y:(i == 0)=false:=by simp;omega
  cases J:q i with
  |zero=>rw[J]at R;rw[R.1]at F;cases F
  |succ k =>
   rw[J]at R;rcases R with⟨hf,_⟩|⟨_,g',es,hm,M,Z⟩
   ·rw[hf]at F;cases F
   have E:=eZ (P:=P) (sl:=j0) (i:=i) hx (by rw[Y];exact M (w.at d));have ab:sumTo gs.size (upd q i k)+(k+1)=sumTo gs.size q+k:=by
    have:=fb q k id H;simpa[J]using this
   refine⟨_,_,upd q i k,⟨oh h.run (G.trans E),?_,⟨fun j z hj T=>?_,fun j hj=>?_⟩,h.past.mute (show i≠0 by omega) hm⟩,hc.app fun e he=>hA e (hm e he),by simp,by omega,D (show i≠0 by omega)⟩
   ·rw[dI (show i≠0 by omega),dQ,h.main];simp[fe V]
   ·by_cases I:i=j
    ·subst I;rw[ff (by simpa using H)]at T;obtain rfl:=eX T;rw[fg,fh];exact Z
    ·rw[dI I,dQ]at T;obtain⟨y,hy,rfl⟩:=eg.1 T;have O:=h.leave.old j y hj hy;rw[eM O,fi q k (dE I),eN t I _ (fun op K=>by obtain⟨e,_,rfl⟩:=eP K;rfl)];exact O
   ·have aa:gs.size≤j:=by simpa using hj
    rw[eN t (g':=i) (show i≠j by omega) _ (fun op K=>by obtain⟨e,_,rfl⟩:=eP K;rfl)];exact h.leave.above j aa
end
section
variable {P:Program}
theorem JE{A:MemAct→Prop}(T:∀e:Event,e.mute=true→A (.ofEvent e)){Shun:Loc→Prop}{Post:Goroutine→World→Prop}{g:Goroutine}{w:World}(U:g.status=.running)(h:∀d,∃g' w' es,stepG P true g (w.at d)=.go g' w' es∧(∀e∈es,EvL Shun w'.heap.size e∧A (.ofEvent e))∧w.heap.size≤w'.heap.size∧Post g' w'):∀(gs:Array Goroutine)(sl:Option (Nat×Nat)) (t:Trace) (q:Nat→Nat),gs[0]?=some g→Leavers P t gs q→Past Shun w.heap.size t→Clean A t →
   ∃N gs' g' w' j0 t' q',runNT P N (crowd gs w sl) t=(.next (crowd gs' w' j0),t')∧gs'.size=gs.size∧gs'[0]?=some g'∧Leavers P t' gs' q'∧Past Shun w'.heap.size t'∧Clean A t'∧Post g' w':=by
 obtain⟨pk,H⟩:=xE P
 suffices key:∀(G:Nat)(w1:World),(∃d,w1=w.at d)∨w1=w→∀(gs:Array Goroutine)(sl:Option (Nat×Nat)) (t:Trace) (q:Nat→Nat),sumTo gs.size q=G→gs[0]?=some g→Leavers P t gs q→Past Shun w.heap.size t→Clean A t →
   ∃N gs' g' w' j0 t' q',runNT P N (crowd gs w1 sl) t=(.next (crowd gs' w' j0),t')∧gs'.size=gs.size∧gs'[0]?=some g'∧Leavers P t' gs' q'∧Past Shun w'.heap.size t'∧Clean A t'∧Post g' w' from
  fun gs sl t q I J K hC=>key _ w (.inr rfl) gs sl t q rfl I J K hC
 intro G
 induction G using Nat.strongRecOn with
 |_ G V =>
  intro w1 F gs sl t q L I J K hC;have C:∀d,w1.at d=w.at d:=by
   intro d;rcases F with⟨d',rfl⟩|rfl<;>rfl
  have hsz:w1.heap.size=w.heap.size:=by rcases F with⟨d',rfl⟩|rfl<;>rfl
  have hb:Beside P (crowd gs w1 sl) t Shun 0 gs w1 sl t q g:=⟨rfl,I,J,by rw[hsz];exact K⟩;obtain⟨d,j0,D⟩:=JC (pk:=pk) T H hb hC U;rcases D with⟨k,t2,R,f,E,y,M,_⟩|⟨_,hgo⟩
  ·obtain⟨N,gs',g',w',O,t',q',r1,r2,W⟩:=V (sumTo k.size R) (by rw[y,←L];exact M) (w1.at d) (.inl ⟨d,C d⟩) k j0 t2 R rfl f.main f.leave (by have:=f.past;rw[C d]at this;exact this) E;refine⟨1+N,gs',g',w',O,t',q',?_,r2.trans y,W⟩;rw[eL,show runNT P 1 (crowd gs w1 sl) t=_ from f.run];exact r1
  ·obtain⟨g',w',es,Y,Z,e3,e4⟩:=h d;obtain⟨k,t2,f,E,y⟩:=hgo g' w' es (by rw[C d];exact Y) Z (by rw[hsz];exact e3);exact⟨1,k,g',w',j0,t2,q,f.run,y,f.main,f.leave,f.past,E,e4⟩
def j8 (P:Program) (A:MemAct→Prop) (Shun:Loc→Prop) (Q:Goroutine→World→Prop) (g:Goroutine) (w:World):Prop :=
 ∀gs sl t q,gs[0]?=some g→Leavers P t gs q→Past Shun w.heap.size t→Clean A t →
  ∃N gs' g' w' j0 t' q',runNT P N (crowd gs w sl) t=(.next (crowd gs' w' j0),t')∧gs'.size=gs.size∧gs'[0]?=some g'∧Leavers P t' gs' q'∧Past Shun w'.heap.size t'∧Clean A t'∧Q g' w'
variable {A:MemAct→Prop} {Shun:Loc→Prop} {Q:Goroutine→World→Prop} {g:Goroutine} {w:World}
theorem j8.done(h:Q g w):j8 P A Shun Q g w:=fun gs sl t q d e f hC=>⟨0,gs,g,w,sl,t,q,rfl,rfl,d,e,f,hC,h⟩
theorem j8.step(y:∀e:Event,e.mute=true→A (.ofEvent e))(C:g.status=.running)(h:∀d,∃g' w' es,stepG P true g (w.at d)=.go g' w' es∧(∀e∈es,EvL Shun w'.heap.size e∧A (.ofEvent e))∧w.heap.size≤w'.heap.size∧j8 P A Shun Q g' w'):j8 P A Shun Q g w:=by
 intro gs sl t q D E F hC;obtain⟨N,gs',g',w',j0,t',q',r1,r2,G,H,I,J,K⟩:=JE y C h gs sl t q D E F hC;obtain⟨L,f,g2,w2,k,t2,M,k1,k2,O,R,T,U,V⟩:=K gs' j0 t' q' G H I J;exact⟨N+L,f,g2,w2,k,t2,M,by rw[eL,r1];exact k1,k2.trans r2,O,R,T,U,V⟩
end
end
section
open Go.Conc Go.ConcN Go.Proofs.YtjnkcibpkkjniaaGreat.j7
open Go.ConcR (KK wgBlock WgAt stA smA rd wr DC0)
def lX (N:mE) (x:MemAct):Prop:=(∀a,x.touch? = some a→¬nI N a.loc)∧x≠.mark (.release (stA N.Wg))
theorem lX.mute(N:mE)(e:Event)(he:e.mute=true):lX N (.ofEvent e):=by
 obtain⟨l,wr,f⟩:=e
 cases l with
 |mark m=>cases m<;>first|(cases he;done)|exact⟨fun a d=>by simp[MemAct.ofEvent,MemAct.touch?]at d,by simp[MemAct.ofEvent]⟩
 |_=>cases he
theorem lX.of_low{N:mE}{B:Nat}{x:MemAct}(h:x.low B)(q:B≤N.Wg)(y:B≤N.CB)(C:B≤N.CF):lX N x:=by
 refine⟨fun a f k=>?_,fun e=>?_⟩
 ·have d:a.loc.low B:=by
   cases x with
   |access e=>simp only[MemAct.touch?,dR]at f;subst f;exact h
   |mark m=>cases m<;>simp[MemAct.touch?]at f<;>(subst f;exact h)
   |_=>simp[MemAct.touch?]at f
  rcases k with⟨ad,e,hb⟩|e|e
  ·rw[e]at d;have:ad.block<B:=d;omega
  ·rw[e]at d;have:N.CB<B:=d;omega
  ·rw[e]at d;have:N.CF<B:=d;omega
 ·subst e;have:N.Wg<B:=h;omega
theorem lX.cell{N:mE}{a:Addr}{wr d:Bool}(h:a.block≠N.Wg):lX N (.ofEvent ⟨.cell a,wr,d⟩):=by
 have e:MemAct.ofEvent ⟨.cell a,wr,d⟩=.access ⟨.cell a,wr,d⟩:=by simp[MemAct.ofEvent]
 rw[e];refine⟨fun x hx f=>?_,fun e=>by cases e⟩;simp only[MemAct.touch?,dR]at hx;subst hx;rcases f with⟨ad,e,hb⟩|e|e
 ·cases e;exact h hb
 ·cases e
 ·cases e
variable [Scope]
def St.start (X:Ctx) (q:Nat→Nat) (V W:Nat→Prop):St:=⟨0,0,fun i=>⟨10,0,0,(X.J i).ρ,undef⟩,.sp,0,0,0,q,V,W,[],[]⟩
theorem ku.start{X:Ctx}{gs:Array Goroutine}{w:World}{t:Trace}{q:Nat→Nat}{V W:Nat→Prop}{n:Nat}(hX:X.Good)(hB:X.N.B=gs.size)(I:Leavers X.P t gs q)(E:Past X.Shun w.heap.size t)(hC:Clean (lX X.N) t)(F:WgAt X.N.ty X.N.Wg w 0 0)(d:w.heap[X.N.CB]?=some (.chan X.N.n #[] false 0 0 false))(y:w.heap[X.N.CF]?=some (.chan 0 #[] false 0 0 false))(f:∀i,i<X.N.n→HR (X.J i).ρ (X.J i).wS w)(L:qJ X (St.start X q V W) w)(hb:Scope.base≤w.heap.size)(G:w.os=X.m0.world.os):ku X (St.start X q V W) n gs w t where
 size:=⟨fun _=>hB.symm,fun e=>absurd rfl e⟩
 jn:=eI _
 lv:=fun i g M _ O=>I.old i g M O
 wk:=fun i C=>absurd C (g8 i)
 un:=fun i _ h=>⟨rfl,f i h⟩
 cl:=fun e=>absurd rfl e
 hear:=E.hears
 fresh:=fun j R=>I.above j R
 wg:=⟨0,0,F,by
  have:=Mode.opn (j:=0) (p:=0) (D:=(St.start X q V W).D) (tag:=.sp) trivial (fun i C=>absurd C (g8 i)) (fun vs e=>by cases e);have e:(((Vc 0 (St.start X q V W).D+0:Nat):Int)*KK)=0:=by simp[Vc,sumTo]
  rw[e]at this;exact this⟩
 back:=d
 nodup:=List.nodup_nil
 list:=fun i=>Iff.intro (fun h=>absurd h (by simp[St.start])) (fun h=>absurd h.1 (g8 i))
 fin:=y
 tr:=by
  have T:KP X (St.start X q V W)=fun _=>False:=by
   funext k;refine propext ⟨fun U=>?_,fun h=>h.elim⟩;rcases U with⟨K,Y⟩|⟨K,_⟩
   ·have Z:k<X.N.B+0:=Y;omega
   ·exact K rfl
  rw[T];refine PT.start E fun i a ha hs=>?_
  obtain⟨op,H,hx⟩:=fE ha;exact(hC op (mem_of_getElem? H)).1 a hx hs
 low:=E.seen
 norel:=fun i e=>by
  unfold Trace.act? at e;obtain⟨op,G,ea⟩:=eg.1 e;exact(hC op (mem_of_getElem? G)).2 ea
 rel:=fun i C=>absurd C (g8 i)
 acq:=fun e=>by cases e
 cls:=fun e=>by cases e
 j2:=L
 os:=G
 base:=hb
end
section
open Go.Conc Go.ConcN Go.Proofs.YtjnkcibpkkjniaaGreat.j7
open Go.ConcR (KK wgBlock WgAt stA smA rd wr DC0)
section
variable {P:Program} {main:Bool} {b:Frame} {a:Act} {kk:List Item} {cs:List Frame} {w:World} {ops:Array Oper} {i:Nat} {rest:List Nat} {o:Oper}
def ptr (x:Nat):Value:=.pointer (some ⟨x,0,none⟩)
variable {elem:TypeId} {x:Operand}
theorem zF(e:ops[i]?=some o)(hw:Region.wanted o (yielded ops a.tmps)=true)(f:b.kind≠.early)(d:o.op=.box elem x):stepG P main (G (b.at a (.inRegion ops (i::rest)::kk)) cs) w=.go (G (b.at (a.put o.dst (ptr w.heap.size)) (.inRegion ops rest::kk)) cs) (w.alloc (.cells (a.eval x).cells elem)) #[]:=by
 have hr:(execOp a.eval o).run P w=.ok (.value (ptr w.heap.size)) (w.alloc (.cells (a.eval x).cells elem)):=by
  unfold execOp;simp only[d];simp[go_sem,Instr.box,ptr]
 have he:(execOp a.eval o).events P w #[]=#[]:=by
  unfold execOp;simp only[d];simp[go_sem,Instr.box]
 rw[gq e hw f hr,hD he]
theorem xU{z:Value}(h:ops[i]?=some o)(hw:Region.wanted o (yielded ops a.tmps)=true)(k:b.kind≠.early)(d:o.op=.alloc elem)(f:∀w,(zeroValue elem).run P w=.ok z w)(e:∀w es,(zeroValue elem).events P w es=es):stepG P main (G (b.at a (.inRegion ops (i::rest)::kk)) cs) w=.go (G (b.at (a.put o.dst (ptr w.heap.size)) (.inRegion ops rest::kk)) cs) (w.alloc (.cells z.cells elem)) #[]:=by
 have hr:(execOp a.eval o).run P w=.ok (.value (ptr w.heap.size)) (w.alloc (.cells z.cells elem)):=by
  unfold execOp;simp only[d];simp[go_sem,Instr.alloc,ptr,f]
 have he:(execOp a.eval o).events P w #[]=#[]:=by
  unfold execOp;simp only[d];simp[go_sem,Instr.alloc,f,e]
 rw[gq h hw k hr,hD he]
variable {t:TypeId}
theorem JF{dir:ChanDir}{d:TypeInfo}{n:Nat}(q:ops[i]?=some o)(hw:Region.wanted o (yielded ops a.tmps)=true)(y:b.kind≠.early)(f:o.op=.makeChan t x)(hx:a.eval x=.int .i64 n)(k:P.underlying t=some (.chan dir elem))(h:P.info? elem=some d)(F:d.bytes*n≤2 ^ 48-112)(C:n<9223372036854775808):stepG P main (G (b.at a (.inRegion ops (i::rest)::kk)) cs) w=.go (G (b.at (a.put o.dst (.chan (some w.heap.size))) (.inRegion ops rest::kk)) cs) (w.alloc (.chan n #[] false 0 0 false)) #[]:=by
 simp only[Act.eval,du]at hx;have H:¬((n:Int)<0∨(n:Int) > IntKind.i64.max∨(d.bytes:Int)*(n:Int) > 2 ^ 48-112):=by
  have e:((d.bytes:Int)*(n:Int))=((d.bytes*n:Nat):Int):=by simp
  rw[e];have:IntKind.i64.max=9223372036854775807:=by decide
  rw[this];omega
 have D:(n:Int)≤9223372036854775807:=by omega
 have E:(d.bytes:Int)*(n:Int)≤281474976710544:=by
  have e:((d.bytes:Int)*(n:Int))=((d.bytes*n:Nat):Int):=by simp
  rw[e];omega
 have hr:(execOp a.eval o).run P w=.ok (.value (.chan (some w.heap.size))) (w.alloc (.chan n #[] false 0 0 false)):=by
  unfold execOp;simp only[f];simp[go_sem,Instr.makeChan,hx,hY k,typeInfo,h,D,E]
 have he:(execOp a.eval o).events P w #[]=#[]:=by
  unfold execOp;simp only[f];simp[go_sem,Instr.makeChan,hx,hY k,typeInfo,h]
 rw[gq q hw y hr,hD he]
theorem Cz{y:Operand}{ad:Addr}{v u:Value}(C:ops[i]?=some o)(hw:Region.wanted o (yielded ops a.tmps)=true)(D:b.kind≠.early)(d:o.op=.store t x y)(hx:a.eval x=.pointer (some ad))(e:a.eval y=v)(f:(∃c,v=.chan (some c))∨∃k n,v=.int k n)(E:∀w,(isAgg t).run P w=.ok false w)(hsz:∀w,(sizeOf t).run P w=.ok 1 w)(h:w.cell? ad=some u)(q:w.frozen? ad=false)(F:(P.funcs[b.fn]?).any (·.norace)=false):stepG P main (G (b.at a (.inRegion ops (i::rest)::kk)) cs) w=.go (G (b.at (a.put o.dst undef) (.inRegion ops rest::kk)) cs) (w.setCell ad v) #[⟨.cell ad,true,false⟩]:=by
 simp only[Act.eval,du]at hx e;have hr:(execOp a.eval o).run P w=.ok .skip (w.setCell ad v):=by
  unfold execOp;simp only[d];rcases f with⟨c,rfl⟩|⟨c,m,rfl⟩<;>simp[go_sem,stored,hx,e,h,q,hsz]
 have he:(execOp a.eval o).events P w #[]=#[⟨.cell ad,true,false⟩]:=by
  unfold execOp;simp only[d];rcases f with⟨c,rfl⟩|⟨c,m,rfl⟩<;>simp[go_sem,storedEv,hx,e,h,q,hsz]
 rw[stepG_none C hw D hr];unfold Go.Conc.listed;rw[he,seen_eq F (by simp)]
end
structure Ext (w0:World) (l:Array Obj) (w:World):Prop where
 heap:w.heap=w0.heap++l
 os:w.os=w0.os
section
variable {w0 w:World} {l:Array Obj}
theorem Ext.at(h:Ext w0 l w)(d:Nat):Ext w0 l (w.at d):=⟨h.heap,h.os⟩
theorem Ext.size(h:Ext w0 l w):w.heap.size=w0.heap.size+l.size:=by rw[h.heap];simp
theorem Ext.alloc(h:Ext w0 l w)(o:Obj):Ext w0 (l.push o) (w.alloc o):=⟨by show w.heap.push o=_;rw[h.heap];simp,h.os⟩
variable {b:Nat}
theorem Ext.old(h:Ext w0 l w)(hb:b<w0.heap.size):w.heap[b]?=w0.heap[b]?:=by rw[h.heap,gE hb]
theorem Ext.get(h:Ext w0 l w)(i:Nat):w.heap[w0.heap.size+i]?=l[i]?:=by rw[h.heap,gR (by omega)];congr 1;omega
theorem Ext.zG(h:Ext w0 l w)(hb:b<w0.heap.size)(o:Nat):w.cell? ⟨b,o,none⟩=w0.cell? ⟨b,o,none⟩:=Go.ConcN.cell_of_block (h.old hb) o
variable {i:Nat} {c:Array Value} {ty:TypeId} {fr:Nat×Nat}
theorem Ext.CE(h:Ext w0 l w)(d:l[i]?=some (.cells c ty fr))(o:Nat):w.cell? ⟨w0.heap.size+i,o,none⟩=c[o]?:=by
 have:=(h.get i).trans d;simp[World.cell?,this]
theorem Ext.JG(h:Ext w0 l w)(d:l[i]?=some (.cells c ty (0,0)))(o:Nat):w.frozen? ⟨w0.heap.size+i,o,none⟩=false:=by
 have:=(h.get i).trans d;simp[World.frozen?,this]
theorem Ext.cellAt(h:Ext w0 l w){B:Nat}(hB:B=w0.heap.size+i)(d:l[i]?=some (.cells c ty fr)){o:Nat}{v:Value}(e:c[o]?=some v):w.cell? ⟨B,o,none⟩=some v:=by
 subst hB;exact(h.CE d o).trans e
theorem Ext.setCell(h:Ext w0 l w){i:Nat}{c:Array Value}{ty:TypeId}{fr:Nat×Nat}(q:l[i]?=some (.cells c ty fr))(o:Nat)(v:Value):Ext w0 (l.setIfInBounds i (.cells (c.setIfInBounds o v) ty fr)) (w.setCell ⟨w0.heap.size+i,o,none⟩ v):=by
 have hb:=(h.get i).trans q;refine⟨?_,h.os⟩;apply dJ;intro k;have f:i<l.size:=(dp.1 q).1
 by_cases e:k=w0.heap.size+i
 ·subst e;rw[gR (by omega),show w0.heap.size+i-w0.heap.size=i by omega,ff f];simp only[World.setCell,dC,dg,hb,dH];simp
 ·simp only[World.setCell,dC];rw[dk (dE e),h.heap];rcases fC k w0.heap.size with d|d
  ·rw[gE d,gE d]
  ·rw[gR d,gR d,dI (by omega)]
end
section
variable {P:Program} {N:mE} {Shun:Loc→Prop} {Q:Goroutine→World→Prop} {g g':Goroutine} {w0 w:World} {l:Array Obj}
theorem j8.ext(k:g.status=.running)(q:Ext w0 l w)(h:∀w',Ext w0 l w'→(stepG P true g w').goes fun g' f es=>(∀e∈es,EvL Shun f.heap.size e∧lX N (.ofEvent e))∧w'.heap.size≤f.heap.size∧j8 P (lX N) Shun Q g' f):j8 P (lX N) Shun Q g w :=
 j8.step (lX.mute N) k fun d=>by
  obtain⟨a',w',es,y,C,D,E⟩:=goes_elim (h (w.at d) (q.at d));exact⟨a',w',es,y,C,D,E⟩
theorem j8.ctl(d:g.status=.running)(e:Ext w0 l w)(h:∀w,stepG P true g w=.go g' w #[])(k:∀w',Ext w0 l w'→j8 P (lX N) Shun Q g' w'):j8 P (lX N) Shun Q g w :=
 j8.ext d e fun w' h'=>by
  rw[h w',fv];exact⟨by simp,dx _,k w' h'⟩
section
variable {b:Frame} {a:Act} {kk:List Item} {cs:List Frame} {ops:Array Oper} {i:Nat} {rest:List Nat} {o:Oper}
variable {elem:TypeId} {x:Operand} {B:Nat} {v:Value} {c:Array Value}
theorem j8.box(e:Ext w0 l w)(hB:B=w0.heap.size+l.size)(hx:a.eval x=v)(f:v.cells=c)(h:ops[i]?=some o)(hw:Region.wanted o (yielded ops a.tmps)=true)(q:b.kind≠.early)(d:o.op=.box elem x)(k:∀w',Ext w0 (l.push (.cells c elem)) w'→j8 P (lX N) Shun Q (G (b.at (a.put o.dst (ptr B)) (.inRegion ops rest::kk)) cs) w'):j8 P (lX N) Shun Q (G (b.at a (.inRegion ops (i::rest)::kk)) cs) w :=
 j8.ext rfl e fun w' h'=>by
  rw[zF h hw q d,fv,hx,f,show ptr w'.heap.size=ptr B by rw[hB,h'.size]];exact⟨by simp,by show w'.heap.size≤(w'.heap.push _).size;simp,k _ (h'.alloc _)⟩
theorem j8.alloc{elem:TypeId}{z:Value}{B:Nat}{c:Array Value}(f:Ext w0 l w)(hB:B=w0.heap.size+l.size)(h:z.cells=c)(q:ops[i]?=some o)(hw:Region.wanted o (yielded ops a.tmps)=true)(y:b.kind≠.early)(d:o.op=.alloc elem)(C:∀w,(zeroValue elem).run P w=.ok z w)(e:∀w es,(zeroValue elem).events P w es=es)(k:∀w',Ext w0 (l.push (.cells c elem)) w'→j8 P (lX N) Shun Q (G (b.at (a.put o.dst (ptr B)) (.inRegion ops rest::kk)) cs) w'):j8 P (lX N) Shun Q (G (b.at a (.inRegion ops (i::rest)::kk)) cs) w :=
 j8.ext rfl f fun w' h'=>by
  rw[xU q hw y d C e,fv,h,show ptr w'.heap.size=ptr B by rw[hB,h'.size]];exact⟨by simp,by show w'.heap.size≤(w'.heap.push _).size;simp,k _ (h'.alloc _)⟩
variable {t:TypeId}
theorem j8.makeChan{dir:ChanDir}{h:TypeInfo}{n:Nat}(q:Ext w0 l w)(hB:B=w0.heap.size+l.size)(y:ops[i]?=some o)(hw:Region.wanted o (yielded ops a.tmps)=true)(C:b.kind≠.early)(d:o.op=.makeChan t x)(hx:a.eval x=.int .i64 n)(D:P.underlying t=some (.chan dir elem))(e:P.info? elem=some h)(E:h.bytes*n≤2 ^ 48-112)(f:n<9223372036854775808)(k:∀w',Ext w0 (l.push (.chan n #[] false 0 0 false)) w'→j8 P (lX N) Shun Q (G (b.at (a.put o.dst (.chan (some B))) (.inRegion ops rest::kk)) cs) w'):j8 P (lX N) Shun Q (G (b.at a (.inRegion ops (i::rest)::kk)) cs) w :=
 j8.ext rfl q fun w' h'=>by
  rw[JF y hw C d hx D e E f,fv,show(some w'.heap.size)=some B by rw[hB,h'.size]];exact⟨by simp,by show w'.heap.size≤(w'.heap.push _).size;simp,k _ (h'.alloc _)⟩
theorem zH{ad:Addr}{wr:Bool}(e:¬Shun (.cell ad))(f:ad.block<B)(h:ad.block≠N.Wg):EvL Shun B ⟨.cell ad,wr,false⟩∧lX N (.ofEvent ⟨.cell ad,wr,false⟩):=by
 refine⟨⟨fun x hx d=>?_,by simp,by simp,?_⟩,lX.cell h⟩
 ·have:x.loc=.cell ad:=by cases wr<;>simp[MemAct.ofEvent,MemAct.touch?]at hx<;>(subst hx;rfl)
  rw[this]at d;exact absurd d e
 ·show ad.block<_;exact f
theorem j8.CG{y:Operand}{u:Value}{j off:Nat}{ty:TypeId}(C:Ext w0 l w)(hB:B=w0.heap.size+j)(D:ops[i]?=some o)(hw:Region.wanted o (yielded ops a.tmps)=true)(E:b.kind≠.early)(h:o.op=.store t x y)(hx:a.eval x=.pointer (some ⟨B,off,none⟩))(F:a.eval y=v)(H:(∃c,v=.chan (some c))∨∃k n,v=.int k n)(q:∀w,(isAgg t).run P w=.ok false w)(hsz:∀w,(sizeOf t).run P w=.ok 1 w)(f:l[j]?=some (.cells c ty (0,0)))(hu:c[off]?=some u)(I:(P.funcs[b.fn]?).any (·.norace)=false)(hS:∀b,w0.heap.size≤b→∀l,kL b l→¬Shun l)(hW:w0.heap.size+j≠N.Wg)(k:∀w',Ext w0 (l.setIfInBounds j (.cells (c.setIfInBounds off v) ty (0,0))) w'→j8 P (lX N) Shun Q (G (b.at (a.put o.dst undef) (.inRegion ops rest::kk)) cs) w'):j8 P (lX N) Shun Q (G (b.at a (.inRegion ops (i::rest)::kk)) cs) w :=
 j8.ext rfl C fun w' h'=>by
  subst hB;rw[Cz D hw E h hx F H q hsz ((h'.CE f off).trans hu) (h'.JG f off) I,fv];have d:(w'.setCell ⟨w0.heap.size+j,off,none⟩ v).heap.size=w'.heap.size:=by simp[World.setCell]
  refine⟨fun e he=>?_,by rw[d];exact dx _,k _ (h'.setCell f off v)⟩;rw[gT]at he;subst he;have J:j<l.size:=(dp.1 f).1;exact zH (hS _ (by omega) _ (show kL (w0.heap.size+j) (.cell ⟨w0.heap.size+j,off,none⟩) from rfl)) (by rw[d,h'.size];show w0.heap.size+j<_;omega) hW
end
end
end
section
open Go.Conc Go.ConcN Go.Conc.Lib Go.Proofs.YtjnkcibpkkjniaaGreat.j7
open Go.ConcR (KK wgBlock WgAt stA smA rd wr DC0)
structure WI where
 sp:Nat
 so:Nat
 id:Int
 xb:Nat
 xo:Nat
 xl:Nat
 xc:Nat
 nb:Nat
 no:Nat
 nl:Nat
 nc:Nat
def WI.s (p:WI):Value:=.pointer (some ⟨p.sp,p.so,none⟩)
def WI.xa (p:WI):Option Addr:=if p.xl=0 then none else some ⟨p.xb,p.xo,none⟩
variable {p:WI}
theorem WI.CH(h:0<p.xl):p.xa=some ⟨p.xb,p.xo,none⟩:=by unfold WI.xa;rw[dk (by omega)]
theorem WI.JH(h:p.xl=0):p.xa=none:=by unfold WI.xa;rw[dj h]
def WI.mW (p:WI):Value:=.slice (some ⟨p.nb,p.no,none⟩) p.nl p.nc
structure xV (p:WI) (w:World):Prop where
 hid:w.cell? ⟨p.sp,p.so,none⟩=some (.int .i64 p.id)
 hx:w.cell? ⟨p.sp,p.so+1,none⟩=some (.slice p.xa p.xl p.xc)
 ls:p.sp<w.heap.size
 pX:p.xl<2147483647
noncomputable def oT:Code:=match Tryz.f35.body with
 |some (.seq _ (.seq _ (.seq _ (.seq _ c))))=>c
 |_=>.skip
def nD (a b:Nat):Prop:=a=b
theorem nD.eq{a b:Nat}(h:nD a b):a=b:=h
structure WB where
 bS:Nat
 bN:Nat
 CB:Nat
 bC:Nat
 CF:Nat
 bG:Nat
 Wg:Nat
def WB.from (n:Nat):WB:=⟨n,n+1,n+2,n+3,n+4,n+5,n+6⟩
variable {P:Program} {t:TypeId}
theorem sg(h:((P.info? t).bind (·.zero)).isSome=true)(w:World)(es:Array Event):(zeroValue t).events P w es=es:=by
 cases d:P.info? t with
 |none=>rw[d]at h;cases h
 |some f =>
  cases e:f.zero with
  |none=>rw[d]at h;simp[e]at h
  |some z=>simp[zeroValue,typeInfo,d,e]
theorem zI{n:Nat}(h:((P.info? t).map (·.bytes))=some n):∃d,P.info? t=some d∧d.bytes=n:=by
 obtain⟨d,e,f⟩:=eg.1 h;exact⟨d,e,f⟩
section
variable {w0 w:World} {l:Array Obj} {N:mE} {Shun:Loc→Prop}
variable {Wg o:Nat} {wr:Bool}
theorem JI{B i:Nat}(d:Ext w0 l w)(hB:nD B (w0.heap.size+i))(f:i<l.size)(hS:∀b,w0.heap.size≤b→∀l,kL b l→¬Shun l)(hW:N.Wg=Wg)(e:nD Wg (w0.heap.size+6))(h:i≠6):EvL Shun w.heap.size ⟨.cell ⟨B,o,none⟩,wr,false⟩∧lX N (.ofEvent ⟨.cell ⟨B,o,none⟩,wr,false⟩):=by
 have k:B=w0.heap.size+i:=hB;have q:Wg=w0.heap.size+6:=e;exact zH (hS B (by omega) _ rfl) (by rw[d.size];show B<_;omega) (by show B≠_;omega)
theorem JJ{b:Nat}(d:Ext w0 l w)(hb:b<w0.heap.size)(hS:∀l,kL b l→¬Shun l)(hW:N.Wg=Wg)(e:nD Wg (w0.heap.size+6)):EvL Shun w.heap.size ⟨.cell ⟨b,o,none⟩,wr,false⟩∧lX N (.ofEvent ⟨.cell ⟨b,o,none⟩,wr,false⟩):=by
 have f:Wg=w0.heap.size+6:=e;exact zH (hS _ rfl) (by rw[d.size];show b<_;omega) (by show b≠_;omega)
end
theorem JK{N:mE}{Shun:Loc→Prop}{Q:Goroutine→World→Prop}{w0:World}{cs:List Frame}(hF:xV p w0){bS bN CB bC CF bG Wg:Nat}(F:nD bS (w0.heap.size+0))(R:nD bN (w0.heap.size+1))(T:nD CB (w0.heap.size+2))(L:nD bC (w0.heap.size+3))(U:nD CF (w0.heap.size+4))(M:nD bG (w0.heap.size+5))(D:nD Wg (w0.heap.size+6))(hW:N.Wg=Wg)(hS:∀b,w0.heap.size≤b→∀l,kL b l→¬Shun l)(H:∀l,kL p.sp l→¬Shun l)(q:∀w',Ext w0 #[.cells #[p.s] 33,.cells #[p.mW] 47,.chan p.xl #[] false 0 0 false,.cells #[.chan (some CB)] 141,.chan 0 #[] false 0 0 false,.cells #[.chan (some CF)] 142,wgBlock Tryz.link.tWg 0 0] w' →
   j8 Tryz.prog (lX N) Shun Q (G ((base 35).at ⟨#[p.s,p.mW,ptr bS,ptr bN,.slice none 0 0,ptr bC,ptr bG,ptr Wg,undef,p.s,p.s,.pointer (some ⟨p.sp,p.so+1,none⟩),.slice p.xa p.xl p.xc,.int .i64 p.xl,.chan (some CB),.chan (some CF),undef,undef,undef,undef,undef,undef,undef,undef,undef,undef,undef,undef,undef,undef,undef,undef,undef,undef,undef,undef],[]⟩ [.code oT]) cs) w'):j8 Tryz.prog (lX N) Shun Q (G ((base 35).at ⟨#[p.s,p.mW]++Array.replicate 34 undef,[]⟩ [.code (Tryz.f35.body.getD .skip)]) cs) w0:=by
 have f:Ext w0 #[] w0:=⟨by simp,rfl⟩;have O:=hF.pX;simp only[Tryz.f35,ez];walk_nrm
 (refine j8.ctl rfl f (fun _=>stepG_seq) (fun _ d=>?_);clear f;have f:=d;clear d)
 (refine j8.ctl rfl f (fun _=>fq) (fun _ d=>?_);clear f;have f:=d;clear d;simp only[gA,gB,gC,Nat.reduceAdd,dB,List.range,List.range.loop]);refine j8.box (c:=#[p.s]) f F.eq rfl rfl rfl rfl (by decide) rfl (fun _ h=>?_)
 (clear f;have f:=h;clear h)
 (simp only[ie,ig,ij,ik,iq,iu]at f;walk_nrm);refine j8.box (c:=#[p.mW]) f R.eq rfl rfl rfl rfl (by decide) rfl (fun _ h=>?_)
 (clear f;have f:=h;clear h)
 (simp only[ie,ig,ij,ik,iq,iu]at f;walk_nrm)
 (refine j8.ext rfl f (fun w' d=>?_);clear f;have f:=d;clear d;refine gD rfl rfl (by decide) (fun K k=>?_);go_simp;refine k _ _ ⟨fun e he=>?_,dx _,?_⟩;(focus(have hm:=gu he;simp[go_sem]at hm));clear k K)
 (refine j8.ctl rfl f (fun _=>stepG_region_end) (fun _ d=>?_);clear f;have f:=d;clear d)
 (refine j8.ctl rfl f (fun _=>stepG_seq) (fun _ d=>?_);clear f;have f:=d;clear d)
 (refine j8.ctl rfl f (fun _=>fq) (fun _ d=>?_);clear f;have f:=d;clear d;simp only[gA,gB,gC,Nat.reduceAdd,dB,List.range,List.range.loop])
 (refine j8.ext rfl f (fun w' d=>?_);clear f;have f:=d;clear d;refine gD rfl rfl (by decide) (fun K k=>?_);have I:=(Ext.cellAt (i:=0) (o:=0) (v:=.pointer (some ⟨p.sp,p.so,none⟩)) f F.eq rfl rfl);(try simp only[ptr]);go_simp;refine k _ _ ⟨fun e he=>?_,dx _,?_⟩;(focus(clear k q;have hm:=gu he;simp[go_sem,ptr, *]at hm;subst hm;exact(JI f F (by simp) hS hW D (by decide))));clear k K I)
 (refine j8.ext rfl f (fun w' d=>?_);clear f;have f:=d;clear d;refine gD rfl rfl (by decide) (fun K k=>?_);go_simp;refine k _ _ ⟨fun e he=>?_,dx _,?_⟩;(focus(have hm:=gu he;simp[go_sem]at hm));clear k K)
 (refine j8.ext rfl f (fun w' d=>?_);clear f;have f:=d;clear d;refine gD rfl rfl (by decide) (fun K k=>?_);go_simp;refine k _ _ ⟨fun e he=>?_,dx _,?_⟩;(focus(have hm:=gu he;simp[go_sem]at hm));clear k K)
 (refine j8.ext rfl f (fun w' d=>?_);clear f;have f:=d;clear d;refine gD rfl rfl (by decide) (fun K k=>?_);have I:=((Ext.zG f hF.ls (p.so+1)).trans hF.hx);(try simp only[ptr]);go_simp;refine k _ _ ⟨fun e he=>?_,dx _,?_⟩;(focus(clear k q;have hm:=gu he;simp[go_sem,ptr, *]at hm;subst hm;exact(JJ f hF.ls H hW D)));clear k K I)
 (refine j8.ext rfl f (fun w' d=>?_);clear f;have f:=d;clear d;refine gD rfl rfl (by decide) (fun K k=>?_);go_simp;refine k _ _ ⟨fun e he=>?_,dx _,?_⟩;(focus(have hm:=gu he;simp[go_sem]at hm));clear k K);obtain⟨Y,J,C⟩:=zI (P:=Tryz.prog) (t:=155) (n:=40) (by kernel_rfl);refine j8.makeChan (n:=p.xl) f T.eq rfl rfl (by decide) rfl rfl Tryz.underlying141 J (by rw[C];omega) (by omega) (fun _ h=>?_)
 (clear f;have f:=h;clear h)
 (simp only[ie,ig,ij,ik,iq,iu]at f;walk_nrm);refine j8.alloc (c:=#[.chan none]) f L.eq rfl rfl rfl (by decide) rfl Tryz.zeroValue141 (sg (by kernel_rfl)) (fun _ h=>?_)
 (clear f;have f:=h;clear h)
 (simp only[ie,ig,ij,ik,iq,iu]at f;walk_nrm);refine j8.CG (j:=3) (v:=.chan (some CB)) (u:=.chan none) f L.eq rfl rfl (by decide) rfl rfl rfl (.inl ⟨_,rfl⟩) Tryz.isAgg141 Tryz.sizeOf141 rfl rfl (by kernel_rfl) hS (by have V:Wg=w0.heap.size+6:=D;omega) (fun _ h=>?_)
 (clear f;have f:=h;clear h)
 (simp only[ie,ig,ij,ik,iq,iu]at f;walk_nrm)
 (refine j8.ctl rfl f (fun _=>stepG_region_end) (fun _ d=>?_);clear f;have f:=d;clear d)
 (refine j8.ctl rfl f (fun _=>stepG_seq) (fun _ d=>?_);clear f;have f:=d;clear d)
 (refine j8.ctl rfl f (fun _=>fq) (fun _ d=>?_);clear f;have f:=d;clear d;simp only[gA,gB,gC,Nat.reduceAdd,dB,List.range,List.range.loop]);obtain⟨W,E,y⟩:=zI (P:=Tryz.prog) (t:=143) (n:=0) (by kernel_rfl);refine j8.makeChan (n:=0) f U.eq rfl rfl (by decide) rfl rfl Tryz.underlying142 E (by rw[y];omega) (by omega) (fun _ h=>?_)
 (clear f;have f:=h;clear h)
 (simp only[ie,ig,ij,ik,iq,iu]at f;walk_nrm);refine j8.alloc (c:=#[.chan none]) f M.eq rfl rfl rfl (by decide) rfl Tryz.zeroValue142 (sg (by kernel_rfl)) (fun _ h=>?_)
 (clear f;have f:=h;clear h)
 (simp only[ie,ig,ij,ik,iq,iu]at f;walk_nrm);refine j8.CG (j:=5) (v:=.chan (some CF)) (u:=.chan none) f M.eq rfl rfl (by decide) rfl rfl rfl (.inl ⟨_,rfl⟩) Tryz.isAgg142 Tryz.sizeOf142 rfl rfl (by kernel_rfl) hS (by have V:Wg=w0.heap.size+6:=D;omega) (fun _ h=>?_)
 (clear f;have f:=h;clear h)
 (simp only[ie,ig,ij,ik,iq,iu]at f;walk_nrm)
 (refine j8.ctl rfl f (fun _=>stepG_region_end) (fun _ d=>?_);clear f;have f:=d;clear d)
 (refine j8.ctl rfl f (fun _=>stepG_seq) (fun _ d=>?_);clear f;have f:=d;clear d)
 (refine j8.ctl rfl f (fun _=>fq) (fun _ d=>?_);clear f;have f:=d;clear d;simp only[gA,gB,gC,Nat.reduceAdd,dB,List.range,List.range.loop]);refine j8.alloc f D.eq rfl rfl rfl (by decide) rfl Tryz.zeroValue151 (sg (by kernel_rfl)) (fun _ h=>?_)
 (clear f;have f:=h;clear h)
 (simp only[ie,ig,ij,ik,iq,iu]at f;walk_nrm)
 (refine j8.ctl rfl f (fun _=>stepG_region_end) (fun _ d=>?_);clear f;have f:=d;clear d);exact q _ f
end
section
open Go.Conc Go.ConcN Go.Proofs.YtjnkcibpkkjniaaGreat.j7
open Go.ConcR (KK wgBlock WgAt stA smA rd wr DC0)
variable [Scope]
structure zJ (s s':St) (B:Nat) (o:Obj) (w w':World):Prop where
 j:s'.j=s.j
 p:s'.p=s.p
 d0:s'.d0=s.d0
 V:s'.V=fun b=>s.V b∨b=B
 W:s'.W=fun b=>s.W b∨b=B
 sp:s'.tag=.sp↔s.tag=.sp
 got:s'.got=s.got
 val:∀i∈s.got,(s'.D i).v=(s.D i).v
 heap:∀b,s.V b→w'.heap[b]?=w.heap[b]?
 new:w'.heap[B]?=some o
 out:¬s.V B
 base:Scope.base≤B
variable {X:Ctx} {s:St} {w:World} {a:Goroutine}
theorem At.new[ki X.P][lu X.P](C:X.Good)(h:At X s w a)(hr:a.status=.running){o:Obj}{a':Nat→Goroutine}(e:∀w₁,stepG X.P true a w₁=.go (a' w₁.heap.size) (w₁.alloc o) #[]):∃s' w' B,At X s' w' (a' B)∧zJ s s' B o w w':=by
 obtain⟨s',w',y,D,B,rfl,E⟩:=h.go C hr (Post:=fun s' w' y=>∃B,y=a' B∧zJ s s' B o w w') fun s1 w1 d f=>by
  obtain⟨J,F,t1,f⟩:=f;have K:(w1.alloc o).heap.size=w1.heap.size+1:=by show(w1.heap.push o).size=_;simp
  refine⟨_,_,_,s1.d0,e w1,by omega,rfl,fun b hb _=>?_,by simp,rfl,fun tag' G H=>⟨w1.heap.size,rfl,d.j,d.p,d.d0,?_,?_,H.trans d.sp,d.got,d.val,fun b hb=>?_,?_,fun I=>?_,f.base⟩⟩
  ·show(w1.heap.push o)[b]?=_;rw[gX hb,dq hb]
  ·funext b;refine propext ⟨fun h=>h.imp (fun k=>by rw[←d.V];exact k) fun k=>?_,fun h=>h.imp (fun k=>by rw[d.V];exact k) fun k=>?_⟩
   ·have:=k.2;omega
   ·subst k;exact⟨dx _,by omega⟩
  ·funext b;refine propext ⟨fun h=>h.imp (fun k=>by rw[←d.W];exact k) fun k=>?_,fun h=>h.imp (fun k=>by rw[d.W];exact k) fun k=>?_⟩
   ·have:=k.2;omega
   ·subst k;exact⟨dx _,by omega⟩
  ·have q:b<w1.heap.size:=(f.j2.v b (by rw[d.V];exact hb)).1;rw[←d.heap b hb];show(w1.heap.push o)[b]?=_;rw[gX q,dq q]
  ·show(w1.heap.push o)[w1.heap.size]?=_;simp
  ·have:=(f.j2.v _ (by rw[d.V];exact I)).1;omega
 exact⟨s',w',B,D,E⟩
theorem At.facts(h:At X s w a):WgLive X.N.ty X.N.Wg w∧∀b,s.V b→b<w.heap.size∧b≠X.N.Wg∧b≠X.N.CB∧b≠X.N.CF:=by
 obtain⟨n,gs,sl,t,d⟩:=h;obtain⟨st,sm,hw,_⟩:=d.pY.wg;exact⟨⟨st,sm,hw⟩,fun b hb=>by have:=d.pY.j2.v b hb;exact⟨this.1,this.2.1,this.2.2.1,this.2.2.2.1⟩⟩
end
section
open Go.Conc Go.ConcN Go.Conc.Lib Go.ConcR.Gen Go.ConcN.Gen Go.Proofs.YtjnkcibpkkjniaaGreat.j7
open Go.ConcR (KK wgBlock WgAt stA smA rd wr mk DC0)
variable [Scope]
noncomputable def xW:Array Oper:=match Tryz.f61.body with
 |some (.seq (.region _ ops _) _)=>ops
 |_=>#[]
noncomputable def vY:Array Oper:=match Tryz.f61.body with
 |some (.seq _ (.region _ ops _))=>ops
 |_=>#[]
def qM (b:Nat) (x:Nat):Prop:=x=b
abbrev FC (bG CF:Nat) (w:World):Prop:=w.cell? ⟨bG,0,none⟩=some (.chan (some CF))
noncomputable def zK (Wg bG:Nat):Act:=⟨#[box Wg,box bG,undef,undef],[]⟩
noncomputable def JL (Wg bG:Nat):Frame:=(baseD 61).at (zK Wg bG) [.inRegion xW [0],.code (.region 1 vY false)]
noncomputable def uh (Wg bG CF:Nat):Goroutine→World→Prop:=xL Tryz.link (FC bG CF) Wg (JL Wg bG) [qq Tryz.prog]
abbrev vd (Wg bG:Nat):World→World→Prop:=RK Tryz.link.tWg Wg (qM bG)
variable {Wg bG CF:Nat}
theorem zL(d:bG≠Wg):sd (vd Wg bG) (FC bG CF) Tryz.link.tWg Wg :=
 ⟨RK.trans,fun _ _ h=>h.live,fun _ _ h hF=>(gv (h.keep _ rfl) 0).trans hF,fun w a v e hF=>by
  have:=(aside_setCell w a v).block bG (by rw[e];exact d);exact(gv this 0).trans hF⟩
variable {N:mE}
theorem JM(hN:N.CF=CF∧N.Wg=Wg∧N.ty=Tryz.link.tWg)(v:Value)(w:World)(hF:FC bG CF w):Goes Tryz.prog false (vd Wg bG) (DQ (qM bG)) (AtClose Tryz.prog N) 5 (G ((baseD 61).at ⟨#[box Wg,box bG,v,undef],[]⟩ [.inRegion xW [],.code (.region 1 vY false)]) [qq Tryz.prog]) w:=by
 ((refine gp rfl (fun _ d=>?_);replace hF:FC _ _ _:=(gv (RK.keep d _ rfl) 0).trans hF;clear d);rw[stepG_region_end];simp only[fv];refine⟨DQ.nil,?_⟩);simp only[vY,Tryz.f61]
 ((refine gp rfl (fun _ d=>?_);replace hF:FC _ _ _:=(gv (RK.keep d _ rfl) 0).trans hF;clear d);rw[fq];simp only[fv,gA,gB,gC,Nat.reduceAdd,dB,List.range,List.range.loop];refine⟨DQ.nil,?_⟩)
 (refine gp rfl (fun _ d=>?_);replace hF:FC _ _ _:=(gv (RK.keep d _ rfl) 0).trans hF;clear d);refine gD rfl rfl (by decide) (fun K f=>?_);simp only[box]at *;go_simp;refine f _ _ ⟨⟨⟨_,rfl⟩,fun e he=>?_⟩,?_⟩
 ·have hm:=gu he;simp[go_sem, *]at hm;subst hm;exact⟨_,rfl,rfl⟩
 clear f K;refine fM fun w₁ d=>?_
 replace hF:FC _ _ _:=(gv (RK.keep d _ rfl) 0).trans hF;clear d;refine⟨rfl,rfl,fun h=>?_⟩;obtain⟨rfl,rfl,_⟩:=hN;refine⟨_,stepG_close rfl rfl (by decide) rfl rfl h (by kernel_rfl),4,?_⟩
 q_c stepG_region_end
 q_c fU
 exact Cl Tryz.func61 rfl
theorem JN(hN:N.CF=CF∧N.Wg=Wg∧N.ty=Tryz.link.tWg)(e:bG≠Wg)(g:Goroutine)(w:World)(h:uh Wg bG CF g w):∃m,Goes Tryz.prog false (RK N.ty N.Wg (qM bG)) DC0 (vL Tryz.prog false (RK N.ty N.Wg (qM bG)) N.ty N.Wg (uh Wg bG CF) (Nx Tryz.prog N (qM bG) 5)) m g w:=by
 obtain⟨q,y,f⟩:=hN;subst y;rw[f];have:=IQ (mn:=false) (mT:=0) (Next:=Nx Tryz.prog N (qM bG) 5) Tryz.uc (zL e) (b₀:=baseD 61) (a₀:=zK N.Wg bG) (ops₀:=xW) (i₀:=0) (rest₀:=[]) (k₀:=[.code (.region 1 vY false)]) (cs:=[qq Tryz.prog])
  (fun w hF C=>fM fun w₁ d=>?_) g w h
 ·exact this
 ·show Goes Tryz.prog false (RK N.ty N.Wg (qM bG)) (DQ (qM bG)) (AtClose Tryz.prog N) 5 _ _;rw[f];have k:FC bG CF w₁:=(gv (RK.keep d _ rfl) 0).trans hF;exact JM ⟨q,rfl,f⟩ (.tuple #[]) w₁ k
theorem JO(e:bG≠Wg){w:World}(hF:FC bG CF w)(f:WgLive Tryz.link.tWg Wg w):Goes Tryz.prog false (vd Wg bG) (DQ (qM bG)) (oy Tryz.prog false (vd Wg bG) (mk .disable) (uh Wg bG CF)) 7 (born Tryz.prog (oP 61 #[box Wg,box bG])) w:=by
 have hF:=And.intro hF f;have rl:∀{w w₁:World},FC bG CF w∧WgLive Tryz.link.tWg Wg w→vd Wg bG w w₁→FC bG CF w₁∧WgLive Tryz.link.tWg Wg w₁:=fun h r=>(zL e).rl h r
 refine gp rfl fun w₁ d=>?_
 replace hF:=rl hF d;clear d;rw[Ck Tryz.func61 rfl rfl];simp only[fv];refine⟨DQ.nil,?_⟩
 walk_nrmf Tryz.f61
 refine gp rfl fun w₁ d=>?_
 replace hF:=rl hF d;clear d;rw[stepG_seq];simp only[fv];refine⟨DQ.nil,?_⟩;refine gp rfl fun w₁ d=>?_
 replace hF:=rl hF d;clear d;rw[fq];simp only[fv,gA,gB,gC,dB,List.range,List.range.loop];refine⟨DQ.nil,?_⟩;refine gp rfl fun w₁ d=>?_
 replace hF:=rl hF d;clear d;refine ft rfl rfl (by decide) rfl Tryz.uc.f_wait rfl rfl ⟨DQ.nil,?_⟩;walk_nrm;refine Goes.mono (n:=3) (Goes.u7 (fun _ _ _ h=>DQ.pF h) ?_) (by decide);have k:=IU (mn:=false) (R:=vd Wg bG) Tryz.uc (zL e) (b₀:=baseD 61) (a₀:=zK Wg bG) (ops₀:=xW) (i₀:=0) (rest₀:=[]) (k₀:=[.code (.region 1 vY false)]) (cs:=[qq Tryz.prog]) _ hF;exact k
end
end Go.Proofs.YtjnkcibpkkjniaaGreat.kj
