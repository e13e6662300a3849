import Derived.Test.YtjnkcibpkkjniaaGreatA00
import Derived.Test.YtjnkcibpkkjniaaGreatA08
set_option linter.all false
namespace Go.Proofs.YtjnkcibpkkjniaaGreat.kj
section
open Go.Conc Go.ConcN Go.Proofs.YtjnkcibpkkjniaaGreat.j7
open Go.ConcR (KK wgBlock WgAt stA smA rd wr mk DC0)
variable [Scope]
theorem qL{ty:TypeId}{Wg:Nat}{w w':World}{st sm:Int}(h:WgAt ty Wg w st sm)(e:w'.heap[Wg]?=w.heap[Wg]?):WgAt ty Wg w' st sm:=e.trans h
theorem rH(w:World)(a:Addr)(v:Value){b:Nat}(h:b≠a.block):(w.setCell a v).heap[b]?=w.heap[b]?:=by rw[uL,dk h]
theorem vU{es:Array Event}(h:∀e∈es,e.loc≠.mark .disable∧e.loc≠.mark .enable)(d:Nat):deafBehind d es=d:=Go.Conc.deafBehind_still h d
section
variable {X:Ctx} {s:St} {n:Nat} {gs:Array Goroutine} {w w':World} {t:Trace}
variable {es:Array Event}
theorem Rl.zz{N:mE}{k r:Nat}(h:Rl N t k r)(fn:FuncId)(pos:String)(b:∀e∈es,(MemAct.ofEvent e).touch? = none):Rl N (t++MemOp.ofEvents k fn pos es) k r :=
 h.appOwn fn pos es fun j e he=>.inl (b e (dw he))
variable {i:Nat} {g g':Goroutine} {x:WD} {st' sm':Int}
theorem ku.quiet(E:X.Good)(h:ku X s n gs w t)(O:i<s.j)(Q:gs[X.N.B+i]?=some g)(R:WSit X.P X.N X.pk X.m0 X.t0 X.Gt X.J i (n+1) x g' w')(T:∀i',i'<X.N.n→i'≠i→kp (kr X.P X.pk (X.N.B+i') X.m0 X.t0) (n+1)=kp (kr X.P X.pk (X.N.B+i') X.m0 X.t0) n)(c:∀b,b≠X.N.Wg→w'.heap[b]?=w.heap[b]?)(hsz:w'.heap.size=w.heap.size)(F:w'.os=w.os)(z:x.ρ=(s.D i).ρ)(G:WgAt X.N.ty X.N.Wg w' st' sm')(f:∀tag',(tag'=s.tag∨(s.tag=.blk∧tag'=.w3))→(mayWake X.P g=true→g'.status=.running→tag'≠.blk)→Mode s.j s.p (upd s.D i x) tag' st' sm')(H:∀e∈es,(MemAct.ofEvent e).touch? = none∨(∃a wr,e=⟨.cell a,wr,true⟩∧a.block=X.N.Wg)∨(∃a:Addr,e=⟨.cell a,false,false⟩∧(X.J i).S a.block))(A:∀e∈es,(MemAct.ofEvent e).low w.heap.size)(I:∀e∈es,e.loc≠.mark (.release (stA X.N.Wg)))(l:deafBehind (s.D i).deaf es=x.deaf)(hrel:(s.D i).stage≤6→∀r,Rl X.N t (X.N.B+i) r→Rl X.N (t++MemOp.ofEvents (X.N.B+i) g.frame.fn g.frame.place es) (X.N.B+i) r)(m:x.stage≤6→(s.D i).stage≤6∨∃r,Rl X.N (t++MemOp.ofEvents (X.N.B+i) g.frame.fn g.frame.place es) (X.N.B+i) r)(o:x.stage≤7↔(s.D i).stage≤7)(C:(s.D i).stage≤7→x.v=(s.D i).v)(q:(x.stage<(s.D i).stage∧cnt x≤cnt (s.D i))∨(x.stage=(s.D i).stage∧x.fuel<(s.D i).fuel)):∃s',ku X s' (n+1) ((gs.map (woken X.P g g' w')).setIfInBounds (X.N.B+i) g') w' (t++MemOp.ofEvents (X.N.B+i) g.frame.fn g.frame.place es)∧Lt2 (meas X s') (meas X s)∧qK s s'∧s'.got=s.got∧s'.wait=s.wait:=by
 have K:i<X.N.n:=by have:=h.jn;omega
 refine h.worker E O Q R T (by omega) F (fun b hb=>c b (h.j2.v b hb).2.1) (c _ (dE E.kq.1)) (c _ (dE E.kq.2.1))
  (fun i' U V=>Leaves.block fun b p hb=>c _ (h.j2.lt i' U b p hb).2.2.1) (by rw[z];exact Grow.refl _ _) (fun b p hb=>by rw[z]at hb;rw[hsz];exact(h.j2.lt i K b p hb).1) G f
  (fun op L a y hm=>?_) (fun e he=>by rw[hsz];exact A e he) I l hrel m o C q
 obtain⟨_,e,he,M⟩:=nC L;rw[M]at y;rcases H e he with k|⟨ad,wr,rfl,k⟩|⟨ad,rfl,k⟩
 ·rw[k]at y;cases y
 ·have:a=⟨.cell ad,wr,.atomic⟩:=by cases wr<;>simp[MemAct.ofEvent,MemAct.touch?]at y<;>exact y.symm
  subst this;exact .inl ⟨.inl ⟨ad,rfl,k⟩,by simp,by simp⟩
 ·have:a=⟨.cell ad,false,.plain⟩:=by simp[MemAct.ofEvent,MemAct.touch?]at y;exact y.symm
  subst this;exact .inr (.inr ⟨ad.block,rfl,k,rfl⟩)
theorem ku.reads(y:X.Good)(h:ku X s n gs w t)(o:i<s.j)(z:gs[X.N.B+i]?=some g)(A:WSit X.P X.N X.pk X.m0 X.t0 X.Gt X.J i (n+1) x g' w')(C:∀i',i'<X.N.n→i'≠i→kp (kr X.P X.pk (X.N.B+i') X.m0 X.t0) (n+1)=kp (kr X.P X.pk (X.N.B+i') X.m0 X.t0) n)(hd:DQ (X.J i).S w w' es)(q:x.ρ=(s.D i).ρ)(G:7≤(s.D i).stage)(E:7≤x.stage)(c:x.deaf=(s.D i).deaf)(f:x.stage≤7↔(s.D i).stage≤7)(m:(s.D i).stage≤7→x.v=(s.D i).v)(l:(x.stage<(s.D i).stage∧cnt x≤cnt (s.D i))∨(x.stage=(s.D i).stage∧x.fuel<(s.D i).fuel)):∃s',ku X s' (n+1) ((gs.map (woken X.P g g' w')).setIfInBounds (X.N.B+i) g') w' (t++MemOp.ofEvents (X.N.B+i) g.frame.fn g.frame.place es)∧Lt2 (meas X s') (meas X s)∧qK s s'∧s'.got=s.got∧s'.wait=s.wait:=by
 obtain⟨⟨d,rfl⟩,b⟩:=hd;obtain⟨st,sm,hw,hm⟩:=h.wg;have r:Mode s.j s.p (upd s.D i x) s.tag st sm:=hm.counted o (by omega) (by omega);refine h.quiet y o z A C (fun _ _=>rfl) rfl rfl q (st':=st) (sm':=sm) hw (fun tag' F _=>r.retag F) (fun e he=>?_) (fun e he=>?_) (fun e he=>?_) ?_ (fun k=>by omega) (fun k=>by omega) f m l
 ·obtain⟨a,rfl,hS⟩:=b e he;exact .inr (.inr ⟨a,rfl,hS⟩)
 ·obtain⟨a,rfl,hS⟩:=b e he;exact(h.j2.v _ (h.j2.sj i o _ hS).1).1
 ·obtain⟨a,rfl,hS⟩:=b e he;simp
 ·rw[c];refine vU (fun e he=>?_) _;obtain⟨a,rfl,hS⟩:=b e he;simp
theorem ku.idle(q:X.Good)(h:ku X s n gs w t)(y:i<s.j)(z:gs[X.N.B+i]?=some g)(A:WSit X.P X.N X.pk X.m0 X.t0 X.Gt X.J i (n+1) x g' w')(C:∀i',i'<X.N.n→i'≠i→kp (kr X.P X.pk (X.N.B+i') X.m0 X.t0) (n+1)=kp (kr X.P X.pk (X.N.B+i') X.m0 X.t0) n)(hd:DC0 w w' es)(m:x.ρ=(s.D i).ρ)(b:x.stage=(s.D i).stage)(c:x.deaf=(s.D i).deaf)(l:x.v=(s.D i).v)(f:x.fuel<(s.D i).fuel):∃s',ku X s' (n+1) ((gs.map (woken X.P g g' w')).setIfInBounds (X.N.B+i) g') w' (t++MemOp.ofEvents (X.N.B+i) g.frame.fn g.frame.place es)∧Lt2 (meas X s') (meas X s)∧qK s s'∧s'.got=s.got∧s'.wait=s.wait:=by
 obtain⟨rfl,rfl⟩:=hd;obtain⟨st,sm,hw,hm⟩:=h.wg;have o:Mode s.j s.p (upd s.D i x) s.tag st sm:=hm.congr fun a _=>by
  by_cases e:a=i
  ·subst e;rw[fg,b]
  ·rw[fi s.D x e]
 refine h.quiet q y z A C (fun _ _=>rfl) rfl rfl m (st':=st) (sm':=sm) hw (fun tag' E _=>o.retag E) (by simp) (by simp) (by simp) ?_ (fun k r hr=>hr.zz _ _ (by simp)) (fun k=>.inl (by omega)) (by rw[b]) (fun _=>l) (.inr ⟨b,f⟩);rw[c];rfl
theorem Mode.add{j p:Nat}{D:Nat→WD}{tag:Tg}{st sm:Int}(hm:Mode j p D tag st sm)(c:i<j)(A:(D i).stage=5):sm=0∧∃v wt:Nat,wt≤1∧v<j+p∧st=((v:Int)+1)*KK+wt ∧
   ((v=0∧wt=1)→∀x:WD,x.stage=4→Mode j p (upd D i x) tag ((v:Int)*KK+wt) 0)∧(¬(v=0∧wt=1)→∀x:WD,x.stage=1→Mode j p (upd D i x) tag ((v:Int)*KK+wt) 0):=by
 have c1:cnt (D i)=1:=by simp[cnt,A]
 have B:1≤Vc j D:=by
  have:=le_sumTo (f:=fun i=>cnt (D i)) c;simp only[c1]at this;exact this
 have C:=Vc_le j D;have up:∀x:WD,cnt x=0→Vc j (upd D i x)=Vc j D-1:=fun x hx=>by
  have:=Vc_upd D x c;omega
 have op:OpenSt j D→∀x:WD,x.stage=1→OpenSt j (upd D i x):=fun E x hx a m=>by
  by_cases e:a=i
  ·subst e;rw[fg];exact .inr hx
  ·rw[fi D _ e];exact E a m
 cases hm with
 |opn o b q =>
  refine⟨rfl,Vc j D+p-1,0,by omega,by omega,?_,fun h=>absurd h.2 (by omega),fun _ x hx=>?_⟩
  ·have:((Vc j D+p-1:Nat):Int)+1=((Vc j D+p:Nat):Int):=by omega
   rw[this];simp
  ·have e:=up x (by simp[cnt,hx]);have:((Vc j D+p-1:Nat):Int)*KK+((0:Nat):Int)=((Vc j (upd D i x)+p:Nat):Int)*KK:=by rw[e];simp only[KK];omega
   rw[this];exact .opn o (op b x hx) fun vs F=>by have:=q vs F;omega
 |reg o y b q =>
  refine⟨rfl,Vc j D-1,1,by omega,by omega,?_,fun h x hx=>?_,fun h x hx=>?_⟩
  ·have:((Vc j D-1:Nat):Int)+1=((Vc j D:Nat):Int):=by omega
   rw[this];simp
  ·have z:Vc j D=1:=by omega
   have l:=others_uncounted c z c1;have:((Vc j D-1:Nat):Int)*KK+((1:Nat):Int)=if(upd D i x i).stage=2 then 0 else 1:=by rw[fg,hx,z];simp
   rw[this];refine .last i o y c (.inl (by rw[fg,hx])) fun a m e=>?_
   rw[fi D _ e];rcases b a m with k|k
   ·have:=l a m e;simp[cnt,k]at this
   ·exact k
  ·have e:=up x (by simp[cnt,hx]);have r:1≤Vc j (upd D i x):=by
    rw[e];rcases fC 1 (Vc j D)with k|k
    ·omega
    ·exact absurd ⟨by omega,rfl⟩ h
   have:((Vc j D-1:Nat):Int)*KK+((1:Nat):Int)=((Vc j (upd D i x):Nat):Int)*KK+1:=by rw[e];simp
   rw[this];exact .reg o y (op b x hx) r
 |last L _ _ b q G =>
  by_cases e:i=L
  ·subst e;omega
  ·have:=G i c e;omega
 |sema _ _ b=>have:=b i c;omega
 |fin _ _ b=>have:=b i c;omega
variable {a:Addr}
theorem uf(c:a.block=X.N.Wg)(h:es=#[rd a,wr a]∨es=#[rd a]∨es=#[wr a]∨es=semEvents a):(∀e∈es,(MemAct.ofEvent e).touch? = none∨(∃a wr,e=⟨.cell a,wr,true⟩∧a.block=X.N.Wg))∧(∀B,X.N.Wg<B→∀e∈es,(MemAct.ofEvent e).low B)∧(∀e∈es,e.loc≠.mark (.release (stA X.N.Wg)))∧deafBehind 1 es=1 ∧
   (∀j e,es[j]?=some e→(MemAct.ofEvent e).touch? = none∨((∃ad wr,e=⟨.cell ad,wr,true⟩∧ad.block=X.N.Wg)∧0<deafBehind 1 (es.extract 0 j))):=by
 have b:∀(x:Bool) B,X.N.Wg<B→(MemAct.ofEvent ⟨.cell a,x,true⟩).low B:=fun x B hB=>by
  show a.block<B;rw[c];exact hB
 rcases h with rfl|rfl|rfl|rfl
 ·refine⟨fun e he=>?_,fun B hB e he=>?_,fun e he=>?_,rfl,fun j e he=>?_⟩
  ·simp[rd,wr]at he;rcases he with rfl|rfl<;>exact .inr ⟨a,_,rfl,c⟩
  ·simp[rd,wr]at he;rcases he with rfl|rfl<;>exact b _ B hB
  ·simp[rd,wr]at he;rcases he with rfl|rfl<;>simp
  ·match j,he with
   |0,he=>simp[rd,wr]at he;subst he;exact .inr ⟨⟨a,_,rfl,c⟩,by simp[deafBehind]⟩
   |1,he=>simp[rd,wr]at he;subst he;exact .inr ⟨⟨a,_,rfl,c⟩,by simp[rd,wr,deafBehind]⟩
   |j+2,he=>simp at he
 ·refine⟨fun e he=>?_,fun B hB e he=>?_,fun e he=>?_,rfl,fun j e he=>?_⟩
  ·simp[rd]at he;subst he;exact .inr ⟨a,_,rfl,c⟩
  ·simp[rd]at he;subst he;exact b _ B hB
  ·simp[rd]at he;subst he;simp
  ·match j,he with
   |0,he=>simp[rd]at he;subst he;exact .inr ⟨⟨a,_,rfl,c⟩,by simp[deafBehind]⟩
   |j+1,he=>simp at he
 ·refine⟨fun e he=>?_,fun B hB e he=>?_,fun e he=>?_,rfl,fun j e he=>?_⟩
  ·simp[wr]at he;subst he;exact .inr ⟨a,_,rfl,c⟩
  ·simp[wr]at he;subst he;exact b _ B hB
  ·simp[wr]at he;subst he;simp
  ·match j,he with
   |0,he=>simp[wr]at he;subst he;exact .inr ⟨⟨a,_,rfl,c⟩,by simp[deafBehind]⟩
   |j+1,he=>simp at he
 ·refine⟨fun e he=>?_,fun B hB e he=>?_,fun e he=>?_,rfl,fun j e he=>?_⟩
  ·simp[semEvents]at he;rcases he with rfl|rfl|rfl|rfl
   ·exact .inl rfl
   ·exact .inr ⟨a,_,rfl,c⟩
   ·exact .inr ⟨a,_,rfl,c⟩
   ·exact .inl rfl
  ·simp[semEvents]at he;rcases he with rfl|rfl|rfl|rfl
   ·trivial
   ·exact b _ B hB
   ·exact b _ B hB
   ·trivial
  ·simp[semEvents]at he;rcases he with rfl|rfl|rfl|rfl<;>simp
  ·match j,he with
   |0,he=>simp[semEvents]at he;subst he;exact .inl rfl
   |1,he=>simp[semEvents]at he;subst he;exact .inr ⟨⟨a,_,rfl,c⟩,by simp[semEvents,deafBehind]⟩
   |2,he=>simp[semEvents]at he;subst he;exact .inr ⟨⟨a,_,rfl,c⟩,by simp[semEvents,deafBehind]⟩
   |3,he=>simp[semEvents]at he;subst he;exact .inl rfl
   |j+4,he=>simp[semEvents]at he
theorem ku.vV(F:X.Good)(h:ku X s n gs w t)(C:i<s.j)(G:gs[X.N.B+i]?=some g)(H:WSit X.P X.N X.pk X.m0 X.t0 X.Gt X.J i (n+1) x g' w')(I:∀i',i'<X.N.n→i'≠i→kp (kr X.P X.pk (X.N.B+i') X.m0 X.t0) (n+1)=kp (kr X.P X.pk (X.N.B+i') X.m0 X.t0) n)(E:a.block=X.N.Wg)(c:(∃v,w'=w.setCell a v)∨w'=w)(m:es=#[rd a,wr a]∨es=#[rd a]∨es=#[wr a]∨es=semEvents a)(o:x.ρ=(s.D i).ρ)(q:WgAt X.N.ty X.N.Wg w' st' sm')(f:∀tag',(tag'=s.tag∨(s.tag=.blk∧tag'=.w3))→(mayWake X.P g=true→g'.status=.running→tag'≠.blk)→Mode s.j s.p (upd s.D i x) tag' st' sm')(K:(s.D i).stage≤6)(y:x.stage<(s.D i).stage)(hd:(s.D i).deaf=1)(z:x.deaf=1)(l:x.v=(s.D i).v):∃s',ku X s' (n+1) ((gs.map (woken X.P g g' w')).setIfInBounds (X.N.B+i) g') w' (t++MemOp.ofEvents (X.N.B+i) g.frame.fn g.frame.place es)∧Lt2 (meas X s') (meas X s)∧qK s s'∧s'.got=s.got∧s'.wait=s.wait:=by
 obtain⟨k1,k2,L,M,O⟩:=uf (X:=X) E m;have k:∀b,b≠X.N.Wg→w'.heap[b]?=w.heap[b]?:=fun b hb=>by
  rcases c with⟨v,rfl⟩|rfl
  ·rw[uL,dk (by rw[E];exact hb)]
  ·rfl
 have hsz:w'.heap.size=w.heap.size:=by
  rcases c with⟨v,rfl⟩|rfl
  ·simp[World.setCell]
  ·rfl
 have A:w'.os=w.os:=by rcases c with⟨v,rfl⟩|rfl<;>rfl
 obtain⟨g0,Q,R,kG⟩:=h.wk i C;refine h.quiet F C G H I k hsz A o q f (fun e he=>(k1 e he).imp id .inl) (k2 _ h.j2.kq.1) L (by rw[hd,z,M]) (fun _ r hr=>hr.appOwn _ _ _ fun j e he=>?_) (fun _=>.inl K) (by omega) (fun _=>l) (.inl ⟨y,?_⟩)
 ·rw[kG,hd];exact O j e he
 ·simp only[cnt];split<;>split<;>omega
theorem ku.turns[ki X.P][lu X.P](H:X.Good){sl:Option (Nat×Nat)}(h:ku X s n gs w t)(af:runNT X.P n X.m0 X.t0=(.next (crowd gs w sl),t)){d:Nat}{j0:Option (Nat×Nat)}(F:i<s.j)(Y:gs[X.N.B+i]?=some g)(aj:g.status=.running)(an:X.pk (crowd gs w sl)=(X.N.B+i,d,j0))(h':ku X s n gs (w.at d) t):(∃v' ,(s.D i).stage=8∧(s.D i).v=v'∧AtSend X.P X.N (X.J i).S ((X.J i).msg v') g (w.at d)∧j7.kp (kr X.P X.pk (X.N.B+i) X.m0 X.t0) (n+1)=j7.kp (kr X.P X.pk (X.N.B+i) X.m0 X.t0) (n+1)) ∨
  ∃g' w' es s',stepG X.P false g (w.at d)=.go g' w' es∧ku X s' (n+1) ((gs.map (woken X.P g g' w')).setIfInBounds (X.N.B+i) g') w' (t++MemOp.ofEvents (X.N.B+i) g.frame.fn g.frame.place es)∧Lt2 (meas X s') (meas X s)∧qK s s'∧s'.got=s.got∧s'.wait=s.wait∧∀b,s.V b→w'.heap[b]?=w.heap[b]?:=by
 have ab:i<X.N.n:=by have:=h.jn;omega
 have hB:=H.pos;have aE:(X.N.B+i == 0)=false:=by simp;omega
 have Z:=zd (P:=X.P) (pk:=X.pk) (i0:=X.N.B+i) af Y (by rw[an]);rw[an,aE]at Z;simp only at Z;have hn:∀i',i'<X.N.n→i'≠i→kp (kr X.P X.pk (X.N.B+i') X.m0 X.t0) (n+1)=kp (kr X.P X.pk (X.N.B+i') X.m0 X.t0) n:=fun i' _ aL=>by
  have:=tU (P:=X.P) (pk:=X.pk) (i0:=X.N.B+i') af (by rw[an];simp only;omega);simp[kp,this]
 obtain⟨g0,av,hs,kG⟩:=h'.wk i F;obtain rfl:g0=g:=by rw[Y]at av;exact(eX av).symm
 obtain⟨st,sm,hw,hm⟩:=h'.wg;have G:∀{w1:World},(∀b,b≠X.N.Wg→w1.heap[b]?=(w.at d).heap[b]?)→∀b,s.V b→w1.heap[b]?=w.heap[b]?:=fun e b hb=>e b (h.j2.v b hb).2.1
 generalize l:s.D i=x0 at hs kG
 cases hs with
 | @pre m g w1 Q I =>
  rcases gM Q with z|⟨M,rfl,A⟩
  ·obtain⟨_,c,cs,R,aa⟩:=z _ (RK.refl _);have R:=R _ (RK.refl _);have aM:kp (kr X.P X.pk (X.N.B+i) X.m0 X.t0) (n+1)=kp (kr X.P X.pk (X.N.B+i) X.m0 X.t0) n:=by
    have:nn (stepG X.P false g0 (w.at d))=w.at d:=by rw[R];rfl
    simp only[kp,Z,this];show _+(d-d)=_;omega
   have hJ:=H.pW i ab;obtain⟨K,nT,wE,e,hK,⟨v,rfl,hR⟩,aN,ak,aw⟩:=zb (hJ.calls fun x q=>X.Gt i (kp (kr X.P X.pk (X.N.B+i) X.m0 X.t0) (n+1)+x) q) (by rintro w' ⟨v,hv,_⟩;cases hv);have hE:uU X.P (zu X.P (X.J i) fun x q=>X.Gt i (kp (kr X.P X.pk (X.N.B+i) X.m0 X.t0) (n+1)+x) q) K nT wE:=⟨hK,aw.2.2,aw.2.1⟩;have U:=mV.start (P:=X.P) hJ.Cj hJ.rel I (c::cs) (fun x q=>X.Gt i (kp (kr X.P X.pk (X.N.B+i) X.m0 X.t0) (n+1)+x) q) K;have o:WSit X.P X.N X.pk X.m0 X.t0 X.Gt X.J i (n+1) ⟨9,K-0,0,(X.J i).ρ,undef⟩ { frame:=Frame.enter X.P (X.J i).f (X.J i).lF .normal,callers:=c::cs,status:=.running,dying:=none } (w.at d):=.rE rfl (gN _) hE ak hR U aa (Gn.refl _);obtain⟨s',kk⟩:=h'.reads H F Y o hn (DQ.pF ⟨rfl,rfl⟩) (by rw[l]) (by rw[l];simp) (by simp) (by rw[l]) (by rw[l];simp) (by rw[l];intro k;exact absurd k (by simp)) (.inl (by rw[l];exact⟨by simp,by simp[cnt]⟩));exact .inr ⟨_,_,_,s',R,kk.1,kk.2.1,kk.2.2.1,kk.2.2.2.1,kk.2.2.2.2,fun _ _=>rfl⟩
  ·obtain⟨g',w',es,L,E,e3⟩:=A _ (RK.refl _);have o:WSit X.P X.N X.pk X.m0 X.t0 X.Gt X.J i (n+1) ⟨10,M,0,(X.J i).ρ,undef⟩ g' w':=by
    obtain⟨⟨d',rfl⟩,_⟩:=E;exact .pre e3 (HR.leaves H.sync I (Leaves.of_heap rfl) rfl)
   obtain⟨s',kk⟩:=h'.reads H F Y o hn E (by rw[l]) (by rw[l];simp) (by simp) (by rw[l]) (by rw[l]) (by rw[l];simp) (.inr (by rw[l];simp));exact .inr ⟨_,_,_,s',L,kk.1,kk.2.1,kk.2.2.1,kk.2.2.2.1,kk.2.2.2.2,G fun b _=>by obtain⟨⟨d',rfl⟩,_⟩:=E;rfl⟩
 | @rE k K d0 D T ρ c cs gS g wS w1 wE nT v hT aF hE ak hR U aa ax =>
  have ag:∀j q,(w.at d).drawn+j<(nn (stepG X.P false g0 (w.at d))).drawn→(w.at d).tape ((w.at d).drawn+j) q=T (D+j) q:=by
   intro j q hj;have:=H.glue i n j q (by rw[Z];exact hj);rw[Z,BO af]at this;rw[hT];simp only;rw[←dK,aF];exact this.symm
  have ad:∀b p,ρ b=some p→p.block<(w.at d).heap.size∧¬s.V p.block∧p.block≠X.N.Wg∧p.block≠X.N.CB∧p.block≠X.N.CF:=fun b p hb=>h'.j2.lt i ab b p (by rw[l];exact hb)
  have ay:∀{ρ':jR}{w':World}{es:Array Event},Grow ρ (w.at d) ρ'→(∀b p,ρ' b=some p→p.block<w'.heap.size)→(∀e∈es,nj ρ' e) →
    (∀e∈es,(∀a,(MemAct.ofEvent e).touch? = some a→a.loc.isMemory=true→qs ρ' a.loc)∧(MemAct.ofEvent e).low w'.heap.size∧e.loc≠.mark (.release (stA X.N.Wg))∧e.loc≠.mark .disable∧e.loc≠.mark .enable):=by
   intro ρ' w' es _ hl W e he;have:=W e he;obtain⟨loc,wr,sy⟩:=e;unfold nj at this
   cases loc with
   |cell a =>
    refine⟨fun b hb hm=>?_,?_,by simp,by simp,by simp⟩
    ·simp only[MemAct.ofEvent,MemAct.touch?,dR]at hb;subst hb;exact this
    ·obtain⟨b,p,Q,I,_⟩:=this;show a.block<_;rw[←I];exact hl b p Q
   |obj r =>
    refine⟨fun b hb hm=>?_,?_,by simp,by simp,by simp⟩
    ·cases wr<;>cases sy<;>simp[MemAct.ofEvent,MemAct.touch?]at hb<;>subst hb<;>exact this
    ·obtain⟨b,hb⟩:=this;have:=hl b _ hb
     cases wr<;>cases sy<;>exact this
   |mark m =>
    obtain rfl:m=.noRoom:=this;exact⟨fun b hb hm=>by simp[MemAct.ofEvent,MemAct.touch?]at hb,trivial,by simp,by simp,by simp⟩
   |output =>
    refine⟨fun b hb hm=>?_,trivial,by simp,by simp,by simp⟩;simp only[MemAct.ofEvent,MemAct.touch?,dR]at hb;subst hb
    cases hm
   |_=>exact this.elim
  have al:∀{ρ':jR}{az w':World},HR ρ' az w'→∀b p,ρ' b=some p→p.block<w'.heap.size:=fun hr b p hb=>(hr.lt hb).2
  by_cases ah:AtEnd [cap X.P] gS
  ·obtain⟨rfl,L,rfl⟩:=U.at_end hE ah;obtain⟨v',w',es,ρ',r0,r1,r2,r3,r4,r5⟩:=U.leave (v:=v) (by rw[L];exact ak) ah.1 false ag;have C:∀b,b<(w.at d).heap.size→(∀y p,ρ y=some p→p.block≠b)→w'.heap[b]?=(w.at d).heap[b]?:=fun b hb ao=>r2.other b hb ao
   have ae:∀b,s.V b→w'.heap[b]?=(w.at d).heap[b]?:=fun b hb=>C b (h'.j2.v b hb).1 fun y p hy e=>(ad y p hy).2.1 (e▸hb)
   have ai:w'.heap[X.N.Wg]?=(w.at d).heap[X.N.Wg]?:=C _ h'.j2.kq.1 fun y p hy=>(ad y p hy).2.2.1
   have aA:(X.J i).ok v':=(H.pW i ab).shape v _ _ _ hR r5;obtain⟨m,aG⟩:=(aa.rely (w₁:=w') ⟨fun b hb=>ae b (h'.j2.sj i F b hb).1,fun⟨a,b,k⟩=>⟨a,b,qL k ai⟩⟩) v' aA;have o:WSit X.P X.N X.pk X.m0 X.t0 X.Gt X.J i (n+1) ⟨8,m,0,ρ',v'⟩ _ w':=.post aG ⟨aA,ax.grow h'.base r1,v,_,r4,r5,hR⟩;have W:=ay r1 (al r4) r3;obtain⟨s',kk⟩:=h'.worker H F Y o hn r2.size r2.os ae (C _ h'.j2.kq.2.1 fun y p hy=>(ad y p hy).2.2.2.1) (C _ h'.j2.kq.2.2 fun y p hy=>(ad y p hy).2.2.2.2)
    (fun i' Q I=>Kept.leaves r2 (by have:=h'.j2.apart i i' ab Q (dE I);rw[l]at this;exact this) fun b p hb=>(h'.j2.lt i' Q b p hb).1) (by rw[l];exact r1) (al r4) (st':=st) (sm':=sm) (qL hw ai)
    (fun tag' ht _=>(hm.counted F (by rw[l];simp) (by simp)).retag ht) (fun op ap a ha aq=>by
     obtain⟨_,e,he,ar⟩:=nC ap;rw[ar]at ha;exact .inr (.inl ((W e he).1 a ha aq))) (fun e he=>(W e he).2.1) (fun e he=>(W e he).2.2.1) (by rw[l];exact vU (fun e he=>(W e he).2.2.2) _) (fun k=>by rw[l]at k;simp at k) (fun k=>by simp at k) (by rw[l];simp) (by rw[l];intro k;exact absurd k (by simp)) (.inl (by rw[l];exact⟨by simp,by simp[cnt]⟩))
   exact .inr ⟨_,_,_,s',r0,kk.1,kk.2.1,kk.2.2.1,kk.2.2.2.1,kk.2.2.2.2,ae⟩
  ·obtain⟨g',w',es,ρ',aO,az,r0,r1,r2,r3,r4⟩:=U.step hE ah false ag;have C:∀b,b<(w.at d).heap.size→(∀y p,ρ y=some p→p.block≠b)→w'.heap[b]?=(w.at d).heap[b]?:=fun b hb ao=>r2.other b hb ao
   have ae:∀b,s.V b→w'.heap[b]?=(w.at d).heap[b]?:=fun b hb=>C b (h'.j2.v b hb).1 fun y p hy e=>(ad y p hy).2.1 (e▸hb)
   have ai:w'.heap[X.N.Wg]?=(w.at d).heap[X.N.Wg]?:=C _ h'.j2.kq.1 fun y p hy=>(ad y p hy).2.2.1
   have aJ:=r4.le;have aB:d0+(D+(w'.drawn-(w.at d).drawn))=kp (kr X.P X.pk (X.N.B+i) X.m0 X.t0) (n+1):=by
    have:nn (stepG X.P false g0 (w.at d))=w':=by rw[r0];rfl
    simp only[kp,Z,this];show d0+(D+(w'.drawn-d))=_;omega
   have o:WSit X.P X.N X.pk X.m0 X.t0 X.Gt X.J i (n+1) ⟨9,K-(k+1),0,ρ',undef⟩ g' w':=.rE hT aB hE ak hR r4 (aa.rely ⟨fun b hb=>ae b (h'.j2.sj i F b hb).1,fun⟨a,b,k⟩=>⟨a,b,qL k ai⟩⟩) (ax.grow h'.base r1);have W:=ay r1 (al r4.hr) r3;obtain⟨s',kk⟩:=h'.worker H F Y o hn r2.size r2.os ae (C _ h'.j2.kq.2.1 fun y p hy=>(ad y p hy).2.2.2.1) (C _ h'.j2.kq.2.2 fun y p hy=>(ad y p hy).2.2.2.2)
    (fun i' Q I=>Kept.leaves r2 (by have:=h'.j2.apart i i' ab Q (dE I);rw[l]at this;exact this) fun b p hb=>(h'.j2.lt i' Q b p hb).1) (by rw[l];exact r1) (al r4.hr) (st':=st) (sm':=sm) (qL hw ai)
    (fun tag' ht _=>(hm.counted F (by rw[l];simp) (by simp)).retag ht) (fun op ap a ha aq=>by
     obtain⟨_,e,he,ar⟩:=nC ap;rw[ar]at ha;exact .inr (.inl ((W e he).1 a ha aq))) (fun e he=>(W e he).2.1) (fun e he=>(W e he).2.2.1) (by rw[l];exact vU (fun e he=>(W e he).2.2.2) _) (fun k=>by rw[l]at k;simp at k) (fun k=>by simp at k) (by rw[l]) (by rw[l];intro k;exact absurd k (by simp)) (.inr (by rw[l];exact⟨rfl,by show K-(k+1)<K-k;omega⟩))
   exact .inr ⟨_,_,_,s',r0,kk.1,kk.2.1,kk.2.2.1,kk.2.2.2.1,kk.2.2.2.2,ae⟩
 | @post m ρ v' g w1 Q I =>
  rcases gM Q with z|⟨M,rfl,A⟩
  ·exact .inl ⟨v',rfl,rfl,z _ (RK.refl _),rfl⟩
  ·obtain⟨g',w',es,L,E,e3⟩:=A _ (RK.refl _);have o:WSit X.P X.N X.pk X.m0 X.t0 X.Gt X.J i (n+1) ⟨8,M,0,ρ,v'⟩ g' w':=by
    obtain⟨⟨d',rfl⟩,_⟩:=E;exact .post e3 (I.leaves H.sync (Leaves.of_heap rfl) rfl)
   obtain⟨s',kk⟩:=h'.reads H F Y o hn E (by rw[l]) (by rw[l];simp) (by simp) (by rw[l]) (by rw[l]) (by rw[l];simp) (.inr (by rw[l];simp));exact .inr ⟨_,_,_,s',L,kk.1,kk.2.1,kk.2.2.1,kk.2.2.2.1,kk.2.2.2.2,G fun b _=>by obtain⟨⟨d',rfl⟩,_⟩:=E;rfl⟩
 | @r0 m ρ v' g w1 Q I =>
  rcases gM Q with z|⟨M,rfl,A⟩
  ·obtain⟨_,g',L,M,E⟩:=z _ (RK.refl _);have o:WSit X.P X.N X.pk X.m0 X.t0 X.Gt X.J i (n+1) ⟨6,M,0,ρ,v'⟩ g' (w.at d):=.k1 E I;obtain⟨s',kk⟩:=h'.quiet H F Y o hn (fun _ _=>rfl) rfl rfl (by rw[l]) (st':=st) (sm':=sm) hw (fun tag' ht _=>(hm.counted F (by rw[l];simp) (by simp)).retag ht) (es:=#[Go.ConcR.mk (.releaseMerge (stA X.N.Wg))])
    (fun e he=>by simp at he;subst he;exact .inl rfl) (fun e he=>by simp at he;subst he;exact h'.j2.kq.1) (fun e he=>by simp at he;subst he;simp[Go.ConcR.mk]) (by rw[l];rfl) (fun k=>by rw[l]at k;simp at k)
    (fun _=>.inr ⟨_,Rl.new kG _ _⟩) (by rw[l];simp) (by rw[l];simp) (.inl (by rw[l];exact⟨by simp,by simp[cnt]⟩))
   exact .inr ⟨_,_,_,s',L,kk.1,kk.2.1,kk.2.2.1,kk.2.2.2.1,kk.2.2.2.2,fun _ _=>rfl⟩
  ·obtain⟨g',w',es,L,E,e3⟩:=A _ (RK.refl _);have o:WSit X.P X.N X.pk X.m0 X.t0 X.Gt X.J i (n+1) ⟨7,M,0,ρ,v'⟩ g' w':=by
    obtain⟨⟨d',rfl⟩,_⟩:=E;exact .r0 e3 (I.leaves H.sync (Leaves.of_heap rfl) rfl)
   obtain⟨s',kk⟩:=h'.reads H F Y o hn E (by rw[l]) (by rw[l];simp) (by simp) (by rw[l]) (by rw[l]) (by rw[l];simp) (.inr (by rw[l];simp));exact .inr ⟨_,_,_,s',L,kk.1,kk.2.1,kk.2.2.1,kk.2.2.2.1,kk.2.2.2.2,G fun b _=>by obtain⟨⟨d',rfl⟩,_⟩:=E;rfl⟩
 | @k1 m ρ v' g w1 Q I =>
  rcases gM Q with z|⟨M,rfl,A⟩
  ·obtain⟨_,g',L,M,E⟩:=z _ (RK.refl _);have o:WSit X.P X.N X.pk X.m0 X.t0 X.Gt X.J i (n+1) ⟨5,M,1,ρ,v'⟩ g' (w.at d):=.d1 E I;obtain⟨s',kk⟩:=h'.quiet H F Y o hn (fun _ _=>rfl) rfl rfl (by rw[l]) (st':=st) (sm':=sm) hw (fun tag' ht _=>(hm.counted F (by rw[l];simp) (by simp)).retag ht) (es:=#[Go.ConcR.mk .disable])
    (fun e he=>by simp at he;subst he;exact .inl rfl) (fun e he=>by simp at he;subst he;trivial) (fun e he=>by simp at he;subst he;simp[Go.ConcR.mk]) (by rw[l];rfl) (fun _ r hr=>hr.zz _ _ (fun e he=>by simp at he;subst he;rfl))
    (fun _=>.inl (by rw[l];simp)) (by rw[l];simp) (by rw[l];simp) (.inl (by rw[l];exact⟨by simp,by simp[cnt]⟩))
   exact .inr ⟨_,_,_,s',L,kk.1,kk.2.1,kk.2.2.1,kk.2.2.2.1,kk.2.2.2.2,fun _ _=>rfl⟩
  ·obtain⟨g',w',es,L,E,e3⟩:=A _ (RK.refl _);have o:WSit X.P X.N X.pk X.m0 X.t0 X.Gt X.J i (n+1) ⟨6,M,0,ρ,v'⟩ g' w':=.k1 e3 (by obtain⟨rfl,_⟩:=E;exact I);obtain⟨s',kk⟩:=h'.idle H F Y o hn E (by rw[l]) (by rw[l]) (by rw[l]) (by rw[l]) (by rw[l];simp);exact .inr ⟨_,_,_,s',L,kk.1,kk.2.1,kk.2.2.1,kk.2.2.2.1,kk.2.2.2.2,by obtain⟨rfl,_⟩:=E;exact fun _ _=>rfl⟩
 | @d1 m ρ v' g w1 Q I =>
  rcases gM Q with z|⟨M,rfl,A⟩
  ·obtain⟨aH,v,wt,a1,a2,a3,a4,a5⟩:=hm.add F (by rw[l]);subst aH a3;have aK:=H.pX;have aP:=h.jn;obtain⟨_,R⟩:=z _ (RK.refl _);obtain⟨g',L,E,e3⟩:=R v wt a1 (by omega) hw;have O:Done (X.J i) ρ v' ((w.at d).setCell (stA X.N.Wg) (.int .u64 ((v:Int)*KK+wt))):=I.leaves H.sync (Leaves.block fun b p hb=>rH _ _ _ (h'.j2.lt i ab b p (by rw[l];exact hb)).2.2.1) rfl;have aC:=hw.setSt ((v:Int)*KK+wt)
   by_cases hl:v=0∧wt=1
   ·obtain⟨M,e4⟩:=E hl;have o:WSit X.P X.N X.pk X.m0 X.t0 X.Gt X.J i (n+1) ⟨4,M,1,ρ,v'⟩ g' _:=.d2 e4 O;obtain⟨s',kk⟩:=h'.vV H F Y o hn (a:=stA X.N.Wg) rfl (.inl ⟨_,rfl⟩) (.inl rfl) (by rw[l]) aC (fun tag' ht _=>(a4 hl _ rfl).retag ht) (by rw[l];simp) (by rw[l];simp) (by rw[l]) rfl (by rw[l]);exact .inr ⟨_,_,_,s',L,kk.1,kk.2.1,kk.2.2.1,kk.2.2.2.1,kk.2.2.2.2,G fun b hb=>rH _ _ _ hb⟩
   ·obtain⟨q,e4⟩:=e3 hl;have o:WSit X.P X.N X.pk X.m0 X.t0 X.Gt X.J i (n+1) ⟨1,q,1,ρ,v'⟩ g' _:=.quit e4 O;obtain⟨s',kk⟩:=h'.vV H F Y o hn (a:=stA X.N.Wg) rfl (.inl ⟨_,rfl⟩) (.inl rfl) (by rw[l]) aC (fun tag' ht _=>(a5 hl _ rfl).retag ht) (by rw[l];simp) (by rw[l];simp) (by rw[l]) rfl (by rw[l]);exact .inr ⟨_,_,_,s',L,kk.1,kk.2.1,kk.2.2.1,kk.2.2.2.1,kk.2.2.2.2,G fun b hb=>rH _ _ _ hb⟩
  ·obtain⟨g',w',es,L,E,e3⟩:=A _ (RK.refl _);have o:WSit X.P X.N X.pk X.m0 X.t0 X.Gt X.J i (n+1) ⟨5,M,1,ρ,v'⟩ g' w':=.d1 e3 (by obtain⟨rfl,_⟩:=E;exact I);obtain⟨s',kk⟩:=h'.idle H F Y o hn E (by rw[l]) (by rw[l]) (by rw[l]) (by rw[l]) (by rw[l];simp);exact .inr ⟨_,_,_,s',L,kk.1,kk.2.1,kk.2.2.1,kk.2.2.2.1,kk.2.2.2.2,by obtain⟨rfl,_⟩:=E;exact fun _ _=>rfl⟩
 | @d2 m ρ v' g w1 Q I =>
  rcases gM Q with z|⟨M,rfl,A⟩
  ·obtain⟨l1,l0,l2,l3,rfl⟩:=hm.isLast F (.inl (by rw[l]));rw[l]at l3;obtain rfl:st=1:=by simpa using l3
   obtain⟨_,R⟩:=z _ (RK.refl _);obtain⟨g',L,M,E⟩:=R hw;have o:WSit X.P X.N X.pk X.m0 X.t0 X.Gt X.J i (n+1) ⟨3,M,1,ρ,v'⟩ g' (w.at d):=.d3 E I;obtain⟨s',kk⟩:=h'.vV H F Y o hn (a:=stA X.N.Wg) rfl (.inr rfl) (.inr (.inl rfl)) (by rw[l]) hw (fun tag' ht _=>by
    have:Mode s.j s.p (upd s.D i ⟨3,M,1,ρ,v'⟩) s.tag (if(upd s.D i ⟨3,M,1,ρ,v'⟩ i).stage=2 then 0 else 1) 0:=.last i l1 l0 F (.inr (.inl (by rw[fg]))) fun a ha e=>by rw[fi s.D _ e];exact l2 a ha e
    rw[fg]at this;exact this.retag ht) (by rw[l];simp) (by rw[l];simp) (by rw[l]) rfl (by rw[l])
   exact .inr ⟨_,_,_,s',L,kk.1,kk.2.1,kk.2.2.1,kk.2.2.2.1,kk.2.2.2.2,fun _ _=>rfl⟩
  ·obtain⟨g',w',es,L,E,e3⟩:=A _ (RK.refl _);have o:WSit X.P X.N X.pk X.m0 X.t0 X.Gt X.J i (n+1) ⟨4,M,1,ρ,v'⟩ g' w':=.d2 e3 (by obtain⟨rfl,_⟩:=E;exact I);obtain⟨s',kk⟩:=h'.idle H F Y o hn E (by rw[l]) (by rw[l]) (by rw[l]) (by rw[l]) (by rw[l];simp);exact .inr ⟨_,_,_,s',L,kk.1,kk.2.1,kk.2.2.1,kk.2.2.2.1,kk.2.2.2.2,by obtain⟨rfl,_⟩:=E;exact fun _ _=>rfl⟩
 | @d3 m ρ v' g w1 Q I =>
  rcases gM Q with z|⟨M,rfl,A⟩
  ·obtain⟨l1,l0,l2,l3,rfl⟩:=hm.isLast F (.inr (.inl (by rw[l])));rw[l]at l3;obtain rfl:st=1:=by simpa using l3
   obtain⟨_,R⟩:=z _ (RK.refl _);obtain⟨g',L,M,E⟩:=R hw;have O:Done (X.J i) ρ v' ((w.at d).setCell (stA X.N.Wg) (.int .u64 0)):=I.leaves H.sync (Leaves.block fun b p hb=>rH _ _ _ (h'.j2.lt i ab b p (by rw[l];exact hb)).2.2.1) rfl;have o:WSit X.P X.N X.pk X.m0 X.t0 X.Gt X.J i (n+1) ⟨2,M,1,ρ,v'⟩ g' _:=.d4 E O;obtain⟨s',kk⟩:=h'.vV H F Y o hn (a:=stA X.N.Wg) rfl (.inl ⟨_,rfl⟩) (.inr (.inr (.inl rfl))) (by rw[l]) (hw.setSt 0) (fun tag' ht _=>by
    have:Mode s.j s.p (upd s.D i ⟨2,M,1,ρ,v'⟩) s.tag (if(upd s.D i ⟨2,M,1,ρ,v'⟩ i).stage=2 then 0 else 1) 0:=.last i l1 l0 F (.inr (.inr (by rw[fg]))) fun a ha e=>by rw[fi s.D _ e];exact l2 a ha e
    rw[fg]at this;exact this.retag ht) (by rw[l];simp) (by rw[l];simp) (by rw[l]) rfl (by rw[l])
   exact .inr ⟨_,_,_,s',L,kk.1,kk.2.1,kk.2.2.1,kk.2.2.2.1,kk.2.2.2.2,G fun b hb=>rH _ _ _ hb⟩
  ·obtain⟨g',w',es,L,E,e3⟩:=A _ (RK.refl _);have o:WSit X.P X.N X.pk X.m0 X.t0 X.Gt X.J i (n+1) ⟨3,M,1,ρ,v'⟩ g' w':=.d3 e3 (by obtain⟨rfl,_⟩:=E;exact I);obtain⟨s',kk⟩:=h'.idle H F Y o hn E (by rw[l]) (by rw[l]) (by rw[l]) (by rw[l]) (by rw[l];simp);exact .inr ⟨_,_,_,s',L,kk.1,kk.2.1,kk.2.2.1,kk.2.2.2.1,kk.2.2.2.2,by obtain⟨rfl,_⟩:=E;exact fun _ _=>rfl⟩
 | @d4 m ρ v' g w1 Q I =>
  rcases gM Q with z|⟨M,rfl,A⟩
  ·obtain⟨l1,l0,l2,l3,rfl⟩:=hm.isLast F (.inr (.inr (by rw[l])));rw[l]at l3;obtain rfl:st=0:=by simpa using l3
   obtain⟨_,aI,R⟩:=z _ (RK.refl _);obtain⟨g',L,q,E⟩:=R hw;have O:Done (X.J i) ρ v' ((w.at d).setCell (smA X.N.Wg) (.int .u32 1)):=I.leaves H.sync (Leaves.block fun b p hb=>rH _ _ _ (h'.j2.lt i ab b p (by rw[l];exact hb)).2.2.1) rfl;have o:WSit X.P X.N X.pk X.m0 X.t0 X.Gt X.J i (n+1) ⟨1,q,1,ρ,v'⟩ g' _:=.quit E O;have au:g'.status=.running:=by
    cases q with
    |zero=>exact absurd E.2 (by decide)
    |succ q=>rcases E with k|k;exact absurd k.2 (by decide);exact k.1
   obtain⟨s',kk⟩:=h'.vV H F Y o hn (a:=smA X.N.Wg) rfl (.inl ⟨_,rfl⟩) (.inr (.inr (.inr rfl))) (by rw[l]) (hw.setSm 1) (fun tag' ht hk=>by
    refine .sema ?_ l0 fun a ha=>?_
    ·have:=hk aI au;rcases ht with rfl|⟨_,rfl⟩
     ·cases hh:s.tag<;>rw[hh]at l1 this<;>first|exact .inl rfl|exact .inr rfl|exact l1.elim|exact absurd rfl this
     ·exact .inl rfl
    ·by_cases e:a=i
     ·subst e;rw[fg]
     ·rw[fi s.D _ e];exact l2 a ha e) (by rw[l];simp) (by rw[l];simp) (by rw[l]) rfl (by rw[l])
   exact .inr ⟨_,_,_,s',L,kk.1,kk.2.1,kk.2.2.1,kk.2.2.2.1,kk.2.2.2.2,G fun b hb=>rH _ _ _ hb⟩
  ·obtain⟨g',w',es,L,E,e3⟩:=A _ (RK.refl _);have o:WSit X.P X.N X.pk X.m0 X.t0 X.Gt X.J i (n+1) ⟨2,M,1,ρ,v'⟩ g' w':=.d4 e3 (by obtain⟨rfl,_⟩:=E;exact I);obtain⟨s',kk⟩:=h'.idle H F Y o hn E (by rw[l]) (by rw[l]) (by rw[l]) (by rw[l]) (by rw[l];simp);exact .inr ⟨_,_,_,s',L,kk.1,kk.2.1,kk.2.2.1,kk.2.2.2.1,kk.2.2.2.2,by obtain⟨rfl,_⟩:=E;exact fun _ _=>rfl⟩
 | @quit q dd ρ v' g w1 Q I =>
  cases q with
  |zero=>rw[Q.1]at aj;cases aj
  |succ q =>
   rcases Q with⟨hf,_⟩|⟨_,g',es,am,aD,hq⟩
   ·rw[hf]at aj;cases aj
   have o:WSit X.P X.N X.pk X.m0 X.t0 X.Gt X.J i (n+1) ⟨1,q,deafBehind dd es,ρ,v'⟩ g' (w.at d):=.quit hq I;obtain⟨s',kk⟩:=h'.quiet H F Y o hn (fun _ _=>rfl) rfl rfl (by rw[l]) (st':=st) (sm':=sm) hw (fun tag' ht _=>(hm.congr fun a _=>by
     by_cases e:a=i
     ·subst e;rw[fg,l]
     ·rw[fi s.D _ e]).retag ht)
    (fun e he=>.inl (touch_mute (am e he))) (fun e he=>low_mute (am e he) _) (fun e he=>by have:=am e he;intro k;obtain⟨loc,wr,sy⟩:=e;simp only at k;subst k;cases this) (by rw[l]) (fun _ r hr=>hr.zz _ _ (fun e he=>touch_mute (am e he)))
    (fun _=>.inl (by rw[l];simp)) (by rw[l]) (by rw[l];simp) (.inr (by rw[l];simp))
   exact .inr ⟨_,_,_,s',aD _,kk.1,kk.2.1,kk.2.2.1,kk.2.2.2.1,kk.2.2.2.2,fun _ _=>rfl⟩
end
end
section
open Go.Conc Go.ConcN Go.Proofs.YtjnkcibpkkjniaaGreat.j7
open Go.ConcR (KK wgBlock WgAt stA smA rd wr mk DC0)
variable [Scope]
theorem PT.zA{Sh Shun:Loc→Prop}{Own Rd:Nat→Loc→Prop}{K:Nat→Prop}{c:Nat}:∀(u:List MemOp){t:Trace},PT Sh Shun Own Rd K c t→(∀op∈u,op.act.touch? = none)→PT Sh Shun Own Rd K c (t++u.toArray)
 |[],t,h,_=>by simpa using h
 |x::l,t,h,f=>by
  have e:t++(x::l).toArray=(t++#[x])++l.toArray:=by apply Array.ext';simp
  rw[e];exact PT.zA l (h.appMute (g:=x.g) (fun op b=>by simp at b;rw[b]) (fun op b=>by simp at b;rw[b];exact f x (by simp))) fun op b=>f op (by simp[b])
section
variable {X:Ctx} {s:St} {n:Nat} {gs gs':Array Goroutine} {w w':World} {t u:Trace}
theorem ug(w:World)(c cap:Nat)(buf:Array Value)(cl:Bool)(a b:Nat)(e:Bool)(x:Nat):(w.setChan c cap buf cl a b e).heap[x]?=if c=x∧c<w.heap.size then some (.chan cap buf cl a b e) else w.heap[x]?:=by
 unfold World.setChan;simp only;rw[dr]
 by_cases h:c=x
 ·subst h
  by_cases f:c<w.heap.size
  ·simp[f]
  ·simp[f]
 ·simp[h]
structure Js (X:Ctx) (s:St) (i:Nat) (w:World) (u:Trace):Prop where
 touch:∀op∈u,op.act.touch? = none
 low:∀op∈u,op.act.low w.heap.size
 TT:∀op∈u,op.g=0∨op.g=X.N.B+i
 still:∀op∈u,op.act≠.mark .disable∧op.act≠.mark .enable
 norel:∀op∈u,op.act≠.mark (.release (stA X.N.Wg))
theorem Rl.qu{N:mE}{k r:Nat}(h:Rl N t k r)(hu:∀op∈u,op.act.touch? = none):Rl N (t++u) k r:=by
 refine⟨h.rel.app fun i m o q=>?_,fun i op x hr m y hx hm=>?_⟩
 ·obtain⟨x,hx,_⟩:=q;obtain⟨op,c,b⟩:=fE hx;rcases fF c with⟨z,_⟩|⟨_,e⟩
  ·omega
  ·rw[hu op e]at b;cases b
 ·rcases fF m with⟨_,f⟩|⟨_,l⟩
  ·exact h.soft i op x hr f y hx hm
  ·rw[hu op l]at hx;cases hx
variable {g':Goroutine}
theorem ku.sent(L:X.Good)(h:ku X s n gs w t){i:Nat}(W:i<s.j)(h8:(s.D i).stage=8){m:Nat}(hsz:gs'.size=gs.size)(Z:gs'[X.N.B+i]?=some g')(hgo:∀k,k≠X.N.B+i→0<k→gs'[k]?=gs[k]?)(hs:WSit X.P X.N X.pk X.m0 X.t0 X.Gt X.J i (n+1) ⟨7,m,0,(s.D i).ρ,(s.D i).v⟩ g' w')(hn:∀i',i'<X.N.n→i'≠i→kp (kr X.P X.pk (X.N.B+i') X.m0 X.t0) (n+1)=kp (kr X.P X.pk (X.N.B+i') X.m0 X.t0) n){got' wait':List Nat}(hl:got'++wait'=s.got++s.wait++[i]){d:Nat}(A:w'=(w.at d).setChan X.N.CB X.N.n (wait'.map fun i=>(X.J i).msg (s.D i).v).toArray false (got'.length+wait'.length) got'.length false)(hu:Js X s i w u):∃s',ku X s' (n+1) gs' w' (t++u)∧Lt2 (meas X s') (meas X s)∧qK s s'∧s'.got=got'∧s'.wait=wait'∧s'.D i=⟨7,m,0,(s.D i).ρ,(s.D i).v⟩∧∀i',i'≠i→s'.D i'=s.D i':=by
 have ab:=h.jn;have O:i<X.N.n:=by omega
 have hB:=L.pos;have Q:w'.heap[X.N.CB]?=some (.chan X.N.n (wait'.map fun i=>(X.J i).msg (s.D i).v).toArray false (got'.length+wait'.length) got'.length false):=by
  rw[A,ug,dj ⟨rfl,h.j2.kq.2.1⟩]
 have f:∀b,b≠X.N.CB→w'.heap[b]?=w.heap[b]?:=fun b hb=>by
  rw[A,ug,dk (fun e=>hb e.1.symm)];rfl
 have y:w'.heap.size=w.heap.size:=by rw[A];simp[World.setChan,World.at]
 have F:w'.os=w.os:=by rw[A];rfl
 have c:∀k,Deaf (t++u) k=Deaf t k:=fun k=>gO t k u hu.still
 have R:∀S:Nat→Prop,(∀b,S b→s.V b)→RK X.N.ty X.N.Wg S w w':=fun S hS=>⟨fun b hb=>f b (h.j2.v b (hS b hb)).2.2.1,fun⟨a,b,k⟩=>⟨a,b,qL k (f _ L.kq.1)⟩⟩
 have T:∀i',i'<X.N.n→Leaves (s.D i').ρ w w':=fun i' o=>Leaves.block fun b p hb=>f _ (h.j2.lt i' o b p hb).2.2.2.1
 obtain⟨st,sm,hw,hm⟩:=h.wg;have hg:Grow (s.D i).ρ w (⟨7,m,0,(s.D i).ρ,(s.D i).v⟩:WD).ρ:=Grow.refl _ _;have C:qJ X { s with D:=upd s.D i ⟨7,m,0,(s.D i).ρ,(s.D i).v⟩,tag:=s.tag,fc:=s.fc } w':=h.j2.upd O id hg (fun b p hb=>by rw[y];exact(h.j2.lt i O b p hb).1) (by omega);have G:∀i',(upd s.D i ⟨7,m,0,(s.D i).ρ,(s.D i).v⟩ i').ρ=(s.D i').ρ∧(upd s.D i ⟨7,m,0,(s.D i).ρ,(s.D i).v⟩ i').v=(s.D i').v:=fun i'=>by
  by_cases e:i'=i
  ·subst e;rw[fg];exact⟨rfl,rfl⟩
  ·rw[fi s.D _ e];exact⟨rfl,rfl⟩
 have E:i ∉ s.got++s.wait:=fun k=>by have:=((h.list i).1 k).2;omega
 refine⟨{ s with D:=upd s.D i ⟨7,m,0,(s.D i).ρ,(s.D i).v⟩,got:=got',wait:=wait' },⟨by rw[hsz];exact h.size,h.jn,fun i' g1 h0 Y H=>?_,fun i' o=>?_,fun i' Y H=>?_,fun M=>?_,by rw[c];exact h.hear,fun j hj=>?_,⟨st,sm,qL hw (f _ L.kq.1),hm.counted W (by omega) (by simp)⟩,?_,?_,fun i'=>?_,by rw[f _ (dE L.kq.2.2)];exact h.fin,?_,?_,?_,fun i' o I=>?_,fun M=>?_,fun M=>?_,⟨C.lt,C.apart,C.oz,C.v,C.wv,C.sj,C.sc,C.kq,C.old⟩,by rw[y];exact h.base,F.trans h.os⟩,?_,⟨rfl,rfl,rfl,rfl,rfl,.inl rfl,rfl,fun i' _ _=>(G i').2⟩,rfl,rfl,by simp only[fg],fun i' e=>by simp only[fi s.D _ e]⟩
 ·rw[hgo i' (by omega) h0]at H;rw[c];exact h.lv i' g1 h0 Y H
 ·have aa:i'<s.j:=o
  by_cases e:i'=i
  ·subst e;obtain⟨g1,e1,_,e3⟩:=h.wk i' o;refine⟨g',Z,by simp only[fg];exact hs,?_⟩;rw[c,e3];obtain⟨g2,f1,f2,_⟩:=h.wk i' o;simp only[fg];exact f2.IX (by omega)
  ·obtain⟨g1,e1,e2,e3⟩:=h.wk i' o;refine⟨g1,by rw[hgo _ (by omega) (by omega)];exact e1,?_,by rw[c,e3];simp only[fi s.D _ e]⟩;simp only[fi s.D _ e];exact e2.rely L.sync (hn i' (by omega) e) (R _ fun b hb=>(h.j2.sj i' o b hb).1) (T i' (by omega)) F
 ·have e:i'≠i:=by have:s.j≤i':=Y;omega
  simp only[fi s.D _ e];have K:=h.un i' Y H;have hle:=T i' H;rw[K.1]at hle;exact⟨K.1,HR.leaves L.sync K.2 hle F⟩
 ·obtain⟨a,k1,k2,k3⟩:=h.cl M;exact⟨a,by rw[hgo _ (by omega) (by omega)];exact k1,k2.rely (R _ fun b hb=>(h.j2.sc M b hb).1),by rw[c];exact k3⟩
 ·rw[c];exact h.fresh j (by rw[←hsz];exact hj)
 ·rw[Q];have:(wait'.map fun U=>(X.J U).msg (upd s.D i ⟨7,m,0,(s.D i).ρ,(s.D i).v⟩ U).v)=wait'.map fun i=>(X.J i).msg (s.D i).v:=gK fun i' _=>by rw[(G i').2]
  rw[this]
 ·show(got'++wait').Nodup;rw[hl,gP];exact⟨h.nodup,by simp,fun a ha b hb e=>by simp at hb;subst hb;subst e;exact E ha⟩
 ·show i'∈got'++wait'↔_;rw[hl,gQ,h.list]
  by_cases e:i'=i
  ·subst e;simp only[fg];simp;exact W
  ·simp only[fi s.D _ e];simp[e]
 ·have eO:oR X { s with D:=upd s.D i ⟨7,m,0,(s.D i).ρ,(s.D i).v⟩,got:=got',wait:=wait' }=oR X s:=by
   funext k l;unfold oR;simp only[(G _).1]
  rw[eO];have:=PT.zA u.toList h.tr (fun op z=>hu.touch op (by simpa using z));have H:PT (nI X.N) X.Shun (oR X s) (rG X) (KP X s) (np X s) (t++u):=by simpa using this
  exact H
 ·intro op z;rw[y];rcases dN.1 z with k|k
  ·exact h.low op k
  ·exact hu.low op k
 ·exact h.norel.app fun op z=>hu.norel op z
 ·by_cases e:i'=i
  ·subst e;simp only[fg]at I;omega
  ·simp only[fi s.D _ e]at I;obtain⟨r,hr⟩:=h.rel i' o I;exact⟨r,hr.qu hu.touch⟩
 ·obtain⟨q,hq⟩:=h.acq M;exact⟨q,hq.app fun i' r _ hr=>hr.qu hu.touch⟩
 ·obtain⟨q,p,hq⟩:=h.cls M;exact⟨q,p,hq.app (fun i' r _ hr=>hr.qu hu.touch) fun op z _=>hu.touch op z⟩
 ·have e1:=fb s.D (⟨7,m,0,(s.D i).ρ,(s.D i).v⟩:WD) cnt W;have e2:=fb s.D (⟨7,m,0,(s.D i).ρ,(s.D i).v⟩:WD) WD.stage W;unfold meas;simp only[Vc,Ssum,Fsum]at *;have c1:cnt (s.D i)=1:=by simp[cnt,h8]
  have c2:cnt (⟨7,m,0,(s.D i).ρ,(s.D i).v⟩:WD)=1:=by simp[cnt]
  refine Prod.Lex.left _ _ ?_;have:(sumTo s.j fun a=>cnt (upd s.D i ⟨7,m,0,(s.D i).ρ,(s.D i).v⟩ a))=sumTo s.j fun a=>cnt (s.D a):=by omega
  rw[this];simp only[h8]at e2;omega
theorem ku.xR(M:X.Good)(h:ku X s n gs w t)(E:s.tag≠.sp){g:Goroutine}{es:Array Event}{tag':Tg}{o z:Nat}{st' sm':Int}(hg:gs[X.N.B+X.N.n]?=some g)(F:tag'≠.sp)(hs:CSit X.P X.N X.Sc X.lM X.mC tag' o z g' w')(hn:∀i',i'<X.N.n→kp (kr X.P X.pk (X.N.B+i') X.m0 X.t0) (n+1)=kp (kr X.P X.pk (X.N.B+i') X.m0 X.t0) n)(l:∀b,b≠X.N.Wg→b≠X.N.CF→w'.heap[b]?=w.heap[b]?)(Y:w'.heap[X.N.CF]?=some (.chan 0 #[] (ud tag') 0 0 false))(hsz:w'.heap.size=w.heap.size)(O:w'.os=w.os)(Q:WgAt X.N.ty X.N.Wg w' st' sm')(G:Mode s.j s.p s.D tag' st' sm')(Z:∀e∈es,∀a,(MemAct.ofEvent e).touch? = some a→a.loc.isMemory=true→(nI X.N a.loc∧a.kind≠.plain)∨(∃b,kL b a.loc∧X.Sc b∧a.write=false))(R:∀e∈es,(MemAct.ofEvent e).low w.heap.size)(aa:∀e∈es,e.loc≠.mark (.release (stA X.N.Wg)))(H:deafBehind s.dc es=z)(S:tag'=.cl→s.tag=.cl∨∃q,Acq X (t++MemOp.ofEvents (X.N.B+X.N.n) g.frame.fn g.frame.place es) q)(T:tag'=.qt→(s.tag=.qt∧∀e∈es,(MemAct.ofEvent e).touch? = none)∨∃q p,ue X (t++MemOp.ofEvents (X.N.B+X.N.n) g.frame.fn g.frame.place es) q p)(I:phi X.N.n (Vc s.j s.D) tag'<phi X.N.n (Vc s.j s.D) s.tag∨(phi X.N.n (Vc s.j s.D) tag'=phi X.N.n (Vc s.j s.D) s.tag∧o<s.fc)):ku X { s with tag:=tag',fc:=o,dc:=z } (n+1) ((gs.map (woken X.P g g' w')).setIfInBounds (X.N.B+X.N.n) g') w' (t++MemOp.ofEvents (X.N.B+X.N.n) g.frame.fn g.frame.place es)∧Lt2 (meas X { s with tag:=tag',fc:=o,dc:=z }) (meas X s):=by
 have hB:=M.pos;have ab:X.N.B+X.N.n<gs.size:=(dp.1 hg).1;have J:∀op∈MemOp.ofEvents (X.N.B+X.N.n) g.frame.fn g.frame.place es,op.g=X.N.B+X.N.n:=fun op c=>(nC c).1
 have f:∀k,k≠X.N.B+X.N.n→Deaf (t++MemOp.ofEvents (X.N.B+X.N.n) g.frame.fn g.frame.place es) k=Deaf t k:=fun k hk=>eN t (dE hk) _ J
 have K:∀i' r,i'<X.N.n→Rl X.N t (X.N.B+i') r→Rl X.N (t++MemOp.ofEvents (X.N.B+X.N.n) g.frame.fn g.frame.place es) (X.N.B+i') r:=fun i' r m hr=>hr.appNot fun op c=>by rw[J op c];omega
 have ad:∀b,s.V b→w'.heap[b]?=w.heap[b]?:=fun b hb=>l b (h.j2.v b hb).2.1 (h.j2.v b hb).2.2.2.1
 have hj:=(h.size.2 E).2.1;refine⟨⟨?_,h.jn,fun i' g1 h0 h1 h2=>?_,fun i' m=>?_,fun i' h1 h2=>?_,fun _=>⟨g',by rw[gJ _ _ _ ab],hs,?_⟩,by rw[f 0 (by omega)];exact h.hear,fun j hj=>?_,⟨st',sm',Q,G⟩,?_,h.nodup,h.list,Y,?_,?_,?_,fun i' m ae=>?_,fun e=>?_,fun e=>?_,⟨?_,h.j2.apart,h.j2.oz,?_,h.j2.wv,h.j2.sj,fun _=>h.j2.sc E,?_,?_⟩,by rw[hsz];exact h.base,O.trans h.os⟩,?_⟩
 ·simp only[gG,gH];exact⟨fun e=>absurd e F,fun _=>h.size.2 E⟩
 ·rw[gI _ _ _ _ (by omega)]at h2;obtain⟨y,hy,rfl⟩:=eg.1 h2;have L:=h.lv i' y h0 h1 hy;rw[eM L,f i' (by omega)];exact L
 ·obtain⟨g1,e1,e2,e3⟩:=h.wk i' m;have U:i'<s.j:=m;refine⟨g1,by rw[gI _ _ _ _ (by omega),e1,dH,e2.woken],?_,by rw[f _ (by omega)];exact e3⟩;exact e2.rely M.sync (hn i' (by omega)) ⟨fun b hb=>ad b (h.j2.sj i' m b hb).1,fun _=>⟨_,_,Q⟩⟩ (Leaves.block fun b p hb=>l _ (h.j2.lt i' (by omega) b p hb).2.2.1 (h.j2.lt i' (by omega) b p hb).2.2.2.2) O
 ·have:s.j≤i':=h1;omega
 ·obtain⟨a,k1,_,k3⟩:=h.cl E;rw[fh,k3,H]
 ·have af:gs.size≤j:=by simpa using hj
  rw[f j (by omega)];exact h.fresh j af
 ·rw[l _ (dE M.kq.1) M.kq.2.2];exact h.back
 ·have eK:KP X { s with tag:=tag',fc:=o,dc:=z }=KP X s:=by
   funext k;unfold KP;simp only[ne_eq,E,F,not_false_eq_true,true_and]
  have sp:∀{x:Tg},x≠.sp→vR x=false:=fun {x} hx=>by cases x<;>first|rfl|exact absurd rfl hx
  have ec:np X { s with tag:=tag',fc:=o,dc:=z }=X.N.B+X.N.n:=by unfold np;simp[sp F]
  have ag:np X s=X.N.B+X.N.n:=by unfold np;simp[sp E]
  rw[eK,ec];have A:=h.j2.vT M (show s.j≤X.N.n by omega);have W:=h.tr;rw[ag]at W;refine W.B9 A (k:=X.N.B+X.N.n) (.inr ⟨E,rfl⟩) fun op c=>⟨J op c,fun a C hm=>?_⟩
  obtain⟨_,e,he,ah⟩:=nC c;rw[ah]at C;rcases Z e he a C hm with⟨k1,k2⟩|⟨b,k1,k2,k3⟩
  ·exact .inl ⟨k1,k2,fun _=>rfl⟩
  ·exact .inr (.inr ⟨⟨b,k1,.inr ⟨rfl,k2⟩⟩,k3⟩)
 ·intro op c;rw[hsz];rcases dN.1 c with k|k
  ·exact h.low op k
  ·obtain⟨_,e,he,C⟩:=nC k;rw[C];exact R e he
 ·refine h.norel.app fun op c=>?_
  obtain⟨_,e,he,C⟩:=nC c;rw[C];exact xQ (aa e he)
 ·obtain⟨r,hr⟩:=h.rel i' m ae;have U:i'<s.j:=m;exact⟨r,K i' r (by omega) hr⟩
 ·rcases S e with k|k
  ·obtain⟨q,L⟩:=h.acq k;exact⟨q,L.app K⟩
  ·exact k
 ·rcases T e with⟨k,hk⟩|k
  ·obtain⟨q,p,L⟩:=h.cls k;refine⟨q,p,L.app K fun op c _=>?_⟩;obtain⟨_,e,he,C⟩:=nC c;rw[C];exact hk e he
  ·exact k
 ·rw[hsz];exact h.j2.lt
 ·rw[hsz];exact h.j2.v
 ·rw[hsz];exact h.j2.kq
 ·rw[hsz];exact h.j2.old
 ·unfold meas;simp only;rcases I with k|⟨k1,k2⟩
  ·exact Prod.Lex.left _ _ (by omega)
  ·rw[k1];exact Prod.Lex.right _ (by omega)
end
end
section
open Go.Conc Go.ConcN Go.Proofs.YtjnkcibpkkjniaaGreat.j7
open Go.ConcR (KK wgBlock WgAt stA smA rd wr DC0)
variable [Scope]
variable {j p:Nat} {D:Nat→WD} {tag:Tg} {st sm:Int}
theorem Mode.opened(h:Mode j p D tag st sm)(c:isOpen tag):st=((Vc j D+p:Nat):Int)*KK∧sm=0∧OpenSt j D∧∀vs,tag=.w2 vs→Vc j D≤vs∧1≤vs:=by
 cases h with
 |opn b e f=>exact⟨rfl,rfl,e,f⟩
 |reg b=>cases tag<;>first|exact c.elim|exact b.elim
 |last L b=>cases tag<;>first|exact c.elim|exact b.elim
 |sema b=>rcases b with rfl|rfl<;>exact c.elim
 |fin b=>cases tag<;>first|exact c.elim|exact b.elim
theorem Mode.Cr{tag':Tg}(h:Mode j p D tag st sm)(k:isW3 tag)(hw:isW3 tag'):(sm=0∧Mode j p D tag' st sm)∨(st=0∧sm=1∧p=0∧AllQuit j D):=by
 cases h with
 |opn e=>cases tag<;>first|exact k.elim|exact e.elim
 |reg _ b c f=>exact .inl ⟨rfl,.reg hw b c f⟩
 |last L _ b c f l=>exact .inl ⟨rfl,.last L hw b c f l⟩
 |sema e b c=>exact .inr ⟨rfl,rfl,b,c⟩
 |fin e=>cases tag<;>first|exact k.elim|exact e.elim
theorem Mode.vW(h:Mode j p D tag st sm)(c:isFin tag):st=0∧sm=0∧p=0∧AllQuit j D:=by
 cases h with
 |opn b=>cases tag<;>first|exact c.elim|exact b.elim
 |reg b=>cases tag<;>first|exact c.elim|exact b.elim
 |last L b=>cases tag<;>first|exact c.elim|exact b.elim
 |sema b=>rcases b with rfl|rfl<;>exact c.elim
 |fin b e f=>exact⟨rfl,rfl,e,f⟩
theorem zB(t:Trace)(k:Nat)(fn:FuncId)(pos:String)(es:Array Event)(j:Nat)(e:Event)(h:es[j]?=some e):(t++MemOp.ofEvents k fn pos es)[t.size+j]?=some { g:=k,fn,pos,act:=.ofEvent e }:=by
 rw[gF,gR (by omega),Nat.add_sub_cancel_left,dQ,h];rfl
theorem Cs(t:Trace)(k:Nat)(fn:FuncId)(pos:String)(es:Array Event)(j:Nat)(e:Event)(h:es[j]?=some e)(hd:deafBehind (Deaf t k) (es.extract 0 j)=0):(t++MemOp.ofEvents k fn pos es).heard (t.size+j):=by
 have b:j≤es.size:=by have:=(dp.1 h).1;omega
 exact⟨k,by simp[Trace.g?,zB t k fn pos es j e h],by rw[deaf_inside t k fn pos es j b];exact hd⟩
section
variable {X:Ctx} {s:St} {n:Nat} {gs gs':Array Goroutine} {w w':World} {t u:Trace}
def xS (X:Ctx) (s:St) (n:Nat) (gs:Array Goroutine) (w:World) (t:Trace) (g:Goroutine) (w1:World):Prop :=
 ∃g' w' es tag' Ct Cu,stepG X.P false g w1=.go g' w' es∧tag'≠.sp∧ku X { s with tag:=tag',fc:=Ct,dc:=Cu } (n+1) ((gs.map (woken X.P g g' w')).setIfInBounds (X.N.B+X.N.n) g') w' (t++MemOp.ofEvents (X.N.B+X.N.n) g.frame.fn g.frame.place es) ∧
  Lt2 (meas X { s with tag:=tag',fc:=Ct,dc:=Cu }) (meas X s)∧(∀b,s.V b→w'.heap[b]?=w.heap[b]?)∧(tag'=.qt→s.tag≠.qt→mayWake X.P g=true∧(g'.status=.running∨g'.status=.finished))
variable {sl j0:Option (Nat×Nat)} {d:Nat} {g:Goroutine}
theorem ku.Jt(Q:X.Good)(h:ku X s n gs w t)(ag:runNT X.P n X.m0 X.t0=(.next (crowd gs w sl),t))(O:s.tag≠.sp)(hg:gs[X.N.B+X.N.n]?=some g)(K:g.status=.running)(ap:X.pk (crowd gs w sl)=(X.N.B+X.N.n,d,j0))(h':ku X s n gs (w.at d) t):xS X s n gs w t g (w.at d):=by
 have hB:=Q.pos;have hn:∀i',i'<X.N.n→kp (kr X.P X.pk (X.N.B+i') X.m0 X.t0) (n+1)=kp (kr X.P X.pk (X.N.B+i') X.m0 X.t0) n:=fun i' aF=>by
  have:=tU (P:=X.P) (pk:=X.pk) (i0:=X.N.B+i') ag (by rw[ap];simp only;omega);simp[kp,this]
 obtain⟨g0,ah,hs,kG⟩:=h'.cl O;obtain rfl:g0=g:=by rw[hg]at ah;exact(eX ah).symm
 obtain⟨st,sm,hw,hm⟩:=h'.wg;have G:s.p=0:=(h.size.2 O).2.2;have aG:s.j=X.N.n:=(h.size.2 O).2.1;have aE:=Q.pX;have aH:=Vc_le s.j s.D;have keep:∀{w1:World},(∀b,b≠X.N.Wg→b≠X.N.CF→w1.heap[b]?=(w.at d).heap[b]?)→∀b,s.V b→w1.heap[b]?=w.heap[b]?:=fun e b hb=>e b (h.j2.v b hb).2.1 (h.j2.v b hb).2.2.2.1
 have reads:∀{g':Goroutine}{w':World}{es:Array Event}{I:Nat},stepG X.P false g0 (w.at d)=.go g' w' es→DQ X.Sc (w.at d) w' es→CSit X.P X.N X.Sc X.lM X.mC s.tag I s.dc g' w'→I<s.fc→s.tag≠.qt→xS X s n gs w t g0 (w.at d):=by
  intro g' w' es I A ⟨⟨d',z⟩,C⟩ R e5 J;subst z;obtain⟨k1,k2⟩:=h'.xR Q O hg O R hn (fun _ _ _=>rfl) h'.fin rfl rfl hw hm (es:=es) (fun e he a E Z=>by
   obtain⟨ad,rfl,hS⟩:=C e he;have:a=⟨.cell ad,false,.plain⟩:=by simp[MemAct.ofEvent,MemAct.touch?]at E;exact E.symm
   subst this;exact .inr ⟨ad.block,rfl,hS,rfl⟩) (fun e he=>by obtain⟨ad,rfl,hS⟩:=C e he;exact(h'.j2.v _ (h'.j2.sc O _ hS).1).1) (fun e he=>by obtain⟨ad,rfl,hS⟩:=C e he;simp)
   (vU (fun e he=>by obtain⟨ad,rfl,hS⟩:=C e he;simp) _) (fun e=>.inl e) (fun e=>absurd e J) (.inr ⟨rfl,e5⟩)
  exact⟨_,_,_,_,_,_,A,O,k1,k2,keep fun _ _ _=>rfl,fun e k=>absurd e k⟩
 have says:∀{g':Goroutine}{w':World}{es:Array Event}{tag':Tg}{I aa:Nat} {st' sm':Int},stepG X.P false g0 (w.at d)=.go g' w' es→((∃a v,a.block=X.N.Wg∧w'=(w.at d).setCell a v)∨w'=w.at d)→tag'≠.sp→tag'≠.qt→s.tag≠.qt →
   CSit X.P X.N X.Sc X.lM X.mC tag' I aa g' w'→WgAt X.N.ty X.N.Wg w' st' sm'→Mode s.j s.p s.D tag' st' sm' →
   (∀e∈es,(MemAct.ofEvent e).touch? = none∨(∃a wr,e=⟨.cell a,wr,true⟩∧a.block=X.N.Wg)∨(∃a,e=⟨.mark (.write a),false,true⟩∧a.block=X.N.Wg))→(∀e∈es,(MemAct.ofEvent e).low (w.at d).heap.size)→(∀e∈es,e.loc≠.mark (.release (stA X.N.Wg))) →
   deafBehind s.dc es=aa→(tag'=.cl→∃q,Acq X (t++MemOp.ofEvents (X.N.B+X.N.n) g0.frame.fn g0.frame.place es) q) →
   (phi X.N.n (Vc s.j s.D) tag'<phi X.N.n (Vc s.j s.D) s.tag∨(phi X.N.n (Vc s.j s.D) tag'=phi X.N.n (Vc s.j s.D) s.tag∧I<s.fc))→xS X s n gs w t g0 (w.at d):=by
  intro g' w' es tag' I aa st' sm' A z C R aq e5 e6 e7 e8 e9 ar au av aw;have L:∀b,b≠X.N.Wg→b≠X.N.CF→w'.heap[b]?=(w.at d).heap[b]?:=fun b hb _=>by
   rcases z with⟨a,v,E,rfl⟩|rfl
   ·exact rH _ _ _ (by rw[E];exact hb)
   ·rfl
  have ax:w'.heap[X.N.CF]?=(w.at d).heap[X.N.CF]?:=by
   rcases z with⟨a,v,E,rfl⟩|rfl
   ·exact rH _ _ _ (by rw[E];exact dE Q.kq.2.1)
   ·rfl
  have hsz:w'.heap.size=(w.at d).heap.size:=by
   rcases z with⟨a,v,E,rfl⟩|rfl
   ·simp[World.setCell]
   ·rfl
  have ay:w'.os=(w.at d).os:=by rcases z with⟨a,v,E,rfl⟩|rfl<;>rfl
  have nq:∀{x:Tg},x≠.qt→ud x=false:=fun {x} hx=>by cases x<;>first|rfl|exact absurd rfl hx
  obtain⟨k1,k2⟩:=h'.xR Q O hg C e5 hn L (by rw[ax,h'.fin,nq R,nq aq]) hsz ay e6 e7 (es:=es) (fun e he a E Z=>by
   rcases e8 e he with k|⟨ad,wr,rfl,k⟩|⟨ad,rfl,k⟩
   ·rw[k]at E;cases E
   ·have:a=⟨.cell ad,wr,.atomic⟩:=by cases wr<;>simp[MemAct.ofEvent,MemAct.touch?]at E<;>exact E.symm
    subst this;exact .inl ⟨.inl ⟨ad,rfl,k⟩,by simp⟩
   ·have:a=⟨.cell ad,true,.said⟩:=by simp[MemAct.ofEvent,MemAct.touch?]at E;exact E.symm
    subst this;exact .inl ⟨.inl ⟨ad,rfl,k⟩,by simp⟩) e9 ar au (fun e=>.inr (av e)) (fun e=>absurd e R) aw
  exact⟨_,_,_,_,_,_,A,C,k1,k2,keep L,fun e=>absurd e R⟩
 have said:∀{e:Event}{a:Addr},(MemAct.ofEvent e).touch? = none∨(∃a wr,e=⟨.cell a,wr,true⟩∧a.block=X.N.Wg)∨(∃a,e=⟨.mark (.write a),false,true⟩∧a.block=X.N.Wg)→∀x∈#[e],(MemAct.ofEvent x).touch? = none∨(∃a wr,x=⟨.cell a,wr,true⟩∧a.block=X.N.Wg)∨(∃a,x=⟨.mark (.write a),false,true⟩∧a.block=X.N.Wg):=fun h x hx=>by
  rw[gT]at hx;subst hx;exact h
 have U:∀(f:Nat),isOpen s.tag→s.tag≠.qt→s.dc=1→(phi X.N.n (Vc s.j s.D) .w1<phi X.N.n (Vc s.j s.D) s.tag∨(s.tag=.w1∧s.fc=f))→Goes X.P false (RK X.N.ty X.N.Wg X.Sc) DC0 (vL X.P false (RK X.N.ty X.N.Wg X.Sc) X.N.ty X.N.Wg X.lM (Nx X.P X.N X.Sc X.mC)) f g0 (w.at d)→xS X s n gs w t g0 (w.at d):=by
  intro f ho J o ai F;obtain⟨m1,m2,W,m4⟩:=hm.opened ho;subst m1 m2;rw[G,gN]at hw;have Y:∀{x:Tg},phi X.N.n (Vc s.j s.D) x<phi X.N.n (Vc s.j s.D) .w1→phi X.N.n (Vc s.j s.D) x<phi X.N.n (Vc s.j s.D) s.tag:=fun {x} hx=>by
   rcases ai with k|⟨k,_⟩
   ·omega
   ·rw[k];exact hx
  rcases gM F with l|⟨H,rfl,m⟩
  ·obtain⟨_,ab⟩:=l _ (RK.refl _);obtain⟨g',A,z,C⟩:=ab (Vc s.j s.D) (by omega) hw;have y:=uf (X:=X) (a:=stA X.N.Wg) rfl (.inr (.inl rfl))
   by_cases hv:Vc s.j s.D=0
   ·obtain⟨H,R⟩:=z hv;refine says A (.inr rfl) (by simp) (by simp) J (.ke R) (st':=0) (sm':=0) (by rw[hv]at hw;simpa using hw) (.fin trivial G (IY hv W)) (fun e he=>(y.1 e he).imp id .inl) (y.2.1 _ h'.j2.kq.1) y.2.2.1 (by rw[o];exact y.2.2.2.1) (fun e=>by cases e) (.inl (Y (by simp only[phi];omega)))
   ·obtain⟨H,R⟩:=C hv;refine says A (.inr rfl) (by simp) (by simp) J (.w2 R) hw (by
     have:Mode s.j s.p s.D (.w2 (Vc s.j s.D)) (((Vc s.j s.D+s.p:Nat):Int)*KK) 0:=.opn trivial W fun vs e=>by cases e;exact⟨dx _,by omega⟩
     rw[G,gN]at this;rw[G];exact this) (fun e he=>(y.1 e he).imp id .inl) (y.2.1 _ h'.j2.kq.1) y.2.2.1 (by rw[o];exact y.2.2.2.1) (fun e=>by cases e) (.inl (Y (by simp only[phi];omega)))
  ·obtain⟨g',w',es,A,⟨rfl,rfl⟩,C⟩:=m _ (RK.refl _);rcases ai with k|⟨k1,k2⟩
   ·refine says A (.inr rfl) (by simp) (by simp) J (.w1 C) hw (by
     have:Mode s.j s.p s.D .w1 (((Vc s.j s.D+s.p:Nat):Int)*KK) 0:=.opn trivial W fun vs e=>by cases e
     rw[G,gN]at this;rw[G];exact this) (by simp) (by simp) (by simp) (by rw[o];rfl) (fun e=>by cases e) (.inl k)
   ·exact reads A (DQ.pF ⟨rfl,rfl⟩) (by rw[k1,o];exact .w1 C) (by omega) J
 generalize c:s.tag=tg at hs;generalize az:s.fc=fc at hs;generalize o:s.dc=dc at hs
 cases hs with
 |kd F =>
  rcases gM F with l|⟨H,rfl,m⟩
  ·obtain⟨_,g',A,H,z⟩:=l _ (RK.refl _);obtain⟨m1,m2,W,m4⟩:=hm.opened (by rw[c];trivial);subst m1 m2;exact says A (.inr rfl) (by simp) (by simp) (by rw[c];simp) (.anch z) hw (.opn trivial W fun vs e=>by cases e) (said (a:=stA X.N.Wg) (.inl rfl)) (fun e he=>by rw[gT]at he;subst he;trivial) (fun e he=>by rw[gT]at he;subst he;simp[Go.ConcR.mk]) (by rw[o];rfl) (fun e=>by cases e) (.inl (by rw[c];simp only[phi];omega))
  ·obtain⟨g',w',es,A,z,C⟩:=m _ (RK.refl _);exact reads A z (by rw[c,o];exact .kd C) (by omega) (by rw[c];simp)
 |anch F =>
  rcases gM F with l|⟨H,rfl,m⟩
  ·obtain⟨H,z⟩:=Q.anch _ _ (l _ (RK.refl _));exact U H (by rw[c];trivial) (by rw[c];simp) o (.inl (by rw[c];simp only[phi];omega)) z
  ·obtain⟨g',w',es,A,z,C⟩:=m _ (RK.refl _);exact reads A (DQ.pF z) (by rw[c,o];exact .anch C) (by omega) (by rw[c];simp)
 |w1 F=>exact U fc (by rw[c];trivial) (by rw[c];simp) o (.inr ⟨c,az⟩) F
 | @w2 vs _ _ _ F =>
  rcases gM F with l|⟨H,rfl,m⟩
  ·obtain⟨m1,m2,W,m4⟩:=hm.opened (by rw[c];trivial);subst m1 m2;obtain⟨l1,l2⟩:=m4 vs c;rw[G,gN]at hw;obtain⟨_,ab⟩:=l _ (RK.refl _);obtain⟨A,z⟩:=ab (Vc s.j s.D) (by omega) hw
   by_cases hv:Vc s.j s.D=vs
   ·obtain⟨g',k1,H,k2⟩:=A hv;have y:=uf (X:=X) (a:=stA X.N.Wg) rfl (.inl rfl);exact says k1 (.inl ⟨_,_,rfl,rfl⟩) (by simp) (by simp) (by rw[c];simp) (.wr k2) (hw.setSt _) (.reg trivial G W (by omega)) (fun e he=>(y.1 e he).imp id .inl) (y.2.1 _ h'.j2.kq.1) y.2.2.1 (by rw[o];exact y.2.2.2.1) (fun e=>by cases e) (.inl (by rw[c];simp only[phi];omega))
   ·obtain⟨g',k1,H,k2⟩:=z hv;have y:=uf (X:=X) (a:=stA X.N.Wg) rfl (.inr (.inl rfl));exact says k1 (.inr rfl) (by simp) (by simp) (by rw[c];simp) (.anch k2) hw (by
     have:Mode s.j s.p s.D .anch (((Vc s.j s.D+s.p:Nat):Int)*KK) 0:=.opn trivial W fun vs e=>by cases e
     rw[G,gN]at this;rw[G];exact this) (fun e he=>(y.1 e he).imp id .inl) (y.2.1 _ h'.j2.kq.1) y.2.2.1 (by rw[o];exact y.2.2.2.1) (fun e=>by cases e) (.inl (by rw[c];simp only[phi];omega))
  ·obtain⟨g',w',es,A,z,C⟩:=m _ (RK.refl _);exact reads A (DQ.pF z) (by rw[c,o];exact .w2 C) (by omega) (by rw[c];simp)
 |wr F =>
  rcases gM F with l|⟨H,rfl,m⟩
  ·obtain⟨_,g',A,H,z⟩:=l _ (RK.refl _);have aA:Mode s.j s.p s.D .w3 st sm:=by
    rcases hm.Cr (by rw[c];trivial) (tag':=.w3) trivial with⟨_,k⟩|⟨rfl,rfl,k1,k2⟩
    ·exact k
    ·exact .sema (.inl rfl) k1 k2
   exact says A (.inr rfl) (by simp) (by simp) (by rw[c];simp) (.w3 z) hw aA (said (a:=stA X.N.Wg) (.inr (.inr ⟨_,rfl,rfl⟩))) (fun e he=>by rw[gT]at he;subst he;exact h'.j2.kq.1) (fun e he=>by rw[gT]at he;subst he;simp) (by rw[o];rfl) (fun e=>by cases e) (.inl (by rw[c];simp only[phi];omega))
  ·obtain⟨g',w',es,A,z,C⟩:=m _ (RK.refl _);exact reads A (DQ.pF z) (by rw[c,o];exact .wr C) (by omega) (by rw[c];simp)
 |w3 F =>
  rcases gM F with l|⟨H,rfl,m⟩
  ·obtain⟨_,aj,hb,hgo⟩:=l _ (RK.refl _);rcases hm.Cr (by rw[c];trivial) (tag':=.blk) trivial with⟨rfl,k⟩|⟨rfl,rfl,k1,k2⟩
   ·exact says (hb ⟨st,hw⟩) (.inr rfl) (by simp) (by simp) (by rw[c];simp) (.blk l) hw k (by simp) (by simp) (by simp) (by rw[o];rfl) (fun e=>by cases e) (.inr ⟨by rw[c];rfl,by omega⟩)
   ·obtain⟨g',A,H,z⟩:=hgo hw;have y:=uf (X:=X) (a:=smA X.N.Wg) rfl (.inr (.inr (.inr rfl)));exact says A (.inl ⟨_,_,rfl,rfl⟩) (by simp) (by simp) (by rw[c];simp) (.w4 z) (hw.setSm 0) (.fin trivial k1 k2) (fun e he=>(y.1 e he).imp id .inl) (y.2.1 _ h'.j2.kq.1) y.2.2.1 (by rw[o];exact y.2.2.2.1) (fun e=>by cases e) (.inl (by rw[c];simp only[phi];omega))
  ·obtain⟨g',w',es,A,z,C⟩:=m _ (RK.refl _);exact reads A (DQ.pF z) (by rw[c,o];exact .w3 C) (by omega) (by rw[c];simp)
 |blk F=>cases K
 |w4 F =>
  rcases gM F with l|⟨H,rfl,m⟩
  ·obtain⟨rfl,rfl,k1,k2⟩:=hm.vW (by rw[c];trivial);obtain⟨_,hgo⟩:=l _ (RK.refl _);obtain⟨g',A,H,z⟩:=hgo hw;have y:=uf (X:=X) (a:=stA X.N.Wg) rfl (.inr (.inl rfl));exact says A (.inr rfl) (by simp) (by simp) (by rw[c];simp) (.ke z) hw (.fin trivial k1 k2) (fun e he=>(y.1 e he).imp id .inl) (y.2.1 _ h'.j2.kq.1) y.2.2.1 (by rw[o];exact y.2.2.2.1) (fun e=>by cases e) (.inl (by rw[c];simp only[phi];omega))
  ·obtain⟨g',w',es,A,z,C⟩:=m _ (RK.refl _);exact reads A (DQ.pF z) (by rw[c,o];exact .w4 C) (by omega) (by rw[c];simp)
 |ke F =>
  rcases gM F with l|⟨H,rfl,m⟩
  ·obtain⟨rfl,rfl,k1,k2⟩:=hm.vW (by rw[c];trivial);obtain⟨_,g',A,H,z⟩:=l _ (RK.refl _);exact says A (.inr rfl) (by simp) (by simp) (by rw[c];simp) (.acq z) hw (.fin trivial k1 k2) (said (a:=stA X.N.Wg) (.inl rfl)) (fun e he=>by rw[gT]at he;subst he;trivial) (fun e he=>by rw[gT]at he;subst he;simp[Go.ConcR.mk]) (by rw[o];rfl) (fun e=>by cases e) (.inl (by rw[c];simp only[phi];omega))
  ·obtain⟨g',w',es,A,z,C⟩:=m _ (RK.refl _);exact reads A (DQ.pF z) (by rw[c,o];exact .ke C) (by omega) (by rw[c];simp)
 |acq F =>
  rcases gM F with l|⟨H,rfl,m⟩
  ·obtain⟨rfl,rfl,k1,k2⟩:=hm.vW (by rw[c];trivial);obtain⟨_,g',A,H,z⟩:=l _ (RK.refl _);have C:=Goes.bind RK.refl (S2:=AtClose X.P X.N) (m2:=X.mC) (fun g w k=>k) (Goes.u7 (fun _ _ _=>DQ.pF (S:=X.Sc)) z);have ae:=zB t (X.N.B+X.N.n) g0.frame.fn g0.frame.place #[Go.ConcR.mk (.acquire (stA X.N.Wg))] 0 _ rfl;have ak:=Cs t (X.N.B+X.N.n) g0.frame.fn g0.frame.place #[Go.ConcR.mk (.acquire (stA X.N.Wg))] 0 _ rfl (by rw[kG,o];rfl);rw[gN]at ae ak;exact says A (.inr rfl) (by simp) (by simp) (by rw[c];simp) (.cl C) hw (.fin trivial k1 k2) (said (a:=stA X.N.Wg) (.inl rfl)) (fun e he=>by rw[gT]at he;subst he;exact h'.j2.kq.1) (fun e he=>by rw[gT]at he;subst he;simp[Go.ConcR.mk]) (by rw[o];rfl)
    (fun _=>⟨t.size,by rw[act?_of ae];rfl,by simp[Trace.g?,ae],ak,fun i hi=>by
     obtain⟨r,hr⟩:=h'.rel i (by omega) (by rw[k2 i (by omega)];decide);refine⟨r,hr.appNot fun op M=>?_,lt_of_act? hr.rel.act⟩;rw[(nC M).1];omega⟩) (.inl (by rw[c];simp only[phi];omega))
  ·obtain⟨g',w',es,A,z,C⟩:=m _ (RK.refl _);exact reads A (DQ.pF z) (by rw[c,o];exact .acq C) (by omega) (by rw[c];simp)
 |cl F =>
  rcases gM F with l|⟨H,rfl,m⟩
  ·obtain⟨rfl,rfl,k1,k2⟩:=hm.vW (by rw[c];trivial);obtain⟨_,aB,hgo⟩:=l _ (RK.refl _);obtain⟨g',A,q,z⟩:=hgo (by rw[h'.fin,c];rfl);obtain⟨qa,al⟩:=h'.acq c;have aj:∀op∈MemOp.ofEvents (X.N.B+X.N.n) g0.frame.fn g0.frame.place #[⟨.obj X.N.CF,false,true⟩,⟨.obj X.N.CF,true,true⟩],op.g=X.N.B+X.N.n:=fun op M=>(nC M).1
   have am:=zB t (X.N.B+X.N.n) g0.frame.fn g0.frame.place #[⟨.obj X.N.CF,false,true⟩,⟨.obj X.N.CF,true,true⟩] 1 _ rfl;have aC:=Cs t (X.N.B+X.N.n) g0.frame.fn g0.frame.place #[⟨.obj X.N.CF,false,true⟩,⟨.obj X.N.CF,true,true⟩] 1 _ rfl (by rw[kG,o];simp[deafBehind]);have an:ue X (t++MemOp.ofEvents (X.N.B+X.N.n) g0.frame.fn g0.frame.place #[⟨.obj X.N.CF,false,true⟩,⟨.obj X.N.CF,true,true⟩]) qa (t.size+1):=by
    refine⟨al.app fun i r hi hr=>hr.appNot fun op M=>by rw[aj op M];omega,by have:=lt_of_act? al.act;omega,by rw[act?_of am];rfl,by simp[Trace.g?,am],aC,fun i op hi ho _=>?_⟩;have:=fG ho;simp[gF]at this;omega
   have af:∀{b:Nat},b≠X.N.CF→((w.at d).setChan X.N.CF 0 #[] true 0 0 false).heap[b]?=(w.at d).heap[b]?:=fun {b} hb=>by rw[ug,dk (fun e=>hb e.1.symm)]
   obtain⟨c1,c2⟩:=h'.xR Q O hg (tag':=.qt) (by simp) (.qt z) hn (fun b _ hb=>af hb) (by rw[ug,dj ⟨rfl,h'.j2.kq.2.2⟩];rfl) (by simp[World.setChan]) rfl (st':=0) (sm':=0) (qL hw (af Q.kq.2.1)) (.fin trivial k1 k2)
    (es:=#[⟨.obj X.N.CF,false,true⟩,⟨.obj X.N.CF,true,true⟩]) (fun e he a E Z=>by
     simp at he;rcases he with rfl|rfl
     ·simp[MemAct.ofEvent,MemAct.touch?]at E;subst E;exact .inl ⟨.inr (.inr rfl),by simp⟩
     ·simp[MemAct.ofEvent,MemAct.touch?]at E) (fun e he=>by
     simp at he;rcases he with rfl|rfl<;>exact h'.j2.kq.2.2) (fun e he=>by simp at he;rcases he with rfl|rfl<;>simp) (by rw[o];simp[deafBehind]) (fun e=>by cases e) (fun _=>.inr ⟨_,_,an⟩) (.inl (by rw[c];simp only[phi];omega))
   exact⟨_,_,_,_,_,_,A,by simp,c1,c2,keep fun b _ hb=>af hb,fun _ _=>⟨aB,z.status⟩⟩
  ·obtain⟨g',w',es,A,z,C⟩:=m _ (RK.refl _);exact reads A z (by rw[c,o];exact .cl C) (by omega) (by rw[c];simp)
 |qt hq =>
  cases fc with
  |zero=>rw[hq.1]at K;cases K
  |succ q =>
   rcases hq with⟨hf,_⟩|⟨_,g',es,T,ao,aD⟩
   ·rw[hf]at K;cases K
   ·obtain⟨c1,c2⟩:=h'.xR Q O hg (tag':=.qt) (by simp) (.qt aD) hn (fun _ _ _=>rfl) (by rw[h'.fin,c]) rfl rfl hw (by rw[c]at hm;exact hm) (es:=es) (fun e he a E Z=>by rw[touch_mute (T e he)]at E;cases E) (fun e he=>low_mute (T e he) _)
     (fun e he=>by have:=T e he;intro k;obtain⟨loc,wr,sy⟩:=e;simp only at k;subst k;cases this) (by rw[o]) (fun e=>by cases e) (fun _=>.inl ⟨c,fun e he=>touch_mute (T e he)⟩) (.inr ⟨by rw[c],by omega⟩)
    exact⟨_,_,_,_,_,_,ao _,by simp,c1,c2,fun _ _=>rfl,fun _ k=>absurd c k⟩
theorem ku.Ju(Q:X.Good)(h:ku X s n gs w t)(F:runNT X.P n X.m0 X.t0=(.next (crowd gs w sl),t)){i:Nat}(R:0<i)(Z:i<X.N.B)(hg:gs[i]?=some g)(m:g.status=.running)(S:X.pk (crowd gs w sl)=(i,d,j0))(h':ku X s n gs (w.at d) t):∃g' es s',stepG X.P false g (w.at d)=.go g' (w.at d) es∧ku X s' (n+1) ((gs.map (woken X.P g g' (w.at d))).setIfInBounds i g') (w.at d) (t++MemOp.ofEvents i g.frame.fn g.frame.place es)∧Lt2 (meas X s') (meas X s)∧qK s s'∧s'.got=s.got∧s'.wait=s.wait∧s'.D=s.D:=by
 have hB:=Q.pos;have aa:=h.jn;have hn:∀i',i'<X.N.n→kp (kr X.P X.pk (X.N.B+i') X.m0 X.t0) (n+1)=kp (kr X.P X.pk (X.N.B+i') X.m0 X.t0) n:=fun i' o=>by
  have:=tU (P:=X.P) (pk:=X.pk) (i0:=X.N.B+i') F (by rw[S];simp only;omega);simp[kp,this]
 have A:=h'.lv i g R Z hg;have T:i<gs.size:=(dp.1 hg).1
 cases C:s.q i with
 |zero=>rw[C]at A;rw[A.1]at m;cases m
 |succ k =>
  rw[C]at A;rcases A with⟨hf,_⟩|⟨_,g',es,E,G,U⟩
  ·rw[hf]at m;cases m
  have H:=h'.at Q d hn;obtain⟨st,sm,hw,hm⟩:=h'.wg;obtain⟨tag',z,V,ab,b,ad⟩:=h'.closer Q (w':=w.at d) (fun _ _=>rfl) ⟨_,_,hw⟩ g g';have I:∀op∈MemOp.ofEvents i g.frame.fn g.frame.place es,op.g=i:=fun op f=>(nC f).1
  have l:∀op∈MemOp.ofEvents i g.frame.fn g.frame.place es,op.act.touch? = none:=fun op f=>by
   obtain⟨_,e,he,J⟩:=nC f;rw[J];exact touch_mute (E e he)
  have c:∀k,k≠i→Deaf (t++MemOp.ofEvents i g.frame.fn g.frame.place es) k=Deaf t k:=fun k hk=>eN t (dE hk) _ I
  have sp:∀x:Tg,tag'=.sp↔s.tag=.sp:=fun _=>oS b
  refine⟨g',es,{ s with tag:=tag',fc:=z,q:=upd s.q i k },G _,⟨?_,h'.jn,fun i' g1 h0 h1 M=>?_,fun i' o=>?_,H.un,fun ht=>?_,by rw[c 0 (by omega)];exact h'.hear,fun j hj=>?_,⟨st,sm,hw,hm.retag b⟩,h'.back,h'.nodup,h'.list,by rw[h'.fin,←zy b],?_,?_,?_,fun i' o W=>?_,fun e=>?_,fun e=>?_,⟨h'.j2.lt,h'.j2.apart,h'.j2.oz,h'.j2.v,h'.j2.wv,h'.j2.sj,fun e=>h'.j2.sc (fun k=>e ((oS b).2 k)),h'.j2.kq,h'.j2.old⟩,h'.base,h'.os⟩,?_,⟨rfl,rfl,rfl,rfl,rfl,b,rfl,fun _ _ _=>rfl⟩,rfl,rfl,rfl⟩
  ·simp only[gG,gH];exact⟨fun e=>h.size.1 ((oS b).1 e),fun e=>h.size.2 fun k=>e ((oS b).2 k)⟩
  ·by_cases e:i=i'
   ·subst e;rw[gJ _ _ _ T]at M;obtain rfl:=eX M;show QuitsD X.P (upd s.q i k i) _ _;rw[fg,fh];exact U
   ·rw[gI _ _ _ _ e]at M;obtain⟨y,hy,rfl⟩:=eg.1 M;have K:=h'.lv i' y h0 h1 hy;rw[eM K,c i' (dE e)];show QuitsD X.P (upd s.q i k i') _ _;rw[fi s.q k (dE e)];exact K
  ·obtain⟨g1,O,L,e3⟩:=H.wk i' o;exact⟨g1,by rw[gI _ _ _ _ (by omega),O,dH,L.woken],L,by rw[c _ (by omega)];exact e3⟩
  ·obtain⟨a,k1,k2,k3⟩:=V fun k=>ht ((oS b).2 k)
   exact⟨_,by rw[gI _ _ _ _ (by omega),k1];rfl,k2,by rw[c _ (by omega)];exact k3⟩
  ·have Y:gs.size≤j:=by simpa using hj
   rw[c j (by omega)];exact h'.fresh j Y
  ·have eK:KP X { s with tag:=tag',fc:=z,q:=upd s.q i k }=KP X s:=by
    funext k;unfold KP;simp only[ne_eq,oS b]
   have ec:np X { s with tag:=tag',fc:=z,q:=upd s.q i k }=np X s:=by
    unfold np;rcases b with e|⟨O,L⟩
    ·simp only[e]
    ·simp only[O,L,vR]
   have eO:oR X { s with tag:=tag',fc:=z,q:=upd s.q i k }=oR X s:=rfl;rw[eK,ec,eO];exact h'.tr.appMute I l
  ·intro op f;rcases dN.1 f with k|k
   ·exact h'.low op k
   ·obtain⟨_,e,he,J⟩:=nC k;rw[J];exact low_mute (E e he) _
  ·refine h'.norel.app fun op f=>?_
   obtain⟨_,e,he,J⟩:=nC f;rw[J];exact xQ fun k=>by have:=E e he;obtain⟨loc,wr,sy⟩:=e;simp only at k;subst k;cases this
  ·obtain⟨r,hr⟩:=h'.rel i' o W;exact⟨r,hr.qu l⟩
  ·have:s.tag=.cl:=by
    rcases b with k|⟨_,k⟩
    ·exact k.symm.trans e
    ·rw[show tag'=Tg.cl from e]at k;cases k
   obtain⟨q,A⟩:=h'.acq this;exact⟨q,A.app fun i' r _ hr=>hr.qu l⟩
  ·have:s.tag=.qt:=by
    rcases b with k|⟨_,k⟩
    ·exact k.symm.trans e
    ·rw[show tag'=Tg.qt from e]at k;cases k
   obtain⟨q,p,A⟩:=h'.cls this;exact⟨q,p,A.app (fun i' r _ hr=>hr.qu l) fun op f _=>l op f⟩
  ·unfold meas;simp only;rw[phi_retag X.N.n _ b];refine Prod.Lex.right _ ?_;have:=fb s.q k id Z;simp only[id,C]at this;have O:sumTo X.N.B (upd s.q i k)=sumTo X.N.B (fun a=>upd s.q i k a):=rfl;have L:sumTo X.N.B s.q=sumTo X.N.B (fun a=>s.q a):=rfl;omega
end
end
section
open Go.Conc Go.ConcN Go.Proofs.YtjnkcibpkkjniaaGreat.j7
open Go.ConcR (KK wgBlock WgAt stA smA rd wr DC0)
variable [Scope]
section
variable {X:Ctx} {s:St} {n:Nat} {gs:Array Goroutine} {w:World} {sl:Option (Nat×Nat)} {t:Trace} {a:Goroutine}
def lI (X:Ctx) (z1 z2:Value):Array CommCase:=#[rcase X.N.CB z1,rcase X.N.CF z2]
inductive sU (X:Ctx) (s:St) (a:Goroutine):Prop
 |run:a.status=.running→sU X s a
 |pG (gm:Goroutine) (z1 z2:Value):a=parked gm (lI X z1 z2) .select→s.wait=[]→s.tag≠.qt→s.tag≠.sp→sU X s a
structure oA (X:Ctx) (s:St) (n:Nat) (gs:Array Goroutine) (w:World) (sl:Option (Nat×Nat)) (t:Trace) (a:Goroutine):Prop where
 run:runNT X.P n X.m0 X.t0=(.next (crowd gs w sl),t)
 pY:ku X s n gs w t
 main:gs[0]?=some a
structure sV (s s':St):Prop where
 j:s'.j=s.j
 p:s'.p=s.p
 d0:s'.d0=s.d0
 V:s'.V=s.V
 W:s'.W=s.W
 sp:s'.tag=.sp↔s.tag=.sp
 val:∀i,i<s.j→(s.D i).stage≤7→(s'.D i).v=(s.D i).v
theorem qK.xT{s':St}(h:qK s s'):sV s s':=⟨h.1,h.2.1,h.2.2.1,h.2.2.2.1,h.2.2.2.2.1,oS h.2.2.2.2.2.1,h.2.2.2.2.2.2.2⟩
inductive va (X:Ctx) (s s':St) (a a':Goroutine):Prop
 |same:a'=a→s'.got=s.got→va X s s' a a'
 |served (i:Nat) (gm:Goroutine) (z1 z2:Value):a=parked gm (lI X z1 z2) .select→a'=gm.finishComm X.P (lI X z1 z2) .select 0 ((X.J i).msg (s'.D i).v) true→s'.got=s.got++[i]→s'.wait=[]→i<s.j→va X s s' a a'
 |woken (gm:Goroutine) (z1 z2:Value):a=parked gm (lI X z1 z2) .select→a'={ a with status:=.running }→s'.got=s.got→va X s s' a a'
theorem Jv(hm:sU X s a){w':World}(hB:∃cap buf x y,w'.heap[X.N.CB]?=some (.chan cap buf false x y false))(hF:∃cap buf x y,w'.heap[X.N.CF]?=some (.chan cap buf false x y false))(g g':Goroutine):woken X.P g g' w' a=a:=by
 cases hm with
 |run h=>exact fe h
 |pG gm z1 z2 e _ _ _ =>
  subst e;unfold Go.Conc.woken;split
  ·refine again_all_open fun k b=>?_
   obtain⟨cap,buf,x,y,hB⟩:=hB;obtain⟨c,f,l,m,hF⟩:=hF;simp[lI]at b;rcases b with rfl|rfl
   ·exact⟨_,_,_,_,_,_,_,rfl,hB⟩
   ·exact⟨_,_,_,_,_,_,_,rfl,hF⟩
  ·rfl
theorem zC{x:Tg}(h:x≠.qt):ud x=false:=by cases x<;>first|rfl|exact absurd rfl h
theorem ku.open_(h:ku X s n gs w t)(b:s.tag≠.qt):(∃cap buf x y,w.heap[X.N.CB]?=some (.chan cap buf false x y false))∧(∃cap buf x y,w.heap[X.N.CF]?=some (.chan cap buf false x y false)) :=
 ⟨⟨_,_,_,_,h.back⟩,by have:=h.fin;rw[zC b]at this;exact⟨_,_,_,_,this⟩⟩
theorem oA.Jw(z:X.Good)(h:oA X s n gs w sl t a)(hm:sU X s a):(∀g∈gs,awake g)∧∃(i:Nat)(g:Goroutine),gs[i]?=some g∧g.status=.running:=by
 have l:=h.pY;have I:=l.jn;have hB:=z.pos;refine⟨fun g J=>?_,?_⟩
 ·obtain⟨i,r,rfl⟩:=eQ.1 J;have c:=dq r;rcases eT i with rfl|y
  ·rw[h.main]at c;obtain rfl:=eX c
   cases hm with
   |run h=>exact eU (.inl h)
   |pG gm z1 z2 e _ _ _=>rw[e];exact eU (.inr (.inl rfl))
  ·rcases fC i X.N.B with A|K
   ·exact eU ((l.lv i _ y A c).status.elim .inl fun x=>.inr (.inr x))
   ·by_cases M:i<X.N.B+s.j
    ·obtain⟨g,m,q,_⟩:=l.wk (i-X.N.B) (by omega);rw[show X.N.B+(i-X.N.B)=i by omega,c]at m;obtain rfl:=eX m;exact eU (q.status.elim .inl fun x=>.inr (.inr x))
    ·have F:s.tag≠.sp:=fun e=>by have:=l.size.1 e;omega
     obtain⟨hsz,Q,_⟩:=l.size.2 F;obtain⟨g,m,q,_⟩:=l.cl F;have:i=X.N.B+X.N.n:=by omega
     subst this;rw[c]at m;obtain rfl:=eX m;exact eU ((q.status z.sT).elim (fun x=>.inl x.1) fun x=>x.elim (fun x=>.inr (.inl x.1)) fun x=>.inr (.inr x.1))
 ·cases hm with
  |run hr=>exact⟨0,a,h.main,hr⟩
  |pG gm z1 z2 _ _ O j3 =>
   obtain⟨g,m,q,_⟩:=l.cl j3;rcases q.status z.sT with⟨k,_⟩|⟨_,k⟩|⟨_,k⟩
   ·exact⟨_,g,m,k⟩
   ·obtain⟨st,sm,_,f⟩:=l.wg;rw[k]at f;have b:∀i,i<s.j→(s.D i).stage≠1→∃(i:Nat)(g:Goroutine),gs[i]?=some g∧g.status=.running:=fun i r P=>by
     obtain⟨g,m,q,_⟩:=l.wk i r;exact⟨_,g,m,q.runs P⟩
    cases f with
    |opn o=>exact o.elim
    |reg _ _ G H =>
     refine gh fun C=>?_
     have:AllQuit s.j s.D:=fun i r=>gh fun E=>C (b i r E)
     rw[IZ this]at H;omega
    |last L _ _ G H _=>exact b L G (by omega)
    |sema o=>rcases o with o|o<;>cases o
    |fin o=>exact o.elim
   ·exact absurd k O
theorem ku.offers(m:X.Good)(h:ku X s n gs w t){i k:Nat}{g:Goroutine}(G:k≠0)(q:(gs.setIfInBounds i ph)[k]?=some g)(r:Nat)(b:Bool):offersAt g r b=[]:=by
 rcases getElem?_stand gs i k g q with⟨_,rfl⟩|⟨_,c⟩
 ·exact offersAt_ph r b
 have y:=h.jn;have hB:=m.pos;have z:k<gs.size:=(dp.1 c).1;have nb:∀{x:Goroutine},x.status=.running∨x.status=.finished→offersAt x r b=[]:=fun A=>gU (by rcases A with e|e<;>rw[e]<;>simp) r b
 rcases fC k X.N.B with C|E
 ·exact nb (h.lv k g (by omega) C c).status
 ·by_cases F:k<X.N.B+s.j
  ·obtain⟨g',l,f,_⟩:=h.wk (k-X.N.B) (by omega);rw[show X.N.B+(k-X.N.B)=k by omega,c]at l;obtain rfl:=eX l;exact nb f.status
  ·have o:s.tag≠.sp:=fun e=>by have:=h.size.1 e;omega
   obtain⟨hsz,H,_⟩:=h.size.2 o;obtain⟨g',l,f,_⟩:=h.cl o;have:k=X.N.B+X.N.n:=by omega
   subst this;rw[c]at l;obtain rfl:=eX l;rcases f.status m.sT with⟨k,_⟩|⟨_,k⟩|⟨k,_⟩
   ·exact nb (.inl k)
   ·rw[k]at f;generalize s.fc=fc,s.dc=dc at f
    cases f with
    |blk hb =>
     have:=(hb w (RK.refl w)).2.1;simp[offersAt,this]
   ·exact nb (.inr k)
theorem oA.env[ki X.P][lu X.P](r:X.Good)(h:oA X s n gs w sl t a)(hm:sU X s a):(∃d j0,a.status=.running∧stepT X.P (crowd gs w sl)=runT X.P (crowd gs (w.at d) j0) 0∧ku X s n gs (w.at d) t∧∀i,i<X.N.n→kp (kr X.P X.pk (X.N.B+i) X.m0 X.t0) (n+1)=kp (kr X.P X.pk (X.N.B+i) X.m0 X.t0) n) ∨
  ∃s' gs' w' j0 t' a',oA X s' (n+1) gs' w' j0 t' a'∧Lt2 (meas X s') (meas X s)∧sV s s'∧(∀b,s.V b→w'.heap[b]?=w.heap[b]?)∧va X s s' a a'∧sU X s' a':=by
 obtain⟨aj,ab⟩:=h.Jw r hm;obtain⟨x,hx,O,q⟩:=r.xP gs w sl aj ab;have f:=h.run;have l:=h.pY;have hB:=r.pos;have au:=l.jn;generalize H:X.pk (crowd gs w sl)=y at hx q;obtain⟨i,d,j0⟩:=y;simp only at hx q;have A:=l.at r d (n':=n) (fun _ _=>rfl);rcases eT i with rfl|ad
 ·refine .inl ⟨d,j0,?_,q,A,fun i' C=>?_⟩
  ·rw[h.main]at hx;exact(eX hx)▸O
  ·have:=tU (P:=X.P) (pk:=X.pk) (i0:=X.N.B+i') f (by rw[H];simp only;omega);simp[kp,this]
 refine .inr ?_;have Q:(i == 0)=false:=by simp;omega
 have W:i<gs.size:=(dp.1 hx).1;have goes:∀{g':Goroutine}{w':World}{es:Array Event}{s':St},stepG X.P false x (w.at d)=.go g' w' es→ku X s' (n+1) ((gs.map (woken X.P x g' w')).setIfInBounds i g') w' (t++MemOp.ofEvents i x.frame.fn x.frame.place es)→Lt2 (meas X s') (meas X s)→sV s s'→s'.got=s.got→s'.wait=s.wait→(s.tag≠.qt→s'.tag≠.qt)→(∀b,s.V b→w'.heap[b]?=w.heap[b]?) →
   ∃s' gs' w' j0 t' a',oA X s' (n+1) gs' w' j0 t' a'∧Lt2 (meas X s') (meas X s)∧sV s s'∧(∀b,s.V b→w'.heap[b]?=w.heap[b]?)∧va X s s' a a'∧sU X s' a':=by
  intro g' w' es s' Y Z M G R e6 e7 e8;have o:=eZ (P:=X.P) (sl:=j0) (i:=i) hx (by rw[Q];exact Y);have ha:woken X.P x g' w' a=a:=by
   cases hm with
   |run hr=>exact fe hr
   |pG gm z1 z2 k1 k2 k3 k4 =>
    have:=Z.open_ (e7 k3);exact Jv (.pG gm z1 z2 k1 k2 k3 k4) this.1 this.2 x g'
  refine⟨s',_,w',j0,_,a,⟨oh f (q.trans o),Z,by rw[gI _ _ _ _ (by omega),h.main,dH,ha]⟩,M,G,e8,.same rfl R,?_⟩
  cases hm with
  |run hr=>exact .run hr
  |pG gm z1 z2 k1 k2 k3 k4=>exact .pG gm z1 z2 k1 (e6.trans k2) (e7 k3) fun k=>k4 (G.sp.1 k)
 have ae:∀{s':St},qK s s'→s.tag≠.qt→s'.tag≠.qt:=fun hs k k'=>by
  rcases hs.2.2.2.2.2.1 with e|⟨_,e⟩
  ·exact k (e.symm.trans k')
  ·rw[k']at e;cases e
 rcases fC i X.N.B with ak|aq
 ·obtain⟨g',es,s',Y,Z,M,G,R,e6,e7⟩:=l.Ju r f ad ak hx O H A;exact goes Y Z M G.xT R e6 (ae G) fun _ _=>rfl
 by_cases av:i<X.N.B+s.j
 ·obtain⟨i',rfl⟩:∃i',i=X.N.B+i':=⟨i-X.N.B,by omega⟩;have C:i'<s.j:=by omega
  rcases l.turns r f C hx O H A with⟨v',h8,hv,⟨_,hsend,m,hgo⟩,_⟩|⟨g',w',es,s',Y,Z,M,G,R,e6,e7⟩
  ·
   have hn:∀i2,i2<X.N.n→i2≠i'→kp (kr X.P X.pk (X.N.B+i2) X.m0 X.t0) (n+1)=kp (kr X.P X.pk (X.N.B+i2) X.m0 X.t0) n:=fun i2 _ aw=>by
    have:=tU (P:=X.P) (pk:=X.pk) (i0:=X.N.B+i2) f (by rw[H];simp only;omega);simp[kp,this]
   obtain⟨g0,ax,al,_⟩:=A.wk i' C;have I:Done (X.J i') (s.D i').ρ (s.D i').v (w.at d):=al.done (by omega);have T:i' ∉ s.got++s.wait:=fun k=>by have:=((l.list i').1 k).2;omega
   have am:s.got.length+s.wait.length<X.N.n:=by
    have:(s.got++s.wait++[i']).length≤(List.range X.N.n).length:=by
     refine List.Nodup.length_le_of_subset ?_ fun k E=>?_
     ·rw[gP];exact⟨l.nodup,by simp,fun a ha b hb e=>by simp at hb;subst hb;subst e;exact T ha⟩
     ·rw[fZ];rcases gQ.1 E with E|E
      ·have:=((l.list k).1 E).1;omega
      ·simp at E;omega
    simp at this;omega
   have K:∀{w':World},(∀b,b≠X.N.CB→w'.heap[b]?=w.heap[b]?)→RK X.N.ty X.N.Wg (X.J i').S (w.at d) w':=fun e=>⟨fun b hb=>e b (l.j2.v b (l.j2.sj i' C b hb).1).2.2.1,fun⟨a,b,k⟩=>⟨a,b,qL k (e _ r.kq.1)⟩⟩
   have af:∀{w':World},(∀b,b≠X.N.CB→w'.heap[b]?=w.heap[b]?)→Leaves (s.D i').ρ (w.at d) w':=fun e=>Leaves.block fun b p hb=>e _ (l.j2.lt i' (by omega) b p hb).2.2.2.1
   have heap:∀(cap:Nat)(buf:Array Value)(x y:Nat),∀b,b≠X.N.CB→((w.at d).setChan X.N.CB cap buf false x y false).heap[b]?=w.heap[b]?:=fun cap buf x y b hb=>by rw[ug,dk (fun e=>hb e.1.symm)];rfl
   have U:∀z1 z2 gm,s.wait=[]→a=parked gm (lI X z1 z2) .select→s.tag≠.qt→s.tag≠.sp→∃s' gs' w' j0 t' a',oA X s' (n+1) gs' w' j0 t' a'∧Lt2 (meas X s') (meas X s)∧sV s s'∧(∀b,s.V b→w'.heap[b]?=w.heap[b]?)∧va X s s' a a'∧sU X s' a':=by
    intro z1 z2 gm ag ea k3 k4;have L:=A.back;rw[ag]at L;have hp:partners (gs.setIfInBounds (X.N.B+i') ph) X.N.CB false=[(0,0)]:=by
     have ah:(gs.setIfInBounds (X.N.B+i') ph)[0]?=some a:=by rw[dI (by omega)];exact h.main
     rw[partners_one ah fun k g E hg=>l.offers r E hg _ _,ea,offersAt_parked_at (k:=0) (z:=z1) rfl (fun m cc hm F=>by
      match m,hm,F with
      |0,hm,_=>exact absurd rfl hm
      |1,_,F =>
       simp[lI]at F;subst F;simp only[rcase];intro e;have:=r.kq.2.2;exact this (by injection e with e;injection e with e;exact e.symm)
      |m+2,_,F=>simp[lI]at F)]
     rfl
    have hT:=crowd_send_meets_sel (P:=X.P) (sl:=j0) hx (by rw[Q];exact hsend) L (j:=0) (k:=0) (by omega) (by rw[h.main,ea]) (zj:=z1) rfl hp;have ar:((s.got++[i']).length+([]:List Nat).length)=s.got.length+([]:List Nat).length+1:=by simp
    obtain⟨s',k⟩:=l.sent r C h8 (gs':=(gs.setIfInBounds 0 (gm.finishComm X.P (lI X z1 z2) .select (0:Nat) ((X.J i').msg v') true)).setIfInBounds (X.N.B+i') (x.finishComm X.P #[scase X.N.CB ((X.J i').msg v') X.N.z] .send 0 undef false)) (m:=m) (by simp)
     (g':=x.finishComm X.P #[scase X.N.CB ((X.J i').msg v') X.N.z] .send 0 undef false) (by rw[ff (by simpa using W)]) (fun k E h0=>by rw[dI (dE E),dI (by omega)])
     (w':=(w.at d).setChan X.N.CB X.N.n (([]:List Nat).map fun i=>(X.J i).msg (s.D i).v).toArray false (s.got.length+([]:List Nat).length+1) (s.got.length+1) false)
     (.r0 (fW RK.trans hgo (K (heap _ _ _ _))) (I.leaves r.sync (af (heap _ _ _ _)) rfl)) hn (got':=s.got++[i']) (wait':=[]) (by rw[ag];simp) (d:=d) (by simp)
     (u:=MemOp.ofEvents (X.N.B+i') x.frame.fn x.frame.place #[]++#[{ g:=X.N.B+i',fn:=x.frame.fn,pos:=x.frame.place,act:=.send X.N.CB (s.got.length+([]:List Nat).length) },{ g:=0,fn:=gm.frame.fn,pos:=gm.frame.place,act:=.recv X.N.CB s.got.length X.N.n },{ g:=X.N.B+i',fn:=x.frame.fn,pos:=x.frame.place,act:=.sendDone X.N.CB (s.got.length+([]:List Nat).length) },{ g:=0,fn:=gm.frame.fn,pos:=gm.frame.place,act:=.recvDone X.N.CB s.got.length }])
     ⟨fun op c=>by simp[gF]at c;rcases c with rfl|rfl|rfl|rfl<;>rfl,fun op c=>by simp[gF]at c;rcases c with rfl|rfl|rfl|rfl<;>exact l.j2.kq.2.1,fun op c=>by simp[gF]at c;rcases c with rfl|rfl|rfl|rfl<;>simp,fun op c=>by simp[gF]at c;rcases c with rfl|rfl|rfl|rfl<;>simp,fun op c=>by simp[gF]at c;rcases c with rfl|rfl|rfl|rfl<;>simp⟩
    obtain⟨c1,c2,c3,c4,c5,c6,c7⟩:=k;refine⟨s',_,_,j0,_,gm.finishComm X.P (lI X z1 z2) .select (0:Nat) ((X.J i').msg v') true,⟨oh f (q.trans hT),?_,?_⟩,c2,c3.xT,fun b hb=>heap _ _ _ _ b (l.j2.v b hb).2.2.1,.served i' gm z1 z2 ea ?_ c4 c5 C,.run rfl⟩
    ·exact c1
    ·rw[dI (by omega),ff (by omega)]
    ·rw[c6,hv];rfl
   cases hm with
   |pG gm z1 z2 k1 k2 k3 k4=>exact U z1 z2 gm k2 k1 k3 k4
   |run hr =>
    have hp:partners (gs.setIfInBounds (X.N.B+i') ph) X.N.CB false=[]:=partners_nil fun k g hg=>by
     by_cases E:k=0
     ·subst E;rw[dI (by omega),h.main]at hg;obtain rfl:=eX hg;exact gU (by rw[hr];simp) _ _
     ·exact l.offers r E hg _ _
    have hT:=crowd_send_room (P:=X.P) (sl:=j0) hx (by rw[Q];exact hsend) A.back (by simp;omega) hp;obtain⟨s',k⟩:=l.sent r C h8 (gs':=gs.setIfInBounds (X.N.B+i') (x.finishComm X.P #[scase X.N.CB ((X.J i').msg v') X.N.z] .send 0 undef false)) (m:=m) (by simp)
     (g':=x.finishComm X.P #[scase X.N.CB ((X.J i').msg v') X.N.z] .send 0 undef false) (by rw[ff W]) (fun k E h0=>by rw[dI (dE E)])
     (w':=(w.at d).setChan X.N.CB X.N.n ((s.wait.map fun i=>(X.J i).msg (s.D i).v).toArray.push ((X.J i').msg v')) false (s.got.length+s.wait.length+1) s.got.length false)
     (.r0 (fW RK.trans hgo (K (heap _ _ _ _))) (I.leaves r.sync (af (heap _ _ _ _)) rfl)) hn (got':=s.got) (wait':=s.wait++[i']) (by simp) (d:=d) (by rw[←hv];simp[dK])
     (u:=MemOp.ofEvents (X.N.B+i') x.frame.fn x.frame.place #[]++#[{ g:=X.N.B+i',fn:=x.frame.fn,pos:=x.frame.place,act:=.send X.N.CB (s.got.length+s.wait.length) },{ g:=X.N.B+i',fn:=x.frame.fn,pos:=x.frame.place,act:=.sendDone X.N.CB (s.got.length+s.wait.length) }])
     ⟨fun op c=>by simp[gF]at c;rcases c with rfl|rfl<;>rfl,fun op c=>by simp[gF]at c;rcases c with rfl|rfl<;>exact l.j2.kq.2.1,fun op c=>by simp[gF]at c;rcases c with rfl|rfl<;>simp,fun op c=>by simp[gF]at c;rcases c with rfl|rfl<;>simp,fun op c=>by simp[gF]at c;rcases c with rfl|rfl<;>simp⟩
    obtain⟨c1,c2,c3,c4,c5,c6,c7⟩:=k;exact⟨s',_,_,j0,_,a,⟨oh f (q.trans hT),c1,by rw[dI (by omega)];exact h.main⟩,c2,c3.xT,fun b hb=>heap _ _ _ _ b (l.j2.v b hb).2.2.1,.same rfl c4,.run hr⟩
  ·exact goes Y Z M G.xT R e6 (ae G) e7
 ·have ht:s.tag≠.sp:=fun e=>by have:=l.size.1 e;omega
  obtain⟨hsz,hj,_⟩:=l.size.2 ht;obtain rfl:i=X.N.B+X.N.n:=by omega
  obtain⟨g',w',es,tag',an,ao,Y,Z,M,G,R,e6⟩:=l.Jt r f ht hx O H A;have h0:sV s { s with tag:=tag',fc:=an,dc:=ao }:=⟨rfl,rfl,rfl,rfl,rfl,⟨fun k=>absurd k Z,fun k=>absurd k ht⟩,fun _ _ _=>rfl⟩
  by_cases hq:tag'=.qt∧s.tag≠.qt
  ·obtain⟨ap,ai⟩:=e6 hq.1 hq.2;have o:=eZ (P:=X.P) (sl:=j0) (i:=X.N.B+X.N.n) hx (by rw[Q];exact Y);have aa:=M.fin;simp only[hq.1,ud]at aa
   cases hm with
   |run hr=>exact⟨_,_,w',j0,_,a,⟨oh f (q.trans o),M,by rw[gI _ _ _ _ (by omega),h.main,dH,fe hr]⟩,G,h0,R,.same rfl rfl,.run hr⟩
   |pG gm z1 z2 k1 k2 k3 k4 =>
    have ha:woken X.P x g' w' a={ a with status:=.running }:=by
     unfold Go.Conc.woken;rw[dj (by rcases ai with e|e<;>simp[ap,e]),k1];exact again_some_closed (k:=1) (z:=z2) rfl aa
    exact⟨_,_,w',j0,_,{ a with status:=.running },⟨oh f (q.trans o),M,by rw[gI _ _ _ _ (by omega),h.main,dH,ha]⟩,G,h0,R,.woken gm z1 z2 k1 rfl rfl,.run rfl⟩
  ·exact goes Y M G h0 rfl rfl (fun k k'=>hq ⟨k',k⟩) R
end
end
section
open Go.Conc Go.ConcN Go.Proofs.YtjnkcibpkkjniaaGreat.j7
open Go.ConcR (KK wgBlock WgAt stA smA rd wr DC0)
variable [Scope]
section
variable {X:Ctx} {s:St} {n:Nat} {gs:Array Goroutine} {w w':World} {sl:Option (Nat×Nat)} {t:Trace} {a a':Goroutine}
def Ev0 (X:Ctx) (s:St) (B:Nat) (e:Event):Prop :=
 ∀x,(MemAct.ofEvent e).touch? = some x→x.loc.isMemory=true→(nI X.N x.loc∧x.kind≠.plain∧(x.kind=.said→s.tag=.sp))∨(∃b,kL b x.loc∧(s.V b∨B≤b)∧(x.write=true→s.W b∨B≤b))
theorem Cv(h:s.tag=.sp):np X s=0:=by unfold np;rw[h];rfl
theorem ku.Cw(O:X.Good)(h:ku X s n gs w t){es:Array Event}(hm:gs[0]?=some a)(hn:∀i,i<X.N.n→kp (kr X.P X.pk (X.N.B+i) X.m0 X.t0) (n+1)=kp (kr X.P X.pk (X.N.B+i) X.m0 X.t0) n)(hsz:w.heap.size≤w'.heap.size)(Q:w'.os=w.os)(R:∀b,b<w.heap.size→b≠X.N.Wg→¬s.W b→w'.heap[b]?=w.heap[b]?){st' sm':Int}{p' d0':Nat}(hp:s.j+p'≤X.N.n)(af:s.tag≠.sp→p'=0)(Z:WgAt X.N.ty X.N.Wg w' st' sm')(S:∀tag',(tag'=s.tag∨(s.tag=.blk∧tag'=.w3))→Mode s.j p' s.D tag' st' sm')(ag:∀e∈es,Ev0 X s w.heap.size e)(aa:∀e∈es,(MemAct.ofEvent e).low w'.heap.size)(ah:∀e∈es,e.loc≠.mark (.release (stA X.N.Wg)))(T:deafBehind s.d0 es=d0'):∃tag' F,(tag'=s.tag∨(s.tag=.blk∧tag'=.w3))∧ku X { s with p:=p',d0:=d0',tag:=tag',fc:=F,V:=fun b=>s.V b∨(w.heap.size≤b∧b<w'.heap.size),W:=fun b=>s.W b∨(w.heap.size≤b∧b<w'.heap.size) } (n+1) ((gs.map (woken X.P a a' w')).setIfInBounds 0 a') w' (t++MemOp.ofEvents 0 a.frame.fn a.frame.place es):=by
 have hB:=O.pos;have ar:=h.jn;have f:=h.j2;have aq:0<gs.size:=(dp.1 hm).1;have H:∀op∈MemOp.ofEvents 0 a.frame.fn a.frame.place es,op.g=0:=fun op m=>(nC m).1
 have C:∀k,k≠0→Deaf (t++MemOp.ofEvents 0 a.frame.fn a.frame.place es) k=Deaf t k:=fun k hk=>eN t (dE hk) _ H
 have off:∀b,b<w.heap.size→b≠X.N.Wg→(s.V b→¬s.W b)→w'.heap[b]?=w.heap[b]?:=fun b M I h3=>R b M I fun k=>h3 (f.wv b k) k
 have ai:w'.heap[X.N.CB]?=w.heap[X.N.CB]?:=off _ f.kq.2.1 (dE O.kq.1) fun k=>absurd rfl (f.v _ k).2.2.1
 have aj:w'.heap[X.N.CF]?=w.heap[X.N.CF]?:=off _ f.kq.2.2 (dE O.kq.2.1) fun k=>absurd rfl (f.v _ k).2.2.2.1
 have J:WgLive X.N.ty X.N.Wg w':=⟨_,_,Z⟩;have ab:∀i,i<X.N.n→Leaves (s.D i).ρ w w':=fun i E=>Leaves.block fun b p hb=>by
  have:=f.lt i E b p hb;exact off _ this.1 this.2.2.1 fun k=>absurd k this.2.1
 have U:∃tag' F,(s.tag≠.sp→∃c,gs[X.N.B+X.N.n]?=some c∧CSit X.P X.N X.Sc X.lM X.mC tag' F s.dc (woken X.P a a' w' c) w'∧Deaf t (X.N.B+X.N.n)=s.dc)∧(tag'=s.tag∨(s.tag=.blk∧tag'=.w3)):=by
  by_cases G:s.tag=.sp
  ·exact⟨s.tag,s.fc,fun e=>absurd G e,.inl rfl⟩
  ·obtain⟨c,M,I,h3⟩:=h.cl G;obtain⟨tag',f',k1,k2,K,k4⟩:=I.wokenBy O.sT ⟨fun b hb=>off b (f.v b (f.sc G b hb).1).1 (f.v b (f.sc G b hb).1).2.1 fun _=>(f.sc G b hb).2,fun _=>J⟩ a a';exact⟨tag',f',fun _=>⟨c,M,k1,h3⟩,K⟩
 obtain⟨tag',F,U,o⟩:=U;have j3:=oS o;refine⟨tag',F,o,⟨?_,hp,fun i g1 h0 M I=>?_,fun i E=>?_,fun i M I=>?_,fun G=>?_,by rw[fh,h.hear,T],fun j hj=>?_,⟨st',sm',Z,S tag' o⟩,by rw[ai];exact h.back,h.nodup,h.list,by rw[aj,h.fin,←zy o],?_,?_,?_,fun i E ak=>?_,fun G=>?_,fun G=>?_,?_,dz h.base hsz,Q.trans h.os⟩⟩
 ·simp only[gG,gH];exact⟨fun e=>h.size.1 (j3.1 e),fun e=>⟨(h.size.2 fun k=>e (j3.2 k)).1,(h.size.2 fun k=>e (j3.2 k)).2.1,af fun k=>e (j3.2 k)⟩⟩
 ·rw[gI _ _ _ _ (by omega)]at I;obtain⟨y,hy,rfl⟩:=eg.1 I;have Y:=h.lv i y h0 M hy;rw[eM Y,C i (by omega)];exact Y
 ·obtain⟨g1,e1,e2,e3⟩:=h.wk i E;have au:i<s.j:=E;refine⟨g1,by rw[gI _ _ _ _ (by omega),e1,dH,e2.woken],?_,by rw[C _ (by omega)];exact e3⟩;exact e2.rely O.sync (hn i (by omega)) ⟨fun b hb=>off b (f.v b (f.sj i E b hb).1).1 (f.v b (f.sj i E b hb).1).2.1 fun _=>(f.sj i E b hb).2,fun _=>J⟩ (ab i (by omega)) Q
 ·have hu:=h.un i M I;have hle:=ab i I;rw[hu.1]at hle;exact⟨hu.1,HR.leaves O.sync hu.2 hle Q⟩
 ·obtain⟨c,k1,k2,K⟩:=U fun k=>G (j3.2 k)
  exact⟨_,by rw[gI _ _ _ _ (by omega),k1];rfl,k2,by rw[C _ (by omega)];exact K⟩
 ·have al:gs.size≤j:=by simpa using hj
  rw[C j (by omega)];exact h.fresh j al
 ·have eK:∀(V W:Nat→Prop),KP X { s with p:=p',d0:=d0',tag:=tag',fc:=F,V:=V,W:=W }=KP X s:=fun V W=>by
   funext k;unfold KP;simp only[ne_eq,j3]
  have ec:∀(V W:Nat→Prop),np X { s with p:=p',d0:=d0',tag:=tag',fc:=F,V:=V,W:=W }=np X s:=fun V W=>by
   unfold np;rcases o with e|⟨e1,e2⟩
   ·simp only[e]
   ·simp only[e1,e2,vR]
  rw[eK,ec];have A:=f.vT O (show s.j≤X.N.n by omega);refine h.tr.app0 A fun op m=>⟨H op m,fun x hx am=>?_⟩
  obtain⟨_,e,he,an⟩:=nC m;rw[an]at hx;rcases ag e he x hx am with⟨k1,k2,K⟩|⟨b,k1,k2,K⟩
  ·exact .inl ⟨k1,k2,fun e=>Cv (K e)⟩
  ·have ad:∀i,i<X.N.n→∀y p,(s.D i).ρ y=some p→p.block≠b:=fun i E y p hy e=>by
    have:=f.lt i E y p hy;rcases k2 with k2|k2
    ·exact this.2.1 (e▸k2)
    ·omega
   refine .inr ⟨fun L=>?_,fun L=>?_,fun k hk ⟨i,E,_,hl⟩=>?_,fun hw k hk ⟨b',ao,hS⟩=>?_⟩
   ·have av:b=X.N.Wg∨b=X.N.CB∨b=X.N.CF:=L.block.imp k1.uniq fun z=>z.imp k1.uniq k1.uniq
    have:=f.kq;rcases k2 with k2|k2
    ·have:=f.v b k2;omega
    ·omega
   ·rcases k2 with k2|k2
    ·exact(f.v b k2).2.2.2.2 _ k1 L
    ·have:=f.old _ b L k1;omega
   ·obtain⟨y,p,M,I⟩:=hl.block;exact ad i E y p M (I.uniq k1)
   ·obtain rfl:=k1.uniq ao;have ae:s.V b∧¬s.W b:=by
     rcases hS with⟨i,E,e,L⟩|⟨e,L⟩
     ·rcases hk with⟨a1,a2⟩|⟨a1,a2⟩
      ·exact f.sj i (by omega) b L
      ·omega
     ·rcases hk with⟨a1,a2⟩|⟨a1,a2⟩
      ·omega
      ·exact f.sc a1 b L
    rcases K hw with K|K
    ·exact ae.2 K
    ·have:=(f.v b ae.1).1;omega
 ·intro op m;rcases dN.1 m with k|k
  ·exact MemAct.low_mono hsz (h.low op k)
  ·obtain⟨_,e,he,ha⟩:=nC k;rw[ha];exact aa e he
 ·refine h.norel.app fun op m=>?_
  obtain⟨_,e,he,ha⟩:=nC m;rw[ha];exact xQ (ah e he)
 ·obtain⟨r,hr⟩:=h.rel i E ak;exact⟨r,hr.appNot fun op m=>by rw[H op m];omega⟩
 ·have:s.tag=.cl:=by
   rcases o with k|⟨_,k⟩
   ·exact k.symm.trans G
   ·rw[show tag'=Tg.cl from G]at k;cases k
  obtain⟨q,Y⟩:=h.acq this;exact⟨q,Y.app fun i r _ hr=>hr.appNot fun op m=>by rw[H op m];omega⟩
 ·have:s.tag=.qt:=by
   rcases o with k|⟨_,k⟩
   ·exact k.symm.trans G
   ·rw[show tag'=Tg.qt from G]at k;cases k
  obtain⟨q,p,Y⟩:=h.cls this;exact⟨q,p,Y.app (fun i r _ hr=>hr.appNot fun op m=>by rw[H op m];omega) fun op m hg=>by rw[H op m]at hg;omega⟩
 ·refine⟨fun i E b p hb=>?_,f.apart,f.oz,fun b hb=>?_,fun b hb=>hb.imp (f.wv b) id,fun i E b hb=>?_,fun G b hb=>?_,⟨dA f.kq.1 hsz,dA f.kq.2.1 hsz,dA f.kq.2.2 hsz⟩,fun l b hl hb=>dA (f.old l b hl hb) hsz⟩
  ·have:=f.lt i E b p hb;exact⟨by omega,fun k=>k.elim this.2.1 fun k=>by omega,this.2.2⟩
  ·have:=f.kq;rcases hb with hb|⟨aw,ap⟩
   ·have:=f.v b hb;exact⟨by omega,this.2⟩
   ·exact⟨ap,by omega,by omega,by omega,fun l hl L=>by have:=f.old l b L hl;omega⟩
  ·have:=f.sj i E b hb;exact⟨.inl this.1,fun k=>k.elim this.2 fun k=>by have:=(f.v b this.1).1;omega⟩
  ·have:=f.sc (fun k=>G (j3.2 k)) b hb;exact⟨.inl this.1,fun k=>k.elim this.2 fun k=>by have:=(f.v b this.1).1;omega⟩
structure kg (s s':St) (w w':World):Prop where
 j:s'.j=s.j
 p:s'.p=s.p
 d0:s'.d0=s.d0
 V:s'.V=s.V
 W:s'.W=s.W
 sp:s'.tag=.sp↔s.tag=.sp
 got:s'.got=s.got
 val:∀i∈s.got,(s'.D i).v=(s.D i).v
 heap:∀b,s.V b→w'.heap[b]?=w.heap[b]?
theorem kg.refl(s:St)(w:World):kg s s w w:=⟨rfl,rfl,rfl,rfl,rfl,Iff.rfl,rfl,fun _ _=>rfl,fun _ _=>rfl⟩
theorem kg.trans{s s' c:St}{w w' e:World}(h:kg s s' w w')(k:kg s' c w' e):kg s c w e :=
 ⟨k.j.trans h.j,k.p.trans h.p,k.d0.trans h.d0,k.V.trans h.V,k.W.trans h.W,k.sp.trans h.sp,k.got.trans h.got,fun i f=>(k.val i (h.got▸f)).trans (h.val i f),fun b hb=>(k.heap b (h.V▸hb)).trans (h.heap b hb)⟩
theorem kg.at(s:St)(w:World)(d:Nat):kg s s w (w.at d):=⟨rfl,rfl,rfl,rfl,rfl,Iff.rfl,rfl,fun _ _=>rfl,fun _ _=>rfl⟩
theorem oA.turn[ki X.P][lu X.P](y:X.Good):∀{s:St}{n:Nat}{gs:Array Goroutine}{w:World}{sl:Option (Nat×Nat)} {t:Trace},oA X s n gs w sl t a→a.status=.running →
  ∃n' s' gs' w' j0 t' d b,oA X s' n' gs' w' j0 t' a∧kg s s' w (w'.at d)∧stepT X.P (crowd gs' w' j0)=runT X.P (crowd gs' (w'.at d) b) 0∧ku X s' n' gs' (w'.at d) t' ∧
   ∀i,i<X.N.n→kp (kr X.P X.pk (X.N.B+i) X.m0 X.t0) (n'+1)=kp (kr X.P X.pk (X.N.B+i) X.m0 X.t0) n':=by
 have wf:WellFounded Lt2:=Prod.lex Nat.lt_wfRel Nat.lt_wfRel |>.wf
 suffices key:∀f s n gs w sl t,meas X s=f→oA X s n gs w sl t a→a.status=.running →
   ∃n' s' gs' w' j0 t' d b,oA X s' n' gs' w' j0 t' a∧kg s s' w (w'.at d)∧stepT X.P (crowd gs' w' j0)=runT X.P (crowd gs' (w'.at d) b) 0∧ku X s' n' gs' (w'.at d) t' ∧
    ∀i,i<X.N.n→kp (kr X.P X.pk (X.N.B+i) X.m0 X.t0) (n'+1)=kp (kr X.P X.pk (X.N.B+i) X.m0 X.t0) n' from fun {s n gs w sl t} h hr=>key _ s n gs w sl t rfl h hr
 intro f
 induction f using wf.induction with
 |_ f z =>
  intro s n gs w sl t k h hr;rcases h.env y (.run hr)with⟨d,j0,_,l,m,c⟩|⟨s',gs',w',j0,t',a',l,m,c,A,C,H⟩
  ·exact⟨n,s,gs,w,sl,t,d,j0,h,kg.at s w d,l,m,c⟩
  ·cases C with
   |same e E =>
    subst e;obtain⟨n',s2,o,w2,q,t2,d,r,k1,k2,F⟩:=z (meas X s') (k▸m) s' (n+1) gs' w' j0 t' rfl l hr;refine⟨n',s2,o,w2,q,t2,d,r,k1,kg.trans ⟨c.j,c.p,c.d0,c.V,c.W,c.sp,E,fun i G=>?_,A⟩ k2,F⟩;have:=(h.pY.list i).1 (gV _ G);exact c.val i this.1 this.2
   |served i gm z1 z2 e=>rw[e]at hr;cases hr
   |woken gm z1 z2 e=>rw[e]at hr;cases hr
end
end
section
open Go.Conc Go.ConcN Go.Proofs.YtjnkcibpkkjniaaGreat.j7
open Go.ConcR (KK wgBlock WgAt stA smA rd wr DC0)
variable [Scope]
section
variable {X:Ctx} {s:St} {n:Nat} {gs:Array Goroutine} {w w':World} {sl:Option (Nat×Nat)} {t:Trace} {a a':Goroutine}
def At (X:Ctx) (s:St) (w:World) (a:Goroutine):Prop:=∃n gs sl t,oA X s n gs w sl t a
theorem ku.at_(b:X.Good)(h:ku X s n gs w t)(hr:runNT X.P n X.m0 X.t0=(.next (crowd gs w sl),t))(hm:gs[0]?=some a):At X s w a:=⟨n,gs,sl,t,hr,h,hm⟩
theorem At.go[ki X.P][lu X.P](y:X.Good)(h:At X s w a)(hr:a.status=.running){Post:St→World→Goroutine→Prop}(f:∀s1 w1,kg s s1 w w1→(∃n gs t,ku X s1 n gs w1 t)→∃a' w' es d0',stepG X.P true a w1=.go a' w' es∧w1.heap.size≤w'.heap.size∧w'.os=w1.os∧(∀b,b<w1.heap.size→¬s1.W b→w'.heap[b]?=w1.heap[b]?) ∧
   (∀e∈es,Ev0 X s1 w1.heap.size e∧(MemAct.ofEvent e).low w'.heap.size∧e.loc≠.mark (.release (stA X.N.Wg)))∧deafBehind s1.d0 es=d0' ∧
   ∀tag' l,(tag'=.sp↔s1.tag=.sp)→Post { s1 with d0:=d0',tag:=tag',fc:=l,V:=fun b=>s1.V b∨(w1.heap.size≤b∧b<w'.heap.size),W:=fun b=>s1.W b∨(w1.heap.size≤b∧b<w'.heap.size) } w' a'):∃s' w' a',At X s' w' a'∧Post s' w' a':=by
 obtain⟨n,gs,sl,t,A⟩:=h;obtain⟨B,s1,C,w1,E,t1,d,o,m,F,G,c,H⟩:=A.turn y hr;obtain⟨a',w',es,d0',I,J,K,z,q,L,M⟩:=f s1 (w1.at d) F ⟨_,_,_,c⟩;obtain⟨st,sm,hw,hm⟩:=c.wg;have r:w'.heap[X.N.Wg]?=(w1.at d).heap[X.N.Wg]?:=z _ c.j2.kq.1 fun k=>(c.j2.v _ (c.j2.wv _ k)).2.1 rfl
 obtain⟨tag',l,k1,k2⟩:=c.Cw y m.main (a':=a') (es:=es) H J K (fun b hb _ hW=>z b hb hW) c.jn (fun k=>(c.size.2 k).2.2) (qL hw r) (fun tag' O=>hm.retag O) (fun e he=>(q e he).1) (fun e he=>(q e he).2.1) (fun e he=>(q e he).2.2) L;refine⟨_,w',a',⟨B+1,_,o,_,oh m.run (G.trans (eZ (P:=X.P) (i:=0) m.main I)),k2,?_⟩,M tag' l (oS k1)⟩;rw[gJ _ _ _ (dp.1 m.main).1]
def DM (V W:Nat→Prop) (w w':World) (es:Array Event):Prop :=
 (∀b,¬W b→w'.heap[b]?=w.heap[b]?)∧w'.heap.size=w.heap.size∧w'.os=w.os∧∀e∈es,∃a wr,e=⟨.cell a,wr,false⟩∧V a.block∧(wr=true→W a.block)
theorem DM.pF{V W:Nat→Prop}{es:Array Event}(h:DC0 w w' es):DM V W w w' es:=by
 obtain⟨rfl,rfl⟩:=h;exact⟨fun _ _=>rfl,rfl,rfl,by simp⟩
structure Same (s s':St) (w w':World):Prop where
 j:s'.j=s.j
 p:s'.p=s.p
 d0:s'.d0=s.d0
 V:s'.V=s.V
 W:s'.W=s.W
 sp:s'.tag=.sp↔s.tag=.sp
 got:s'.got=s.got
 val:∀i∈s.got,(s'.D i).v=(s.D i).v
 heap:∀b,s.V b→¬s.W b→w'.heap[b]?=w.heap[b]?
theorem Same.refl(s:St)(w:World):Same s s w w:=⟨rfl,rfl,rfl,rfl,rfl,Iff.rfl,rfl,fun _ _=>rfl,fun _ _ _=>rfl⟩
theorem Same.trans{s s' c:St}{w w' e:World}(h:Same s s' w w')(k:Same s' c w' e):Same s c w e :=
 ⟨k.j.trans h.j,k.p.trans h.p,k.d0.trans h.d0,k.V.trans h.V,k.W.trans h.W,k.sp.trans h.sp,k.got.trans h.got,fun i f=>(k.val i (h.got▸f)).trans (h.val i f),fun b hb hw=>(k.heap b (h.V▸hb) (h.W▸hw)).trans (h.heap b hb hw)⟩
theorem ku.rk{s1:St}{w1:World}{c:Nat}{b:Array Goroutine}{t1:Trace}(e:ku X s1 c b w1 t1)(f:kg s s1 w w1):RK X.N.ty X.N.Wg s.V w w1 :=
 ⟨f.heap,fun _=>let ⟨st,sm,hw,_⟩:=e.wg;⟨st,sm,hw⟩⟩
theorem At.walk[ki X.P][lu X.P](A:X.Good){Stop:Goroutine→World→Prop}(B:∀g w,Stop g w→g.status=.running):∀{m:Nat}{s:St}{w:World}{a:Goroutine},At X s w a→Goes X.P true (RK X.N.ty X.N.Wg s.V) (DM s.V s.W) Stop m a w →
  ∃s' w' a',At X s' w' a'∧(∀w₁,RK X.N.ty X.N.Wg s'.V w' w₁→Stop a' w₁)∧Same s s' w w':=by
 intro m
 induction m with
 |zero =>
  intro s w a h o;exact⟨s,w,a,h,o,Same.refl s w⟩
 |succ m C =>
  intro s w a h o;rcases o with f|⟨hr,k⟩
  ·exact⟨s,w,a,h,f,Same.refl s w⟩
  ·obtain⟨s',w',a',k1,k2,E⟩:=h.go A hr (Post:=fun s' w' a'=>Same s s' w w'∧Goes X.P true (RK X.N.ty X.N.Wg s'.V) (DM s'.V s'.W) Stop m a' w') fun s1 w1 c l=>by
    obtain⟨R,F,t1,l⟩:=l;obtain⟨a',w',es,G,⟨d1,d2,d3,d4⟩,H⟩:=goes_elim (k w1 (l.rk c));have I:∀b,(s1.V b∨(w1.heap.size≤b∧b<w'.heap.size))↔s1.V b:=fun b=>⟨fun h=>h.elim id fun h=>by omega,.inl⟩
    have hW:∀b,(s1.W b∨(w1.heap.size≤b∧b<w'.heap.size))↔s1.W b:=fun b=>⟨fun h=>h.elim id fun h=>by omega,.inl⟩
    have r:(fun b=>s1.V b∨(w1.heap.size≤b∧b<w'.heap.size))=s.V:=funext fun b=>(propext (I b)).trans (congrFun c.V b)
    have y:(fun b=>s1.W b∨(w1.heap.size≤b∧b<w'.heap.size))=s.W:=funext fun b=>(propext (hW b)).trans (congrFun c.W b)
    refine⟨a',w',es,s1.d0,G,by omega,d3,fun b _ hb=>d1 b (by rw[←c.W];exact hb),fun e he=>?_,?_,fun tag' J K=>⟨⟨c.j,c.p,c.d0,r,y,K.trans c.sp,c.got,c.val,fun b hb hw=>(d1 b hw).trans (c.heap b hb)⟩,?_⟩⟩
    ·obtain⟨ad,wr,rfl,q,z⟩:=d4 e he;rw[←c.V]at q;rw[←c.W]at z;refine⟨fun x hx _=>?_,?_,by simp⟩
     ·have:x=⟨.cell ad,wr,.plain⟩:=by cases wr<;>simp[MemAct.ofEvent,MemAct.touch?]at hx<;>exact hx.symm
      subst this;exact .inr ⟨ad.block,rfl,.inl q,fun hw=>.inl (z hw)⟩
     ·have:=(l.j2.v _ q).1;show ad.block<_;omega
    ·exact vU (fun e he=>by obtain⟨ad,wr,rfl,_⟩:=d4 e he;simp) _
    ·show Goes X.P true (RK X.N.ty X.N.Wg fun b=>s1.V b∨(w1.heap.size≤b∧b<w'.heap.size)) (DM (fun b=>s1.V b∨(w1.heap.size≤b∧b<w'.heap.size)) fun b=>s1.W b∨(w1.heap.size≤b∧b<w'.heap.size)) Stop m a' w';rw[r,y];exact H
   obtain⟨s2,w2,L,M,O,Q⟩:=C k1 E;exact⟨s2,w2,L,M,O,k2.trans Q⟩
end
end
end Go.Proofs.YtjnkcibpkkjniaaGreat.kj
