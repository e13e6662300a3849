import Derived.Test.YtjnkcibpkkjniaaGreatA00
import Derived.Test.YtjnkcibpkkjniaaGreatA04
import Derived.Conc.TokenWalk
set_option linter.all false
set_option maxHeartbeats 8000000
set_option maxRecDepth 100000
namespace Go.Proofs.YtjnkcibpkkjniaaGreat
def iq:=@Go.Conc.listed_none
end Go.Proofs.YtjnkcibpkkjniaaGreat
namespace Go.Proofs.YtjnkcibpkkjniaaGreat.kN
section
open Go.Conc Go.ConcN Go.Proofs.YtjnkcibpkkjniaaGreat.kx
open Go.ConcR (KK wgBlock WgAt stA smA rd wr DC0)
variable [Scope]
section
variable {P:Program} {gs:Array Goroutine} {w w₁:World} {sl:Option (Nat×Nat)} {g g₂:Goroutine} {es:Array Event} {c c' cap Kt s s' r r':Nat} {buf:Array Value} {tm Ku closed:Bool} {z z':Value}
theorem Kv(H:gs[0]?=some g)(h:stepG P (0 == 0) g w=.comm g₂ #[rcase c z,rcase c' z'] true .select w₁ es)(C:w₁.heap[c]?=some (.chan cap buf closed s r tm))(m:0<buf.size)(q:w₁.heap[c']?=some (.chan Kt #[] true s' r' Ku))(hp:partners (gs.setIfInBounds 0 ph) c true=[])(D:partners (gs.setIfInBounds 0 ph) c' true=[]):∃d,runT P (crowd gs w sl) 0=(.next (crowd (gs.setIfInBounds 0 (g₂.finishComm P #[rcase c z,rcase c' z'] .select (0:Nat) (buf.getD 0 undef) true)) ((w₁.at d).setChan c cap (buf.extract 1 buf.size) closed s (r+1) tm) sl),
    MemOp.ofEvents 0 g.frame.fn g.frame.place es++#[{ g:=0,fn:=g₂.frame.fn,pos:=g₂.frame.place,act:=.recv c r cap },{ g:=0,fn:=g₂.frame.fn,pos:=g₂.frame.place,act:=.recvDone c r }]) ∨
   runT P (crowd gs w sl) 0=(.next (crowd (gs.setIfInBounds 0 (g₂.finishComm P #[rcase c z,rcase c' z'] .select (1:Nat) z' false)) (w₁.at d) sl),
    MemOp.ofEvents 0 g.frame.fn g.frame.place es++#[{ g:=0,fn:=g₂.frame.fn,pos:=g₂.frame.place,act:=.recvClosed c' }]):=by
 have hw:ways w₁ (gs.setIfInBounds 0 ph) (rcase c z)=[.buffer]:=by simp[ways,rcase,C,m]
 have E:ways w₁ (gs.setIfInBounds 0 ph) (rcase c' z')=[.closed]:=by simp[ways,rcase,q,D]
 have e:(((#[rcase c z,rcase c' z']:Array CommCase).zipIdx.toList.map fun(c,k)=>(k,c,ways w₁ (gs.setIfInBounds 0 ph) c)).filter fun(_,_,ws)=>!ws.isEmpty)=[(0,rcase c z,[.buffer]),(1,rcase c' z',[.closed])]:=by
  simp[hw,E]
 have f:(#[rcase c z,rcase c' z']:Array CommCase).any (illMade w₁)=false:=any_ill fun K u=>by
  simp at u;rcases u with rfl|rfl
  ·exact made_recv z C
  ·exact made_recv z' q
 rw[runT_crowd_comm H h];have I:(Question.select 2).forced=false:=rfl;have y:(Question.select 2).cut (w₁.tape w₁.drawn (.select 2))=0∨(Question.select 2).cut (w₁.tape w₁.drawn (.select 2))=1:=by
  have:(Question.select 2).cut (w₁.tape w₁.drawn (.select 2))<2:=by
   simp only[Question.cut];exact gp _ (by omega)
  omega
 refine⟨w₁.drawn+1,?_⟩;have F:w₁.drew.heap[c]?=some (.chan cap buf closed s r tm):=C;rcases y with G|G
 ·refine .inl ?_;unfold communicate;simp only[e];rw[dt]
  ·simp[choose,Sem.run,G,bind,Sem.bind,pure,rcase,F,hp,World.setChan,crowd,Question.forced]
   try first|exact⟨rfl,rfl,rfl,rfl,rfl⟩|rfl
  ·rw[Bool.not_eq_true];exact f
 ·refine .inr ?_;unfold communicate;simp only[e];rw[dt]
  ·simp[choose,Sem.run,G,bind,Sem.bind,pure,rcase,crowd,Question.forced]
   try first|exact⟨rfl,rfl,rfl,rfl,rfl⟩|rfl
  ·rw[Bool.not_eq_true];exact f
end
section
variable {X:Ctx} {s:St} {n:Nat} {gs:Array Goroutine} {w:World} {sl:Option (Nat×Nat)} {t:Trace} {a:Goroutine} {z1 z2:Value}
structure Al (s s':St) (i:Nat) (w w':World):Prop where
 j:s'.j=s.j
 p:s'.p=s.p
 d0:s'.d0=s.d0
 V:s'.V=s.V
 W:s'.W=s.W
 sp:s'.tag=.sp↔s.tag=.sp
 got:s'.got=s.got++[i]
 new:i ∉ s.got
 val:∀i∈s.got,(s'.D i).v=(s.D i).v
 heap:∀b,s.V b→w'.heap[b]?=w.heap[b]?
structure vM (X:Ctx) (s s':St) (w:World) (a':Goroutine) (w':World):Prop where
 run:∃N gs' kn t' q',runNT X.P N X.m0 X.t0=(.next (crowd gs' w' kn),t')∧gs'[0]?=some a'∧Leavers X.P t' gs' q'∧Past (fun l=>X.Shun l∨oq X.N l) w'.heap.size t'
 done:∀i,i<X.N.n→Done (X.J i) (s'.D i).ρ (s'.D i).v w'∧i∈s'.got++s'.wait
 nodup:(s'.got++s'.wait).Nodup
 range:∀i∈s'.got++s'.wait,i<X.N.n
 back:w'.heap[X.N.CB]?=some (.chan X.N.n (s'.wait.map fun i=>(X.J i).msg (s'.D i).v).toArray false (s'.got.length+s'.wait.length) s'.got.length false)
 ko:rA X s' w'
 V:s'.V=s.V
 W:s'.W=s.W
 got:s'.got=s.got
 val:∀i∈s.got,(s'.D i).v=(s.D i).v
 heap:∀b,s.V b→w'.heap[b]?=w.heap[b]?
 base:Scope.base≤w'.heap.size
 os:w'.os=X.m0.world.os
def sZ (X:Ctx) (s:St) (w:World) (a:Goroutine) (z1 z2:Value):Prop :=
 (∃i s' w',At X s' w' (a.finishComm X.P (mj X z1 z2) .select (0:Nat) ((X.J i).msg (s'.D i).v) true)∧i<X.N.n∧Al s s' i w w') ∨
 ∃s' w',vM X s s' w (a.finishComm X.P (mj X z1 z2) .select (1:Nat) z2 false) w'
variable {s':St} {w':World}
theorem kB.Dn{e:St}{i:Nat}{f:World}(h:kB s s' w w')(k:Al s' e i w' f):Al s e i w f :=
 ⟨k.j.trans h.j,k.p.trans h.p,k.d0.trans h.d0,k.V.trans h.V,k.W.trans h.W,k.sp.trans h.sp,by rw[k.got,h.got],by have:=k.new;rw[h.got]at this;exact this,fun i m=>(k.val i (h.got▸m)).trans (h.val i m),fun b hb=>(k.heap b (h.V▸hb)).trans (h.heap b hb)⟩
theorem kB.over{s s' e:St}{w w' f:World}{a':Goroutine}(h:kB s s' w w')(k:vM X s' e w' a' f):vM X s e w a' f :=
 ⟨k.run,k.done,k.nodup,k.range,k.back,k.ko,k.V.trans h.V,k.W.trans h.W,k.got.trans h.got,fun i m=>(k.val i (h.got▸m)).trans (h.val i m),fun b hb=>(k.heap b (h.V▸hb)).trans (h.heap b hb),k.base,k.os⟩
theorem sZ.keeps(h:kB s s' w w')(k:sZ X s' w' a z1 z2):sZ X s w a z1 z2:=by
 rcases k with⟨i,s2,w2,k1,k2,e⟩|⟨s2,w2,k1⟩
 ·exact .inl ⟨i,s2,w2,k1,k2,h.Dn e⟩
 ·exact .inr ⟨s2,w2,h.over k1⟩
theorem tQ.keeps(e:kO X s n gs w t)(h:tQ s s')(f:s'.got=s.got)(k:∀b,s.V b→w'.heap[b]?=w.heap[b]?):kB s s' w w' :=
 ⟨h.j,h.p,h.d0,h.V,h.W,h.sp,f,fun i m=>by have:=(e.list i).1 (gZ _ m);exact h.val i this.1 this.2,k⟩
theorem kO.select[kD X.P][lV X.P](hX:X.Good)(h:oV X s n gs w sl t a){d:Nat}{kn:Option (Nat×Nat)}{H:Goroutine}(aa:stepT X.P (crowd gs w sl)=runT X.P (crowd gs (w.at d) kn) 0)(L:kO X s n gs (w.at d) t)(hn:∀i,i<X.N.n→kI (kK X.P X.pk (X.N.B+i) X.m0 X.t0) (n+1)=kI (kK X.P X.pk (X.N.B+i) X.m0 X.t0) n)(hr:a.status=.running)(kp:s.tag≠.sp)(ag:s.d0=0)(R:stepG X.P true a (w.at d)=.comm H (mj X z1 z2) true .select (w.at d) #[]):sZ X s (w.at d) H z1 z2∨∃gs',oV X s (n+1) gs' (w.at d) kn t (parked H (mj X z1 z2) .select)∧s.wait=[]∧s.tag≠.qt:=by
 have f:∀(r:Nat)(b:Bool),partners (gs.setIfInBounds 0 ph) r b=[]:=fun r b=>partners_nil fun k g hg=>by
  by_cases hk:k=0
  ·subst hk;rcases getElem?_stand gs 0 0 g hg with⟨_,rfl⟩|⟨k,_⟩
   ·exact offersAt_ph r b
   ·exact absurd rfl k
  ·exact L.offers hX hk hg r b
 have h0:0<gs.size:=(dv.1 h.main).1;have ab:∀(x:Goroutine) k,0<k→(gs.setIfInBounds 0 x)[k]?=gs[k]?:=fun x k hk=>dO (by omega)
 have S:∀x:Goroutine,(gs.setIfInBounds 0 x)[0]?=some x:=fun x=>fj h0
 have take:∀(d' i:Nat)(rest:List Nat)(u:Trace),s.wait=i::rest→runT X.P (crowd gs (w.at d) kn) 0=(.next (crowd (gs.setIfInBounds 0 (H.finishComm X.P (mj X z1 z2) .select (0:Nat) (((s.wait.map fun i=>(X.J i).msg (s.D i).v).toArray).getD 0 undef) true)) (((w.at d).at d').setChan X.N.CB X.N.n ((s.wait.map fun i=>(X.J i).msg (s.D i).v).toArray.extract 1 (s.wait.map fun i=>(X.J i).msg (s.D i).v).toArray.size) false (s.got.length+s.wait.length) (s.got.length+1) false) kn),u) →
   u=MemOp.ofEvents 0 a.frame.fn a.frame.place #[]++#[{ g:=0,fn:=H.frame.fn,pos:=H.frame.place,act:=.recv X.N.CB s.got.length X.N.n },{ g:=0,fn:=H.frame.fn,pos:=H.frame.place,act:=.recvDone X.N.CB s.got.length }]→sZ X s (w.at d) H z1 z2:=by
  intro d' i rest u I M hu;have ah:i<X.N.n:=by
   have:=((L.list i).1 (by rw[I];simp)).1;have:=L.jn;omega
  have K:∀op∈u,op=({ g:=0,fn:=H.frame.fn,pos:=H.frame.place,act:=.recv X.N.CB s.got.length X.N.n }:MemOp)∨op={ g:=0,fn:=H.frame.fn,pos:=H.frame.place,act:=.recvDone X.N.CB s.got.length }:=fun op G=>by
   rw[hu]at G;simpa[gJ]using G
  have Z:i ∉ s.got:=fun k=>by
   have:=L.nodup;rw[I,gU]at this;exact this.2.2 i k i (by simp) rfl
  have ad:∀b,b≠X.N.CB→(((w.at d).at d').setChan X.N.CB X.N.n ((s.wait.map fun i=>(X.J i).msg (s.D i).v).toArray.extract 1 (s.wait.map fun i=>(X.J i).msg (s.D i).v).toArray.size) false (s.got.length+s.wait.length) (s.got.length+1) false).heap[b]?=(w.at d).heap[b]?:=fun b hb=>by
   rw[uO,dt (fun e=>hb e.1.symm)];rfl
  have hC:=L.taken hX (gs':=gs.setIfInBounds 0 (H.finishComm X.P (mj X z1 z2) .select (0:Nat) (((s.wait.map fun i=>(X.J i).msg (s.D i).v).toArray).getD 0 undef) true)) (n':=n+1) (u:=u) (by simp) (ab _) hn (got':=s.got++[i]) (wait':=rest) (by rw[I];simp)
   (by
    rw[uO,dr ⟨rfl,L.ko.kJ.2.1⟩,I];simp[dR];refine⟨by rw[ig (by simp)],by omega⟩) ad (by simp[World.setChan];rfl) rfl
   (fun op G=>by rcases K op G with rfl|rfl<;>rfl) (fun op G=>by rcases K op G with rfl|rfl<;>exact L.ko.kJ.2.1) (fun op G=>by rcases K op G with rfl|rfl<;>rfl) (fun op G=>by rcases K op G with rfl|rfl<;>simp) (fun op G=>by rcases K op G with rfl|rfl<;>simp)
  refine .inl ⟨i,_,_,⟨n+1,_,kn,_,oK h.run (aa.trans M),hC,?_⟩,ah,⟨rfl,rfl,rfl,rfl,rfl,Iff.rfl,rfl,Z,fun _ _=>rfl,fun b hb=>ad b (L.ko.v b hb).2.2.1⟩⟩;rw[S];rw[I];rfl
 have over:∀(d':Nat)(u:Trace),s.tag=.qt→runT X.P (crowd gs (w.at d) kn) 0=(.next (crowd (gs.setIfInBounds 0 (H.finishComm X.P (mj X z1 z2) .select (1:Nat) z2 false)) ((w.at d).at d') kn),u) →
   u=MemOp.ofEvents 0 a.frame.fn a.frame.place #[]++#[{ g:=0,fn:=H.frame.fn,pos:=H.frame.place,act:=.recvClosed X.N.CF }]→sZ X s (w.at d) H z1 z2:=by
  intro d' u Y M hu;have ai:u=#[{ g:=0,fn:=H.frame.fn,pos:=H.frame.place,act:=.recvClosed X.N.CF }]:=by rw[hu];simp[gJ]
  subst ai;obtain⟨⟨q,k1⟩,k2,k3⟩:=L.leave hX Y ag (gs':=gs.setIfInBounds 0 (H.finishComm X.P (mj X z1 z2) .select (1:Nat) z2 false)) (by simp) (ab _) (y:={ g:=0,fn:=H.frame.fn,pos:=H.frame.place,act:=.recvClosed X.N.CF }) ⟨rfl,rfl⟩;have hC:=L.at hX d' (n':=n) (fun _ _=>rfl);exact .inr ⟨s,_,⟨n+1,_,kn,_,q,oK h.run (aa.trans M),S _,k1,k2⟩,fun i hi=>⟨((k3 i hi).1).leaves hX.sync (Leaves.of_heap rfl) rfl,(k3 i hi).2⟩,L.nodup,fun i hi=>by have:=((L.list i).1 hi).1;have:=L.jn;omega,hC.back,hC.ko,rfl,rfl,rfl,fun _ _=>rfl,fun _ _=>rfl,hC.base,hC.os⟩
 have C:=L.back;have F:=L.fin;have aj:X.N.CB≠X.N.CF:=hX.kJ.2.2
 cases hw:s.wait with
 |nil =>
  rw[hw]at C;have ae:NoWays (w.at d) (gs.setIfInBounds 0 ph) (rcase X.N.CB z1):=ways_recv_none C (f _ _)
  by_cases Y:s.tag=.qt
  ·rw[Y]at F;have M:=crowd_sel_recv_closed (P:=X.P) (sl:=kn) (k:=1) (z:=z2) h.main (by exact R) rfl (fun m c' hm E=>by
    match m,hm,E with
    |0,_,E=>simp[mj]at E;subst E;exact ae
    |1,hm,_=>exact absurd rfl hm
    |m+2,_,E=>simp[mj]at E) F (f _ _)
   exact .inl (over (w.at d).drawn _ Y M rfl)
  ·rw[Aj Y]at F;have U:NoWays (w.at d) (gs.setIfInBounds 0 ph) (rcase X.N.CF z2):=ways_recv_none F (f _ _);have M:=crowd_waits (P:=X.P) (sl:=kn) h.main (by exact R) (fun cc af=>by
    simp[mj]at af;rcases af with rfl|rfl
    ·exact ae
    ·exact U)
   refine .inr ⟨_,⟨oK h.run (aa.trans M),?_,S _⟩,by first|exact hw|rfl,Y⟩;have:=L.taken hX (gs':=gs.setIfInBounds 0 (parked H (mj X z1 z2) .select)) (n':=n+1) (w':=w.at d) (u:=MemOp.ofEvents 0 a.frame.fn a.frame.place #[]) (by simp) (ab _) hn (got':=s.got) (wait':=s.wait) rfl (by rw[hw];exact C) (fun _ _=>rfl) rfl rfl
    (by simp[gJ]) (by simp[gJ]) (by simp[gJ]) (by simp[gJ]) (by simp[gJ])
   simpa[gJ]using this
 |cons i rest =>
  rw[hw]at C;have O:0<((i::rest).map fun i=>(X.J i).msg (s.D i).v).toArray.size:=by simp
  rw[←hw]at C O
  by_cases Y:s.tag=.qt
  ·rw[Y]at F;obtain⟨d',M⟩:=Kv (P:=X.P) (sl:=kn) h.main (by exact R) C O F (f _ _) (f _ _);rcases M with M|M
   ·exact .inl (take d' i rest _ hw M rfl)
   ·exact .inl (over d' _ Y M rfl)
  ·rw[Aj Y]at F;have U:NoWays (w.at d) (gs.setIfInBounds 0 ph) (rcase X.N.CF z2):=ways_recv_none F (f _ _);have M:=crowd_sel_recv_buf (P:=X.P) (sl:=kn) (k:=0) (z:=z1) h.main (by exact R) rfl (fun m c' hm E=>by
    match m,hm,E with
    |0,hm,_=>exact absurd rfl hm
    |1,_,E=>simp[mj]at E;subst E;exact U
    |m+2,_,E=>simp[mj]at E) C O (f _ _)
   exact .inl (take (w.at d).drawn i rest _ hw M rfl)
theorem At.select[kD X.P][lV X.P](hX:X.Good)(h:At X s w a)(hr:a.status=.running)(kp:s.tag≠.sp)(ae:s.d0=0)(aa:∀w₁,RK X.N.ty X.N.Wg s.V w w₁→stepG X.P true a w₁=.comm a (mj X z1 z2) true .select w₁ #[]):sZ X s w a z1 z2:=by
 have wf:WellFounded Lt2:=Prod.lex Nat.lt_wfRel Nat.lt_wfRel |>.wf
 have E:∀w₁,stepG X.P true { parked a (mj X z1 z2) .select with status:=.running } w₁=stepG X.P true a w₁:=fun w₁=>by
  rw[stepG_tries];congr 1;obtain⟨fr,cs,st,dy,off⟩:=a;simp only at hr;subst hr;rfl
 suffices key:∀μ (s1:St),meas X s1=μ→∀n gs w1 sl t U,oV X s1 n gs w1 sl t U→kB s s1 w w1 →
   ((U.status=.running∧(∀w₁,stepG X.P true U w₁=stepG X.P true a w₁))∨(U=parked a (mj X z1 z2) .select∧s1.wait=[]∧s1.tag≠.qt))→sZ X s w a z1 z2 by
  obtain⟨n,gs,sl,t,u⟩:=h;exact key _ s rfl n gs w sl t a u (kB.refl s w) (.inl ⟨hr,fun _=>rfl⟩)
 intro μ
 induction μ using wf.induction with
 |_ μ ih =>
  have qb:∀(s1:St),meas X s1=μ→∀n gs w1 sl t,oV X s1 n gs w1 sl t (parked a (mj X z1 z2) .select)→kB s s1 w w1→s1.wait=[]→s1.tag≠.qt→sZ X s w a z1 z2:=by
   intro s1 m n gs w1 sl t u C af hq;have ab:s1.tag≠.sp:=fun e=>kp (C.sp.1 e)
   rcases u.env hX (.qb a z1 z2 rfl af hq ab)with⟨d,kn,I,_⟩|⟨s2,ag,w2,ah,t2,a2,K,h2,y,h4,h5,h6⟩
   ·cases I
   ·cases h5 with
    |same q F =>
     subst q;have L:=C.trans (y.keeps u.qG F h4)
     cases h6 with
     |run I=>cases I
     |qb gm Y Z M e4 e5 e6=>exact ih (meas X s2) (m▸h2) s2 rfl _ _ _ _ _ _ K L (.inr ⟨rfl,e4,e5⟩)
    |served i gm Y Z q F M e4 e5 =>
     have he:gm={ a with status:=gm.status,offers:=gm.offers }∧mj X z1 z2=mj X Y Z:=by
      obtain⟨fr,cs,st,dy,off⟩:=a;obtain⟨j8,ak,st',al,aj⟩:=gm;simp only[parked,eN,dW,eG]at q;obtain⟨rfl,rfl,_,rfl,ec,_⟩:=q;exact⟨rfl,ec⟩
     have hf:gm.finishComm X.P (mj X Y Z) .select (0:Nat) ((X.J i).msg (s2.D i).v) true=a.finishComm X.P (mj X z1 z2) .select (0:Nat) ((X.J i).msg (s2.D i).v) true:=by
      rw[he.1,←he.2];rfl
     have G:i ∉ s1.got:=fun k=>by
      have ad:=K.qG.nodup;rw[M,e4,ij,gU]at ad;exact ad.2.2 i k i (by simp) rfl
     have am:=u.qG.jn;refine .inl ⟨i,s2,w2,?_,by omega,C.Dn ⟨y.j,y.p,y.d0,y.V,y.W,y.sp,M,G,fun i' ai=>?_,h4⟩⟩
     ·rw[←hf];exact⟨_,_,_,_,by rw[F]at K;exact K⟩
     ·have:=(u.qG.list i').1 (gZ _ ai);exact y.val i' this.1 this.2
    |woken gm Y Z q F M =>
     have L:=C.trans (y.keeps u.qG M h4);subst F;exact ih (meas X s2) (m▸h2) s2 rfl _ _ _ _ _ _ K L (.inl ⟨rfl,E⟩)
  intro s1 m n gs w1 sl t U u C O;rcases O with⟨f,H⟩|⟨q,F,M⟩
  ·rcases u.env hX (.run f)with⟨d,kn,_,k1,k2,k3⟩|⟨s2,ag,w2,ah,t2,a2,K,h2,y,h4,h5,h6⟩
   ·have R:kB s s1 w (w1.at d):=C.trans (kB.at s1 w1 d);have S:stepG X.P true U (w1.at d)=.comm a (mj X z1 z2) true .select (w1.at d) #[]:=by
     rw[H];exact aa _ (k2.rk R)
    rcases kO.select hX u k1 k2 k3 f (fun e=>kp (C.sp.1 e)) (C.d0.trans ae) S with k|⟨gs',l1,l2,l3⟩
    ·exact k.keeps R
    ·exact qb s1 m _ _ _ _ _ l1 R l2 l3
   ·cases h5 with
    |same q F =>
     subst q;exact ih (meas X s2) (m▸h2) s2 rfl _ _ _ _ _ _ K (C.trans (y.keeps u.qG F h4)) (.inl ⟨f,H⟩)
    |served i gm Y Z q=>rw[q]at f;cases f
    |woken gm Y Z q=>rw[q]at f;cases f
  ·subst q;exact qb s1 m _ _ _ _ _ u C F M
end
end
section
open Go.Conc Go.ConcN Go.Proofs.YtjnkcibpkkjniaaGreat.kx
open Go.ConcR (KK wgBlock WgAt stA smA rd wr DC0)
def Clean (A:MemAct→Prop) (t:Trace):Prop:=∀op∈t,A op.act
theorem Clean.app{A:MemAct→Prop}{t:Trace}(h:Clean A t){g:Nat}{fn:FuncId}{pos:String}{es:Array Event}(f:∀e∈es,A (.ofEvent e)):Clean A (t++MemOp.ofEvents g fn pos es):=by
 intro op m;rcases dS.1 m with k|k
 ·exact h op k
 ·obtain⟨e,he,rfl⟩:=eX k;exact f e he
section
variable {P:Program} {m0:Machine} {t0:Trace} {Shun:Loc→Prop} {pk:Machine→Nat×Nat×Option (Nat×Nat)}
theorem Kw{A:MemAct→Prop}(hA:∀e:Event,e.mute=true→A (.ofEvent e))(S:∀gs w sl,(∀g∈gs,awake g)→(∃(i:Nat)(g:Goroutine),gs[i]?=some g∧g.status=.running) →
  ∃g,gs[(pk (crowd gs w sl)).1]?=some g∧g.status=.running∧stepT P (crowd gs w sl)=runT P (crowd gs (w.at (pk (crowd gs w sl)).2.1) (pk (crowd gs w sl)).2.2) (pk (crowd gs w sl)).1){n:Nat}{gs:Array Goroutine}{w:World}{sl:Option (Nat×Nat)}{t:Trace}{q:Nat→Nat}{g:Goroutine}(h:Beside P m0 t0 Shun n gs w sl t q g)(hc:Clean A t)(U:g.status=.running):∃d kn,(∃gs' t' q',Beside P m0 t0 Shun (n+1) gs' (w.at d) kn t' q' g∧Clean A t'∧gs'.size=gs.size∧sumTo gs.size q'<sumTo gs.size q∧kK P pk 0 m0 t0 n=(0,0)) ∨
   (kK P pk 0 m0 t0 n=(d,(nW (stepG P true g (w.at d))).drawn)∧∀g' w' es,stepG P true g (w.at d)=.go g' w' es→(∀e∈es,EvL Shun w'.heap.size e∧A (.ofEvent e))→w.heap.size≤w'.heap.size →
    ∃gs' t',Beside P m0 t0 Shun (n+1) gs' w' kn t' q g'∧Clean A t'∧gs'.size=gs.size):=by
 have Y:∀x∈gs,awake x:=by
  intro x hx;obtain⟨i,hi,rfl⟩:=eZ.1 hx;rcases fb i with rfl|f
  ·have:gs[0]=g:=by simpa[dw hi]using h.main
   rw[this];exact fe (.inl U)
  ·exact fe ((h.leave.old i _ f (dw hi)).status.elim .inl fun x=>.inr (.inr x))
 obtain⟨x,hx,D,E⟩:=S gs w sl Y ⟨0,g,h.main,U⟩;have m:=zO (P:=P) (pk:=pk) (i0:=0) h.run h.main;have u:=uC (P:=P) (pk:=pk) (i0:=0) h.run;generalize pk (crowd gs w sl)=y at hx E m u;obtain⟨i,d,kn⟩:=y;simp only at hx E m u;refine⟨d,kn,?_⟩;rcases fb i with rfl|f
 ·refine .inr ⟨m rfl,fun g' w' es hgo K hsz=>?_⟩;obtain rfl:x=g:=by rw[h.main]at hx;exact(ff hx).symm
  have C:=fg (P:=P) (sl:=kn) (i:=0) h.main (show stepG P (0 == 0) x (w.at d)=_ from hgo);have F:0<gs.size:=(dv.1 h.main).1;refine⟨_,_,⟨oK h.run (E.trans C),by simp[F],Cw h.leave h.main _ _ _,(h.past.mono hsz).own fun e he=>(K e he).1⟩,hc.app fun e he=>(K e he).2,by simp⟩
 ·refine .inl ?_;have O:=h.leave.old i x f hx;have F:i<gs.size:=(dv.1 hx).1;have Z:(i == 0)=false:=by simp;omega
  cases H:q i with
  |zero=>rw[H]at O;rw[O.1]at D;cases D
  |succ k =>
   rw[H]at O;rcases O with⟨hf,_⟩|⟨_,g',es,hm,L,aa⟩
   ·rw[hf]at D;cases D
   have C:=fg (P:=P) (sl:=kn) (i:=i) hx (by rw[Z];exact L (w.at d));have ad:sumTo gs.size (upd q i k)+(k+1)=sumTo gs.size q+k:=by
    have:=fh q k id F;simpa[H]using this
   refine⟨_,_,upd q i k,⟨oK h.run (E.trans C),?_,⟨fun j z hj R=>?_,fun j hj=>?_⟩,h.past.mute (show i≠0 by omega) hm⟩,hc.app fun e he=>hA e (hm e he),by simp,by omega,u (show i≠0 by omega)⟩
   ·rw[dO (show i≠0 by omega),dV,h.main];simp[fi U]
   ·by_cases G:i=j
    ·subst G;rw[fj (by simpa using F)]at R;obtain rfl:=ff R;rw[fl,fo];exact aa
    ·rw[dO G,dV]at R;obtain⟨y,hy,rfl⟩:=eo.1 R;have M:=h.leave.old j y hj hy;rw[eT M,fp q k (dJ G),eU t G _ (fun op I=>by obtain⟨e,_,rfl⟩:=eX I;rfl)];exact M
   ·have ab:gs.size≤j:=by simpa using hj
    rw[eU t (g':=i) (show i≠j by omega) _ (fun op I=>by obtain⟨e,_,rfl⟩:=eX I;rfl)];exact h.leave.above j ab
end
section
variable {P:Program}
theorem Kx{A:MemAct→Prop}(R:∀e:Event,e.mute=true→A (.ofEvent e)){Shun:Loc→Prop}{Post:Goroutine→World→Prop}{g:Goroutine}{w:World}(S:g.status=.running)(h:∀d,∃g' w' es,stepG P true g (w.at d)=.go g' w' es∧(∀e∈es,EvL Shun w'.heap.size e∧A (.ofEvent e))∧w.heap.size≤w'.heap.size∧Post g' w'):∀(gs:Array Goroutine)(sl:Option (Nat×Nat)) (t:Trace) (q:Nat→Nat),gs[0]?=some g→Leavers P t gs q→Past Shun w.heap.size t→Clean A t →
   ∃N gs' g' w' kn t' q',runNT P N (crowd gs w sl) t=(.next (crowd gs' w' kn),t')∧gs'.size=gs.size∧gs'[0]?=some g'∧Leavers P t' gs' q'∧Past Shun w'.heap.size t'∧Clean A t'∧Post g' w':=by
 obtain⟨pk,F⟩:=yc P
 suffices key:∀(E:Nat)(w1:World),(∃d,w1=w.at d)∨w1=w→∀(gs:Array Goroutine)(sl:Option (Nat×Nat)) (t:Trace) (q:Nat→Nat),sumTo gs.size q=E→gs[0]?=some g→Leavers P t gs q→Past Shun w.heap.size t→Clean A t →
   ∃N gs' g' w' kn t' q',runNT P N (crowd gs w1 sl) t=(.next (crowd gs' w' kn),t')∧gs'.size=gs.size∧gs'[0]?=some g'∧Leavers P t' gs' q'∧Past Shun w'.heap.size t'∧Clean A t'∧Post g' w' from
  fun gs sl t q G H I hC=>key _ w (.inr rfl) gs sl t q rfl G H I hC
 intro E
 induction E using Nat.strongRecOn with
 |_ E U =>
  intro w1 D gs sl t q K G H I hC;have u:∀d,w1.at d=w.at d:=by
   intro d;rcases D with⟨d',rfl⟩|rfl<;>rfl
  have hsz:w1.heap.size=w.heap.size:=by rcases D with⟨d',rfl⟩|rfl<;>rfl
  have hb:Beside P (crowd gs w1 sl) t Shun 0 gs w1 sl t q g:=⟨rfl,G,H,by rw[hsz];exact I⟩;obtain⟨d,kn,y⟩:=Kw (pk:=pk) R F hb hC S;rcases y with⟨k,t2,O,f,C,m,L,_⟩|⟨_,hgo⟩
  ·obtain⟨N,gs',g',w',M,t',q',r1,r2,Y⟩:=U (sumTo k.size O) (by rw[m,←K];exact L) (w1.at d) (.inl ⟨d,u d⟩) k kn t2 O rfl f.main f.leave (by have:=f.past;rw[u d]at this;exact this) C;refine⟨1+N,gs',g',w',M,t',q',?_,r2.trans m,Y⟩;rw[eQ,show runNT P 1 (crowd gs w1 sl) t=_ from f.run];exact r1
  ·obtain⟨g',w',es,Z,e2,e3,e4⟩:=h d;obtain⟨k,t2,f,C,m⟩:=hgo g' w' es (by rw[u d];exact Z) e2 (by rw[hsz];exact e3);exact⟨1,k,g',w',kn,t2,q,f.run,m,f.main,f.leave,f.past,C,e4⟩
def kv (P:Program) (A:MemAct→Prop) (Shun:Loc→Prop) (Q:Goroutine→World→Prop) (g:Goroutine) (w:World):Prop :=
 ∀gs sl t q,gs[0]?=some g→Leavers P t gs q→Past Shun w.heap.size t→Clean A t →
  ∃N gs' g' w' kn t' q',runNT P N (crowd gs w sl) t=(.next (crowd gs' w' kn),t')∧gs'.size=gs.size∧gs'[0]?=some g'∧Leavers P t' gs' q'∧Past Shun w'.heap.size t'∧Clean A t'∧Q g' w'
variable {A:MemAct→Prop} {Shun:Loc→Prop} {Q:Goroutine→World→Prop} {g:Goroutine} {w:World}
theorem kv.done(h:Q g w):kv P A Shun Q g w:=fun gs sl t q e f k hC=>⟨0,gs,g,w,sl,t,q,rfl,rfl,e,f,k,hC,h⟩
theorem kv.step(m:∀e:Event,e.mute=true→A (.ofEvent e))(u:g.status=.running)(h:∀d,∃g' w' es,stepG P true g (w.at d)=.go g' w' es∧(∀e∈es,EvL Shun w'.heap.size e∧A (.ofEvent e))∧w.heap.size≤w'.heap.size∧kv P A Shun Q g' w'):kv P A Shun Q g w:=by
 intro gs sl t q y C D hC;obtain⟨N,gs',g',w',kn,t',q',r1,r2,E,F,G,H,I⟩:=Kx m u h gs sl t q y C D hC;obtain⟨K,f,L,w2,k,t2,M,k1,k2,O,R,S,U,Y⟩:=I gs' kn t' q' E F G H;exact⟨N+K,f,L,w2,k,t2,M,by rw[eQ,r1];exact k1,k2.trans r2,O,R,S,U,Y⟩
end
end
section
open Go.Conc Go.ConcN Go.Proofs.YtjnkcibpkkjniaaGreat.kx
open Go.ConcR (KK wgBlock WgAt stA smA rd wr DC0)
def mJ (N:nj) (x:MemAct):Prop:=(∀a,x.touch? = some a→¬oq N a.loc)∧x≠.mark (.release (stA N.Wg))
theorem mJ.mute(N:nj)(e:Event)(he:e.mute=true):mJ N (.ofEvent e):=by
 obtain⟨l,wr,h⟩:=e
 cases l with
 |mark m=>cases m<;>first|(cases he;done)|exact⟨fun a f=>by simp[MemAct.ofEvent,MemAct.touch?]at f,by simp[MemAct.ofEvent]⟩
 |_=>cases he
theorem mJ.of_low{N:nj}{B:Nat}{x:MemAct}(h:x.low B)(u:B≤N.Wg)(y:B≤N.CB)(C:B≤N.CF):mJ N x:=by
 refine⟨fun a k q=>?_,fun e=>?_⟩
 ·have f:a.loc.low B:=by
   cases x with
   |access e=>simp only[MemAct.touch?,dW]at k;subst k;exact h
   |mark m=>cases m<;>simp[MemAct.touch?]at k<;>(subst k;exact h)
   |_=>simp[MemAct.touch?]at k
  rcases q with⟨ad,e,hb⟩|e|e
  ·rw[e]at f;have:ad.block<B:=f;omega
  ·rw[e]at f;have:N.CB<B:=f;omega
  ·rw[e]at f;have:N.CF<B:=f;omega
 ·subst e;have:N.Wg<B:=h;omega
theorem mJ.cell{N:nj}{a:Addr}{wr f:Bool}(h:a.block≠N.Wg):mJ N (.ofEvent ⟨.cell a,wr,f⟩):=by
 have e:MemAct.ofEvent ⟨.cell a,wr,f⟩=.access ⟨.cell a,wr,f⟩:=by simp[MemAct.ofEvent]
 rw[e];refine⟨fun x hx k=>?_,fun e=>by cases e⟩;simp only[MemAct.touch?,dW]at hx;subst hx;rcases k with⟨ad,e,hb⟩|e|e
 ·cases e;exact h hb
 ·cases e
 ·cases e
variable [Scope]
def St.start (X:Ctx) (q:Nat→Nat) (V W:Nat→Prop):St:=⟨0,0,fun i=>⟨10,0,0,(X.J i).ρ,undef⟩,.sp,0,0,0,q,V,W,[],[]⟩
theorem kO.start{X:Ctx}{gs:Array Goroutine}{w:World}{t:Trace}{q:Nat→Nat}{V W:Nat→Prop}{n:Nat}(hX:X.Good)(hB:X.N.B=gs.size)(H:Leavers X.P t gs q)(C:Past X.Shun w.heap.size t)(hC:Clean (mJ X.N) t)(E:WgAt X.N.ty X.N.Wg w 0 0)(f:w.heap[X.N.CB]?=some (.chan X.N.n #[] false 0 0 false))(u:w.heap[X.N.CF]?=some (.chan 0 #[] false 0 0 false))(m:∀i,i<X.N.n→HR (X.J i).ρ (X.J i).wS w)(K:rA X (St.start X q V W) w)(hb:Scope.base≤w.heap.size)(F:w.os=X.m0.world.os):kO X (St.start X q V W) n gs w t where
 size:=⟨fun _=>hB.symm,fun e=>absurd rfl e⟩
 jn:=eP _
 lv:=fun i g L _ M=>H.old i g L M
 wk:=fun i y=>absurd y (ik i)
 un:=fun i _ h=>⟨rfl,m i h⟩
 cl:=fun e=>absurd rfl e
 hear:=C.hears
 fresh:=fun j O=>H.above j O
 wg:=⟨0,0,E,by
  have:=Mode.opn (j:=0) (p:=0) (D:=(St.start X q V W).D) (tag:=.sp) trivial (fun i y=>absurd y (ik i)) (fun vs e=>by cases e);have e:(((Vc 0 (St.start X q V W).D+0:Nat):Int)*KK)=0:=by simp[Vc,sumTo]
  rw[e]at this;exact this⟩
 back:=f
 nodup:=List.nodup_nil
 list:=fun i=>Iff.intro (fun h=>absurd h (by simp[St.start])) (fun h=>absurd h.1 (ik i))
 fin:=u
 tr:=by
  have R:KP X (St.start X q V W)=fun _=>False:=by
   funext k;refine propext ⟨fun S=>?_,fun h=>h.elim⟩;rcases S with⟨I,U⟩|⟨I,_⟩
   ·have Y:k<X.N.B+0:=U;omega
   ·exact I rfl
  rw[R];refine PT.start C fun i a Z hs=>?_
  obtain⟨op,G,hx⟩:=fI Z;exact(hC op (mem_of_getElem? G)).1 a hx hs
 low:=C.seen
 norel:=fun i e=>by
  unfold Trace.act? at e;obtain⟨op,F,ea⟩:=eo.1 e;exact(hC op (mem_of_getElem? F)).2 ea
 rel:=fun i y=>absurd y (ik i)
 acq:=fun e=>by cases e
 cls:=fun e=>by cases e
 ko:=K
 os:=F
 base:=hb
end
section
open Go.Conc Go.ConcN Go.Proofs.YtjnkcibpkkjniaaGreat.kx
open Go.ConcR (KK wgBlock WgAt stA smA rd wr DC0)
section
variable {P:Program} {main:Bool} {b:Frame} {a:Act} {kk:List Item} {cs:List Frame} {w:World} {ops:Array Oper} {i:Nat} {rest:List Nat} {o:Oper}
def ptr (x:Nat):Value:=.pointer (some ⟨x,0,none⟩)
variable {elem:TypeId} {x:Operand}
theorem Am(f:ops[i]?=some o)(hw:Region.wanted o (yielded ops a.tmps)=true)(h:b.kind≠.early)(e:o.op=.box elem x):stepG P main (G (b.at a (.inRegion ops (i::rest)::kk)) cs) w=.go (G (b.at (a.put o.dst (ptr w.heap.size)) (.inRegion ops rest::kk)) cs) (w.alloc (.cells (a.eval x).cells elem)) #[]:=by
 have hr:(execOp a.eval o).run P w=.ok (.value (ptr w.heap.size)) (w.alloc (.cells (a.eval x).cells elem)):=by
  unfold execOp;simp only[e];simp[go_sem,Instr.box,ptr]
 have he:(execOp a.eval o).events P w #[]=#[]:=by
  unfold execOp;simp only[e];simp[go_sem,Instr.box]
 rw[gy f hw h hr,iq he]
theorem yt{z:Value}(k:ops[i]?=some o)(hw:Region.wanted o (yielded ops a.tmps)=true)(m:b.kind≠.early)(e:o.op=.alloc elem)(h:∀w,(zeroValue elem).run P w=.ok z w)(f:∀w es,(zeroValue elem).events P w es=es):stepG P main (G (b.at a (.inRegion ops (i::rest)::kk)) cs) w=.go (G (b.at (a.put o.dst (ptr w.heap.size)) (.inRegion ops rest::kk)) cs) (w.alloc (.cells z.cells elem)) #[]:=by
 have hr:(execOp a.eval o).run P w=.ok (.value (ptr w.heap.size)) (w.alloc (.cells z.cells elem)):=by
  unfold execOp;simp only[e];simp[go_sem,Instr.alloc,ptr,h]
 have he:(execOp a.eval o).events P w #[]=#[]:=by
  unfold execOp;simp only[e];simp[go_sem,Instr.alloc,h,f]
 rw[gy k hw m hr,iq he]
variable {t:TypeId}
theorem Ky{dir:ChanDir}{f:TypeInfo}{n:Nat}(q:ops[i]?=some o)(hw:Region.wanted o (yielded ops a.tmps)=true)(u:b.kind≠.early)(h:o.op=.makeChan t x)(hx:a.eval x=.int .i64 n)(m:P.underlying t=some (.chan dir elem))(k:P.info? elem=some f)(E:f.bytes*n≤2 ^ 48-112)(y:n<9223372036854775808):stepG P main (G (b.at a (.inRegion ops (i::rest)::kk)) cs) w=.go (G (b.at (a.put o.dst (.chan (some w.heap.size))) (.inRegion ops rest::kk)) cs) (w.alloc (.chan n #[] false 0 0 false)) #[]:=by
 simp only[Act.eval,dA]at hx;have F:¬((n:Int)<0∨(n:Int) > IntKind.i64.max∨(f.bytes:Int)*(n:Int) > 2 ^ 48-112):=by
  have e:((f.bytes:Int)*(n:Int))=((f.bytes*n:Nat):Int):=by simp
  rw[e];have:IntKind.i64.max=9223372036854775807:=by decide
  rw[this];omega
 have C:(n:Int)≤9223372036854775807:=by omega
 have D:(f.bytes:Int)*(n:Int)≤281474976710544:=by
  have e:((f.bytes:Int)*(n:Int))=((f.bytes*n:Nat):Int):=by simp
  rw[e];omega
 have hr:(execOp a.eval o).run P w=.ok (.value (.chan (some w.heap.size))) (w.alloc (.chan n #[] false 0 0 false)):=by
  unfold execOp;simp only[h];simp[go_sem,Instr.makeChan,hx,iu m,typeInfo,k,C,D]
 have he:(execOp a.eval o).events P w #[]=#[]:=by
  unfold execOp;simp only[h];simp[go_sem,Instr.makeChan,hx,iu m,typeInfo,k]
 rw[gy q hw u hr,iq he]
theorem Dp{y:Operand}{ad:Addr}{v u:Value}(D:ops[i]?=some o)(hw:Region.wanted o (yielded ops a.tmps)=true)(E:b.kind≠.early)(e:o.op=.store t x y)(hx:a.eval x=.pointer (some ad))(f:a.eval y=v)(h:(∃c,v=.chan (some c))∨∃k n,v=.int k n)(F:∀w,(isAgg t).run P w=.ok false w)(hsz:∀w,(sizeOf t).run P w=.ok 1 w)(q:w.cell? ad=some u)(C:w.frozen? ad=false)(H:(P.funcs[b.fn]?).any (·.norace)=false):stepG P main (G (b.at a (.inRegion ops (i::rest)::kk)) cs) w=.go (G (b.at (a.put o.dst undef) (.inRegion ops rest::kk)) cs) (w.setCell ad v) #[⟨.cell ad,true,false⟩]:=by
 simp only[Act.eval,dA]at hx f;have hr:(execOp a.eval o).run P w=.ok .skip (w.setCell ad v):=by
  unfold execOp;simp only[e];rcases h with⟨c,rfl⟩|⟨c,m,rfl⟩<;>simp[go_sem,stored,hx,f,q,C,hsz]
 have he:(execOp a.eval o).events P w #[]=#[⟨.cell ad,true,false⟩]:=by
  unfold execOp;simp only[e];rcases h with⟨c,rfl⟩|⟨c,m,rfl⟩<;>simp[go_sem,storedEv,hx,f,q,C,hsz]
 rw[stepG_none D hw E hr];unfold Go.Conc.listed;rw[he,seen_eq H (by simp)]
end
structure Ext (w0:World) (l:Array Obj) (w:World):Prop where
 heap:w.heap=w0.heap++l
 os:w.os=w0.os
section
variable {w0 w:World} {l:Array Obj}
theorem Ext.at(h:Ext w0 l w)(d:Nat):Ext w0 l (w.at d):=⟨h.heap,h.os⟩
theorem Ext.size(h:Ext w0 l w):w.heap.size=w0.heap.size+l.size:=by rw[h.heap];simp
theorem Ext.alloc(h:Ext w0 l w)(o:Obj):Ext w0 (l.push o) (w.alloc o):=⟨by show w.heap.push o=_;rw[h.heap];simp,h.os⟩
variable {b:Nat}
theorem Ext.old(h:Ext w0 l w)(hb:b<w0.heap.size):w.heap[b]?=w0.heap[b]?:=by rw[h.heap,gI hb]
theorem Ext.get(h:Ext w0 l w)(i:Nat):w.heap[w0.heap.size+i]?=l[i]?:=by rw[h.heap,gW (by omega)];congr 1;omega
theorem Ext.An(h:Ext w0 l w)(hb:b<w0.heap.size)(o:Nat):w.cell? ⟨b,o,none⟩=w0.cell? ⟨b,o,none⟩:=Go.ConcN.cell_of_block (h.old hb) o
variable {i:Nat} {c:Array Value} {ty:TypeId} {fr:Nat×Nat}
theorem Ext.Dq(h:Ext w0 l w)(e:l[i]?=some (.cells c ty fr))(o:Nat):w.cell? ⟨w0.heap.size+i,o,none⟩=c[o]?:=by
 have:=(h.get i).trans e;simp[World.cell?,this]
theorem Ext.Kz(h:Ext w0 l w)(e:l[i]?=some (.cells c ty (0,0)))(o:Nat):w.frozen? ⟨w0.heap.size+i,o,none⟩=false:=by
 have:=(h.get i).trans e;simp[World.frozen?,this]
theorem Ext.cellAt(h:Ext w0 l w){B:Nat}(hB:B=w0.heap.size+i)(e:l[i]?=some (.cells c ty fr)){o:Nat}{v:Value}(f:c[o]?=some v):w.cell? ⟨B,o,none⟩=some v:=by
 subst hB;exact(h.Dq e o).trans f
theorem Ext.setCell(h:Ext w0 l w){i:Nat}{c:Array Value}{ty:TypeId}{fr:Nat×Nat}(q:l[i]?=some (.cells c ty fr))(o:Nat)(v:Value):Ext w0 (l.setIfInBounds i (.cells (c.setIfInBounds o v) ty fr)) (w.setCell ⟨w0.heap.size+i,o,none⟩ v):=by
 have hb:=(h.get i).trans q;refine⟨?_,h.os⟩;apply dP;intro k;have m:i<l.size:=(dv.1 q).1
 by_cases e:k=w0.heap.size+i
 ·subst e;rw[gW (by omega),show w0.heap.size+i-w0.heap.size=i by omega,fj m];simp only[World.setCell,dH,dn,hb,dM];simp
 ·simp only[World.setCell,dH];rw[dt (dJ e),h.heap];rcases fG k w0.heap.size with f|f
  ·rw[gI f,gI f]
  ·rw[gW f,gW f,dO (by omega)]
end
section
variable {P:Program} {N:nj} {Shun:Loc→Prop} {Q:Goroutine→World→Prop} {g g':Goroutine} {w0 w:World} {l:Array Obj}
theorem kv.ext(k:g.status=.running)(m:Ext w0 l w)(h:∀w',Ext w0 l w'→(stepG P true g w').goes fun g' f es=>(∀e∈es,EvL Shun f.heap.size e∧mJ N (.ofEvent e))∧w'.heap.size≤f.heap.size∧kv P (mJ N) Shun Q g' f):kv P (mJ N) Shun Q g w :=
 kv.step (mJ.mute N) k fun d=>by
  obtain⟨a',w',es,q,u,y,C⟩:=goes_elim (h (w.at d) (m.at d));exact⟨a',w',es,q,u,y,C⟩
theorem kv.ctl(e:g.status=.running)(f:Ext w0 l w)(h:∀w,stepG P true g w=.go g' w #[])(k:∀w',Ext w0 l w'→kv P (mJ N) Shun Q g' w'):kv P (mJ N) Shun Q g w :=
 kv.ext e f fun w' h'=>by
  rw[h w',fA];exact⟨by simp,dD _,k w' h'⟩
section
variable {b:Frame} {a:Act} {kk:List Item} {cs:List Frame} {ops:Array Oper} {i:Nat} {rest:List Nat} {o:Oper}
variable {elem:TypeId} {x:Operand} {B:Nat} {v:Value} {c:Array Value}
theorem kv.box(f:Ext w0 l w)(hB:B=w0.heap.size+l.size)(hx:a.eval x=v)(h:v.cells=c)(m:ops[i]?=some o)(hw:Region.wanted o (yielded ops a.tmps)=true)(q:b.kind≠.early)(e:o.op=.box elem x)(k:∀w',Ext w0 (l.push (.cells c elem)) w'→kv P (mJ N) Shun Q (G (b.at (a.put o.dst (ptr B)) (.inRegion ops rest::kk)) cs) w'):kv P (mJ N) Shun Q (G (b.at a (.inRegion ops (i::rest)::kk)) cs) w :=
 kv.ext rfl f fun w' h'=>by
  rw[Am m hw q e,fA,hx,h,show ptr w'.heap.size=ptr B by rw[hB,h'.size]];exact⟨by simp,by show w'.heap.size≤(w'.heap.push _).size;simp,k _ (h'.alloc _)⟩
theorem kv.alloc{elem:TypeId}{z:Value}{B:Nat}{c:Array Value}(h:Ext w0 l w)(hB:B=w0.heap.size+l.size)(m:z.cells=c)(q:ops[i]?=some o)(hw:Region.wanted o (yielded ops a.tmps)=true)(u:b.kind≠.early)(e:o.op=.alloc elem)(y:∀w,(zeroValue elem).run P w=.ok z w)(f:∀w es,(zeroValue elem).events P w es=es)(k:∀w',Ext w0 (l.push (.cells c elem)) w'→kv P (mJ N) Shun Q (G (b.at (a.put o.dst (ptr B)) (.inRegion ops rest::kk)) cs) w'):kv P (mJ N) Shun Q (G (b.at a (.inRegion ops (i::rest)::kk)) cs) w :=
 kv.ext rfl h fun w' h'=>by
  rw[yt q hw u e y f,fA,m,show ptr w'.heap.size=ptr B by rw[hB,h'.size]];exact⟨by simp,by show w'.heap.size≤(w'.heap.push _).size;simp,k _ (h'.alloc _)⟩
variable {t:TypeId}
theorem kv.makeChan{dir:ChanDir}{m:TypeInfo}{n:Nat}(q:Ext w0 l w)(hB:B=w0.heap.size+l.size)(u:ops[i]?=some o)(hw:Region.wanted o (yielded ops a.tmps)=true)(y:b.kind≠.early)(e:o.op=.makeChan t x)(hx:a.eval x=.int .i64 n)(C:P.underlying t=some (.chan dir elem))(f:P.info? elem=some m)(D:m.bytes*n≤2 ^ 48-112)(h:n<9223372036854775808)(k:∀w',Ext w0 (l.push (.chan n #[] false 0 0 false)) w'→kv P (mJ N) Shun Q (G (b.at (a.put o.dst (.chan (some B))) (.inRegion ops rest::kk)) cs) w'):kv P (mJ N) Shun Q (G (b.at a (.inRegion ops (i::rest)::kk)) cs) w :=
 kv.ext rfl q fun w' h'=>by
  rw[Ky u hw y e hx C f D h,fA,show(some w'.heap.size)=some B by rw[hB,h'.size]];exact⟨by simp,by show w'.heap.size≤(w'.heap.push _).size;simp,k _ (h'.alloc _)⟩
theorem Ao{ad:Addr}{wr:Bool}(f:¬Shun (.cell ad))(h:ad.block<B)(k:ad.block≠N.Wg):EvL Shun B ⟨.cell ad,wr,false⟩∧mJ N (.ofEvent ⟨.cell ad,wr,false⟩):=by
 refine⟨⟨fun x hx e=>?_,by simp,by simp,?_⟩,mJ.cell k⟩
 ·have:x.loc=.cell ad:=by cases wr<;>simp[MemAct.ofEvent,MemAct.touch?]at hx<;>(subst hx;rfl)
  rw[this]at e;exact absurd e f
 ·show ad.block<_;exact h
theorem kv.Dr{y:Operand}{u:Value}{j off:Nat}{ty:TypeId}(C:Ext w0 l w)(hB:B=w0.heap.size+j)(D:ops[i]?=some o)(hw:Region.wanted o (yielded ops a.tmps)=true)(E:b.kind≠.early)(m:o.op=.store t x y)(hx:a.eval x=.pointer (some ⟨B,off,none⟩))(F:a.eval y=v)(H:(∃c,v=.chan (some c))∨∃k n,v=.int k n)(q:∀w,(isAgg t).run P w=.ok false w)(hsz:∀w,(sizeOf t).run P w=.ok 1 w)(h:l[j]?=some (.cells c ty (0,0)))(hu:c[off]?=some u)(I:(P.funcs[b.fn]?).any (·.norace)=false)(hS:∀b,w0.heap.size≤b→∀l,lq b l→¬Shun l)(hW:w0.heap.size+j≠N.Wg)(k:∀w',Ext w0 (l.setIfInBounds j (.cells (c.setIfInBounds off v) ty (0,0))) w'→kv P (mJ N) Shun Q (G (b.at (a.put o.dst undef) (.inRegion ops rest::kk)) cs) w'):kv P (mJ N) Shun Q (G (b.at a (.inRegion ops (i::rest)::kk)) cs) w :=
 kv.ext rfl C fun w' h'=>by
  subst hB;rw[Dp D hw E m hx F H q hsz ((h'.Dq h off).trans hu) (h'.Kz h off) I,fA];have f:(w'.setCell ⟨w0.heap.size+j,off,none⟩ v).heap.size=w'.heap.size:=by simp[World.setCell]
  refine⟨fun e he=>?_,by rw[f];exact dD _,k _ (h'.setCell h off v)⟩;rw[gX]at he;subst he;have K:j<l.size:=(dv.1 h).1;exact Ao (hS _ (by omega) _ (show lq (w0.heap.size+j) (.cell ⟨w0.heap.size+j,off,none⟩) from rfl)) (by rw[f,h'.size];show w0.heap.size+j<_;omega) hW
end
end
end
section
open Go.Conc Go.ConcN Go.Conc.Lib Go.Proofs.YtjnkcibpkkjniaaGreat.kx
open Go.ConcR (KK wgBlock WgAt stA smA rd wr DC0)
structure WI where
 sp:Nat
 so:Nat
 id:Int
 xb:Nat
 xo:Nat
 xl:Nat
 xc:Nat
 nb:Nat
 no:Nat
 nl:Nat
 nc:Nat
def WI.s (p:WI):Value:=.pointer (some ⟨p.sp,p.so,none⟩)
def WI.xa (p:WI):Option Addr:=if p.xl=0 then none else some ⟨p.xb,p.xo,none⟩
variable {p:WI}
theorem WI.Ds(h:0<p.xl):p.xa=some ⟨p.xb,p.xo,none⟩:=by unfold WI.xa;rw[dt (by omega)]
theorem WI.KA(h:p.xl=0):p.xa=none:=by unfold WI.xa;rw[dr h]
def WI.nQ (p:WI):Value:=.slice (some ⟨p.nb,p.no,none⟩) p.nl p.nc
structure yu (p:WI) (w:World):Prop where
 hid:w.cell? ⟨p.sp,p.so,none⟩=some (.int .i64 p.id)
 hx:w.cell? ⟨p.sp,p.so+1,none⟩=some (.slice p.xa p.xl p.xc)
 ls:p.sp<w.heap.size
 qF:p.xl<2147483647
noncomputable def po:Code:=match Tryz.f35.body with
 |some (.seq _ (.seq _ (.seq _ (.seq _ c))))=>c
 |_=>.skip
def oe (a b:Nat):Prop:=a=b
theorem oe.eq{a b:Nat}(h:oe a b):a=b:=h
structure WB where
 bS:Nat
 bN:Nat
 CB:Nat
 bC:Nat
 CF:Nat
 bG:Nat
 Wg:Nat
def WB.from (n:Nat):WB:=⟨n,n+1,n+2,n+3,n+4,n+5,n+6⟩
variable {P:Program} {t:TypeId}
theorem td(h:((P.info? t).bind (·.zero)).isSome=true)(w:World)(es:Array Event):(zeroValue t).events P w es=es:=by
 cases e:P.info? t with
 |none=>rw[e]at h;cases h
 |some k =>
  cases f:k.zero with
  |none=>rw[e]at h;simp[f]at h
  |some z=>simp[zeroValue,typeInfo,e,f]
theorem Ap{n:Nat}(h:((P.info? t).map (·.bytes))=some n):∃e,P.info? t=some e∧e.bytes=n:=by
 obtain⟨e,f,k⟩:=eo.1 h;exact⟨e,f,k⟩
section
variable {w0 w:World} {l:Array Obj} {N:nj} {Shun:Loc→Prop}
variable {Wg o:Nat} {wr:Bool}
theorem KB{B i:Nat}(e:Ext w0 l w)(hB:oe B (w0.heap.size+i))(k:i<l.size)(hS:∀b,w0.heap.size≤b→∀l,lq b l→¬Shun l)(hW:N.Wg=Wg)(f:oe Wg (w0.heap.size+6))(h:i≠6):EvL Shun w.heap.size ⟨.cell ⟨B,o,none⟩,wr,false⟩∧mJ N (.ofEvent ⟨.cell ⟨B,o,none⟩,wr,false⟩):=by
 have m:B=w0.heap.size+i:=hB;have q:Wg=w0.heap.size+6:=f;exact Ao (hS B (by omega) _ rfl) (by rw[e.size];show B<_;omega) (by show B≠_;omega)
theorem KC{b:Nat}(e:Ext w0 l w)(hb:b<w0.heap.size)(hS:∀l,lq b l→¬Shun l)(hW:N.Wg=Wg)(f:oe Wg (w0.heap.size+6)):EvL Shun w.heap.size ⟨.cell ⟨b,o,none⟩,wr,false⟩∧mJ N (.ofEvent ⟨.cell ⟨b,o,none⟩,wr,false⟩):=by
 have h:Wg=w0.heap.size+6:=f;exact Ao (hS _ rfl) (by rw[e.size];show b<_;omega) (by show b≠_;omega)
end
theorem KD{N:nj}{Shun:Loc→Prop}{Q:Goroutine→World→Prop}{w0:World}{cs:List Frame}(hF:yu p w0){bS bN CB bC CF bG Wg:Nat}(F:oe bS (w0.heap.size+0))(S:oe bN (w0.heap.size+1))(U:oe CB (w0.heap.size+2))(M:oe bC (w0.heap.size+3))(Y:oe CF (w0.heap.size+4))(O:oe bG (w0.heap.size+5))(D:oe Wg (w0.heap.size+6))(hW:N.Wg=Wg)(hS:∀b,w0.heap.size≤b→∀l,lq b l→¬Shun l)(H:∀l,lq p.sp l→¬Shun l)(q:∀w',Ext w0 #[.cells #[p.s] 33,.cells #[p.nQ] 47,.chan p.xl #[] false 0 0 false,.cells #[.chan (some CB)] 141,.chan 0 #[] false 0 0 false,.cells #[.chan (some CF)] 142,wgBlock Tryz.link.tWg 0 0] w' →
   kv Tryz.prog (mJ N) Shun Q (G ((base 35).at ⟨#[p.s,p.nQ,ptr bS,ptr bN,.slice none 0 0,ptr bC,ptr bG,ptr Wg,undef,p.s,p.s,.pointer (some ⟨p.sp,p.so+1,none⟩),.slice p.xa p.xl p.xc,.int .i64 p.xl,.chan (some CB),.chan (some CF),undef,undef,undef,undef,undef,undef,undef,undef,undef,undef,undef,undef,undef,undef,undef,undef,undef,undef,undef,undef],[]⟩ [.code po]) cs) w'):kv Tryz.prog (mJ N) Shun Q (G ((base 35).at ⟨#[p.s,p.nQ]++Array.replicate 34 undef,[]⟩ [.code (Tryz.f35.body.getD .skip)]) cs) w0:=by
 have k:Ext w0 #[] w0:=⟨by simp,rfl⟩;have R:=hF.qF;simp only[Tryz.f35,eE];walk_nrm
 (refine kv.ctl rfl k (fun _=>stepG_seq) (fun _ f=>?_);clear k;have k:=f;clear f)
 (refine kv.ctl rfl k (fun _=>fy) (fun _ f=>?_);clear k;have k:=f;clear f;simp only[gF,gG,gH,Nat.reduceAdd,dG,List.range,List.range.loop]);refine kv.box (c:=#[p.s]) k F.eq rfl rfl rfl rfl (by decide) rfl (fun _ h=>?_)
 (clear k;have k:=h;clear h)
 (simp only[iw,ix,iy,iz,iA,iB]at k;walk_nrm);refine kv.box (c:=#[p.nQ]) k S.eq rfl rfl rfl rfl (by decide) rfl (fun _ h=>?_)
 (clear k;have k:=h;clear h)
 (simp only[iw,ix,iy,iz,iA,iB]at k;walk_nrm)
 (refine kv.ext rfl k (fun w' f=>?_);clear k;have k:=f;clear f;refine gC rfl rfl (by decide) (fun K m=>?_);go_simp;refine m _ _ ⟨fun e he=>?_,dD _,?_⟩;(focus(have hm:=gz he;simp[go_sem]at hm));clear m K)
 (refine kv.ctl rfl k (fun _=>stepG_region_end) (fun _ f=>?_);clear k;have k:=f;clear f)
 (refine kv.ctl rfl k (fun _=>stepG_seq) (fun _ f=>?_);clear k;have k:=f;clear f)
 (refine kv.ctl rfl k (fun _=>fy) (fun _ f=>?_);clear k;have k:=f;clear f;simp only[gF,gG,gH,Nat.reduceAdd,dG,List.range,List.range.loop])
 (refine kv.ext rfl k (fun w' f=>?_);clear k;have k:=f;clear f;refine gC rfl rfl (by decide) (fun K m=>?_);have I:=(Ext.cellAt (i:=0) (o:=0) (v:=.pointer (some ⟨p.sp,p.so,none⟩)) k F.eq rfl rfl);(try simp only[ptr]);go_simp;refine m _ _ ⟨fun e he=>?_,dD _,?_⟩;(focus(clear m q;have hm:=gz he;simp[go_sem,ptr, *]at hm;subst hm;exact(KB k F (by simp) hS hW D (by decide))));clear m K I)
 (refine kv.ext rfl k (fun w' f=>?_);clear k;have k:=f;clear f;refine gC rfl rfl (by decide) (fun K m=>?_);go_simp;refine m _ _ ⟨fun e he=>?_,dD _,?_⟩;(focus(have hm:=gz he;simp[go_sem]at hm));clear m K)
 (refine kv.ext rfl k (fun w' f=>?_);clear k;have k:=f;clear f;refine gC rfl rfl (by decide) (fun K m=>?_);go_simp;refine m _ _ ⟨fun e he=>?_,dD _,?_⟩;(focus(have hm:=gz he;simp[go_sem]at hm));clear m K)
 (refine kv.ext rfl k (fun w' f=>?_);clear k;have k:=f;clear f;refine gC rfl rfl (by decide) (fun K m=>?_);have I:=((Ext.An k hF.ls (p.so+1)).trans hF.hx);(try simp only[ptr]);go_simp;refine m _ _ ⟨fun e he=>?_,dD _,?_⟩;(focus(clear m q;have hm:=gz he;simp[go_sem,ptr, *]at hm;subst hm;exact(KC k hF.ls H hW D)));clear m K I)
 (refine kv.ext rfl k (fun w' f=>?_);clear k;have k:=f;clear f;refine gC rfl rfl (by decide) (fun K m=>?_);go_simp;refine m _ _ ⟨fun e he=>?_,dD _,?_⟩;(focus(have hm:=gz he;simp[go_sem]at hm));clear m K);obtain⟨ti,L,C⟩:=Ap (P:=Tryz.prog) (t:=155) (n:=40) (by kernel_rfl);refine kv.makeChan (n:=p.xl) k U.eq rfl rfl (by decide) rfl rfl Tryz.underlying141 L (by rw[C];omega) (by omega) (fun _ h=>?_)
 (clear k;have k:=h;clear h)
 (simp only[iw,ix,iy,iz,iA,iB]at k;walk_nrm);refine kv.alloc (c:=#[.chan none]) k M.eq rfl rfl rfl (by decide) rfl Tryz.zeroValue141 (td (by kernel_rfl)) (fun _ h=>?_)
 (clear k;have k:=h;clear h)
 (simp only[iw,ix,iy,iz,iA,iB]at k;walk_nrm);refine kv.Dr (j:=3) (v:=.chan (some CB)) (u:=.chan none) k M.eq rfl rfl (by decide) rfl rfl rfl (.inl ⟨_,rfl⟩) Tryz.isAgg141 Tryz.sizeOf141 rfl rfl (by kernel_rfl) hS (by have Z:Wg=w0.heap.size+6:=D;omega) (fun _ h=>?_)
 (clear k;have k:=h;clear h)
 (simp only[iw,ix,iy,iz,iA,iB]at k;walk_nrm)
 (refine kv.ctl rfl k (fun _=>stepG_region_end) (fun _ f=>?_);clear k;have k:=f;clear f)
 (refine kv.ctl rfl k (fun _=>stepG_seq) (fun _ f=>?_);clear k;have k:=f;clear f)
 (refine kv.ctl rfl k (fun _=>fy) (fun _ f=>?_);clear k;have k:=f;clear f;simp only[gF,gG,gH,Nat.reduceAdd,dG,List.range,List.range.loop]);obtain⟨aa,E,y⟩:=Ap (P:=Tryz.prog) (t:=143) (n:=0) (by kernel_rfl);refine kv.makeChan (n:=0) k Y.eq rfl rfl (by decide) rfl rfl Tryz.underlying142 E (by rw[y];omega) (by omega) (fun _ h=>?_)
 (clear k;have k:=h;clear h)
 (simp only[iw,ix,iy,iz,iA,iB]at k;walk_nrm);refine kv.alloc (c:=#[.chan none]) k O.eq rfl rfl rfl (by decide) rfl Tryz.zeroValue142 (td (by kernel_rfl)) (fun _ h=>?_)
 (clear k;have k:=h;clear h)
 (simp only[iw,ix,iy,iz,iA,iB]at k;walk_nrm);refine kv.Dr (j:=5) (v:=.chan (some CF)) (u:=.chan none) k O.eq rfl rfl (by decide) rfl rfl rfl (.inl ⟨_,rfl⟩) Tryz.isAgg142 Tryz.sizeOf142 rfl rfl (by kernel_rfl) hS (by have Z:Wg=w0.heap.size+6:=D;omega) (fun _ h=>?_)
 (clear k;have k:=h;clear h)
 (simp only[iw,ix,iy,iz,iA,iB]at k;walk_nrm)
 (refine kv.ctl rfl k (fun _=>stepG_region_end) (fun _ f=>?_);clear k;have k:=f;clear f)
 (refine kv.ctl rfl k (fun _=>stepG_seq) (fun _ f=>?_);clear k;have k:=f;clear f)
 (refine kv.ctl rfl k (fun _=>fy) (fun _ f=>?_);clear k;have k:=f;clear f;simp only[gF,gG,gH,Nat.reduceAdd,dG,List.range,List.range.loop]);refine kv.alloc k D.eq rfl rfl rfl (by decide) rfl Tryz.zeroValue151 (td (by kernel_rfl)) (fun _ h=>?_)
 (clear k;have k:=h;clear h)
 (simp only[iw,ix,iy,iz,iA,iB]at k;walk_nrm)
 (refine kv.ctl rfl k (fun _=>stepG_region_end) (fun _ f=>?_);clear k;have k:=f;clear f);exact q _ k
end
section
open Go.Conc Go.ConcN Go.Proofs.YtjnkcibpkkjniaaGreat.kx
open Go.ConcR (KK wgBlock WgAt stA smA rd wr DC0)
variable [Scope]
structure Aq (s s':St) (B:Nat) (o:Obj) (w w':World):Prop where
 j:s'.j=s.j
 p:s'.p=s.p
 d0:s'.d0=s.d0
 V:s'.V=fun b=>s.V b∨b=B
 W:s'.W=fun b=>s.W b∨b=B
 sp:s'.tag=.sp↔s.tag=.sp
 got:s'.got=s.got
 val:∀i∈s.got,(s'.D i).v=(s.D i).v
 heap:∀b,s.V b→w'.heap[b]?=w.heap[b]?
 new:w'.heap[B]?=some o
 out:¬s.V B
 base:Scope.base≤B
variable {X:Ctx} {s:St} {w:World} {a:Goroutine}
theorem At.new[kD X.P][lV X.P](y:X.Good)(h:At X s w a)(hr:a.status=.running){o:Obj}{a':Nat→Goroutine}(f:∀w₁,stepG X.P true a w₁=.go (a' w₁.heap.size) (w₁.alloc o) #[]):∃s' w' B,At X s' w' (a' B)∧Aq s s' B o w w':=by
 obtain⟨s',w',u,C,B,rfl,D⟩:=h.go y hr (Post:=fun s' w' u=>∃B,u=a' B∧Aq s s' B o w w') fun s1 w1 e m=>by
  obtain⟨n1,E,t1,m⟩:=m;have I:(w1.alloc o).heap.size=w1.heap.size+1:=by show(w1.heap.push o).size=_;simp
  refine⟨_,_,_,s1.d0,f w1,by omega,rfl,fun b hb _=>?_,by simp,rfl,fun tag' F G=>⟨w1.heap.size,rfl,e.j,e.p,e.d0,?_,?_,G.trans e.sp,e.got,e.val,fun b hb=>?_,?_,fun H=>?_,m.base⟩⟩
  ·show(w1.heap.push o)[b]?=_;rw[ie hb,dw hb]
  ·funext b;refine propext ⟨fun h=>h.imp (fun k=>by rw[←e.V];exact k) fun k=>?_,fun h=>h.imp (fun k=>by rw[e.V];exact k) fun k=>?_⟩
   ·have:=k.2;omega
   ·subst k;exact⟨dD _,by omega⟩
  ·funext b;refine propext ⟨fun h=>h.imp (fun k=>by rw[←e.W];exact k) fun k=>?_,fun h=>h.imp (fun k=>by rw[e.W];exact k) fun k=>?_⟩
   ·have:=k.2;omega
   ·subst k;exact⟨dD _,by omega⟩
  ·have q:b<w1.heap.size:=(m.ko.v b (by rw[e.V];exact hb)).1;rw[←e.heap b hb];show(w1.heap.push o)[b]?=_;rw[ie q,dw q]
  ·show(w1.heap.push o)[w1.heap.size]?=_;simp
  ·have:=(m.ko.v _ (by rw[e.V];exact H)).1;omega
 exact⟨s',w',B,C,D⟩
theorem At.facts(h:At X s w a):WgLive X.N.ty X.N.Wg w∧∀b,s.V b→b<w.heap.size∧b≠X.N.Wg∧b≠X.N.CB∧b≠X.N.CF:=by
 obtain⟨n,gs,sl,t,e⟩:=h;obtain⟨st,sm,hw,_⟩:=e.qG.wg;exact⟨⟨st,sm,hw⟩,fun b hb=>by have:=e.qG.ko.v b hb;exact⟨this.1,this.2.1,this.2.2.1,this.2.2.2.1⟩⟩
end
section
open Go.Conc Go.ConcN Go.Conc.Lib Go.ConcR.Gen Go.ConcN.Gen Go.Proofs.YtjnkcibpkkjniaaGreat.kx
open Go.ConcR (KK wgBlock WgAt stA smA rd wr mk DC0)
variable [Scope]
noncomputable def yv:Array Oper:=match Tryz.f61.body with
 |some (.seq (.region _ ops _) _)=>ops
 |_=>#[]
noncomputable def xi:Array Oper:=match Tryz.f61.body with
 |some (.seq _ (.region _ ops _))=>ops
 |_=>#[]
def rD (b:Nat) (x:Nat):Prop:=x=b
abbrev FC (bG CF:Nat) (w:World):Prop:=w.cell? ⟨bG,0,none⟩=some (.chan (some CF))
noncomputable def Ar (Wg bG:Nat):Act:=⟨#[box Wg,box bG,undef,undef],[]⟩
noncomputable def KE (Wg bG:Nat):Frame:=(baseD 61).at (Ar Wg bG) [.inRegion yv [0],.code (.region 1 xi false)]
noncomputable def uP (Wg bG CF:Nat):Goroutine→World→Prop:=yj Tryz.link (FC bG CF) Wg (KE Wg bG) [qW Tryz.prog]
abbrev vN (Wg bG:Nat):World→World→Prop:=RK Tryz.link.tWg Wg (rD bG)
variable {Wg bG CF:Nat}
theorem As(e:bG≠Wg):sX (vN Wg bG) (FC bG CF) Tryz.link.tWg Wg :=
 ⟨RK.trans,fun _ _ h=>h.live,fun _ _ h hF=>(gA (h.keep _ rfl) 0).trans hF,fun w a v f hF=>by
  have:=(aside_setCell w a v).block bG (by rw[f];exact e);exact(gA this 0).trans hF⟩
variable {N:nj}
theorem KF(hN:N.CF=CF∧N.Wg=Wg∧N.ty=Tryz.link.tWg)(v:Value)(w:World)(hF:FC bG CF w):Goes Tryz.prog false (vN Wg bG) (DQ (rD bG)) (AtClose Tryz.prog N) 5 (G ((baseD 61).at ⟨#[box Wg,box bG,v,undef],[]⟩ [.inRegion yv [],.code (.region 1 xi false)]) [qW Tryz.prog]) w:=by
 ((refine gx rfl (fun _ f=>?_);replace hF:FC _ _ _:=(gA (RK.keep f _ rfl) 0).trans hF;clear f);rw[stepG_region_end];simp only[fA];refine⟨DQ.nil,?_⟩);simp only[xi,Tryz.f61]
 ((refine gx rfl (fun _ f=>?_);replace hF:FC _ _ _:=(gA (RK.keep f _ rfl) 0).trans hF;clear f);rw[fy];simp only[fA,gF,gG,gH,Nat.reduceAdd,dG,List.range,List.range.loop];refine⟨DQ.nil,?_⟩)
 (refine gx rfl (fun _ f=>?_);replace hF:FC _ _ _:=(gA (RK.keep f _ rfl) 0).trans hF;clear f);refine gC rfl rfl (by decide) (fun K h=>?_);simp only[box]at *;go_simp;refine h _ _ ⟨⟨⟨_,rfl⟩,fun e he=>?_⟩,?_⟩
 ·have hm:=gz he;simp[go_sem, *]at hm;subst hm;exact⟨_,rfl,rfl⟩
 clear h K;refine fQ fun w₁ f=>?_
 replace hF:FC _ _ _:=(gA (RK.keep f _ rfl) 0).trans hF;clear f;refine⟨rfl,rfl,fun k=>?_⟩;obtain⟨rfl,rfl,_⟩:=hN;refine⟨_,stepG_close rfl rfl (by decide) rfl rfl k (by kernel_rfl),4,?_⟩
 q_c stepG_region_end
 q_c fY
 exact Da Tryz.func61 rfl
theorem KG(hN:N.CF=CF∧N.Wg=Wg∧N.ty=Tryz.link.tWg)(f:bG≠Wg)(g:Goroutine)(w:World)(h:uP Wg bG CF g w):∃m,Goes Tryz.prog false (RK N.ty N.Wg (rD bG)) DC0 (wT Tryz.prog false (RK N.ty N.Wg (rD bG)) N.ty N.Wg (uP Wg bG CF) (Nx Tryz.prog N (rD bG) 5)) m g w:=by
 obtain⟨u,y,k⟩:=hN;subst y;rw[k];have:=JI (mn:=false) (mT:=0) (Next:=Nx Tryz.prog N (rD bG) 5) Tryz.uK (As f) (b₀:=baseD 61) (a₀:=Ar N.Wg bG) (ops₀:=yv) (i₀:=0) (rest₀:=[]) (k₀:=[.code (.region 1 xi false)]) (cs:=[qW Tryz.prog])
  (fun w hF C=>fQ fun w₁ e=>?_) g w h
 ·exact this
 ·show Goes Tryz.prog false (RK N.ty N.Wg (rD bG)) (DQ (rD bG)) (AtClose Tryz.prog N) 5 _ _;rw[k];have q:FC bG CF w₁:=(gA (RK.keep e _ rfl) 0).trans hF;exact KF ⟨u,rfl,k⟩ (.tuple #[]) w₁ q
theorem KH(f:bG≠Wg){w:World}(hF:FC bG CF w)(k:WgLive Tryz.link.tWg Wg w):Goes Tryz.prog false (vN Wg bG) (DQ (rD bG)) (oT Tryz.prog false (vN Wg bG) (mk .disable) (uP Wg bG CF)) 7 (born Tryz.prog (pf 61 #[box Wg,box bG])) w:=by
 have hF:=And.intro hF k;have rl:∀{w w₁:World},FC bG CF w∧WgLive Tryz.link.tWg Wg w→vN Wg bG w w₁→FC bG CF w₁∧WgLive Tryz.link.tWg Wg w₁:=fun h r=>(As f).rl h r
 refine gx rfl fun w₁ e=>?_
 replace hF:=rl hF e;clear e;rw[C9 Tryz.func61 rfl rfl];simp only[fA];refine⟨DQ.nil,?_⟩
 walk_nrmf Tryz.f61
 refine gx rfl fun w₁ e=>?_
 replace hF:=rl hF e;clear e;rw[stepG_seq];simp only[fA];refine⟨DQ.nil,?_⟩;refine gx rfl fun w₁ e=>?_
 replace hF:=rl hF e;clear e;rw[fy];simp only[fA,gF,gG,gH,dG,List.range,List.range.loop];refine⟨DQ.nil,?_⟩;refine gx rfl fun w₁ e=>?_
 replace hF:=rl hF e;clear e;refine fz rfl rfl (by decide) rfl Tryz.uK.f_wait rfl rfl ⟨DQ.nil,?_⟩;walk_nrm;refine Goes.mono (n:=3) (Goes.vI (fun _ _ _ h=>DQ.p9 h) ?_) (by decide);have m:=JJ (mn:=false) (R:=vN Wg bG) Tryz.uK (As f) (b₀:=baseD 61) (a₀:=Ar Wg bG) (ops₀:=yv) (i₀:=0) (rest₀:=[]) (k₀:=[.code (.region 1 xi false)]) (cs:=[qW Tryz.prog]) _ hF;exact m
end
section
open Go.Conc Go.ConcN Go.Conc.Lib Go.ConcR.Gen Go.ConcN.Gen Go.Proofs.YtjnkcibpkkjniaaGreat.kx
open Go.ConcR (KK wgBlock WgAt stA smA rd wr DC0)
variable {V W:Nat→Prop} {w:World}
theorem DM.nil:DM V W w w #[]:=⟨fun _ _=>rfl,rfl,rfl,by simp⟩
theorem DM.drew:DM V W w { w with drawn:=w.drawn+1 } #[]:=⟨fun _ _=>rfl,rfl,rfl,by simp⟩
structure MF (p:WI) (B:WB) (V:Nat→Prop) (w:World):Prop where
 s:w.cell? ⟨B.bS,0,none⟩=some (.pointer (some ⟨p.sp,p.so,none⟩))
 n:w.cell? ⟨B.bN,0,none⟩=some (.slice (some ⟨p.nb,p.no,none⟩) p.nl p.nc)
 c:w.cell? ⟨B.bC,0,none⟩=some (.chan (some B.CB))
 g:w.cell? ⟨B.bG,0,none⟩=some (.chan (some B.CF))
 id:w.cell? ⟨p.sp,p.so,none⟩=some (.int .i64 p.id)
 x:w.cell? ⟨p.sp,p.so+1,none⟩=some (.slice p.xa p.xl p.xc)
 vs:V B.bS∧V B.bN∧V B.bC∧V B.bG∧V p.sp
theorem MF.keep{p:WI}{B:WB}{w₁:World}(h:MF p B V w)(k:∀b,V b→w₁.heap[b]?=w.heap[b]?):MF p B V w₁ :=
 ⟨(gA (k _ h.vs.1) _).trans h.s,(gA (k _ h.vs.2.1) _).trans h.n,(gA (k _ h.vs.2.2.1) _).trans h.c,(gA (k _ h.vs.2.2.2.1) _).trans h.g,(gA (k _ h.vs.2.2.2.2) _).trans h.id,(gA (k _ h.vs.2.2.2.2) _).trans h.x,h.vs⟩
noncomputable def sr:Code:=match po with
 | .seq (.seq _ (.block _ (.loop c))) _=>c
 |_=>.skip
noncomputable def ra:Code:=match po with
 | .seq _ c=>c
 |_=>.skip
def LT (p:WI) (B:WB) (v21 v8 v22 v23 v24 v25 v26:Value):Array Value :=
 #[p.s,p.nQ,ptr B.bS,ptr B.bN,.slice none 0 0,ptr B.bC,ptr B.bG,ptr B.Wg,v8,p.s,p.s,.pointer (some ⟨p.sp,p.so+1,none⟩),.slice p.xa p.xl p.xc,.int .i64 p.xl,.chan (some B.CB),.chan (some B.CF),
  p.s,p.s,.pointer (some ⟨p.sp,p.so+1,none⟩),.slice p.xa p.xl p.xc,.int .i64 p.xl,v21,v22,v23,v24,v25,v26,undef,undef,undef,undef,undef,undef,undef,undef,undef]
noncomputable abbrev wf:Frame:=base 35
noncomputable def xj:Array Oper:=match sr with
 | .seq _ (.seq _ (.seq (.block _ (.seq (.region _ ops _) _)) _))=>ops
 |_=>#[]
noncomputable def uQ:Array Oper:=match sr with
 | .seq _ (.seq _ (.seq (.block _ (.seq _ (.region _ ops _))) _))=>ops
 |_=>#[]
noncomputable def Du:Array Oper:=match sr with
 | .seq _ (.seq _ (.seq _ (.region _ ops _)))=>ops
 |_=>#[]
noncomputable def uR:List Item:=[.inBlock 1,.code (.region 8 Du false),.inLoop sr,.inBlock 0,.code ra]
noncomputable def uS:Code:=Tryz.f58.body.getD .skip
noncomputable def uT:Array Oper:=match uS with
 | .seq (.region _ ops _) _=>ops
 |_=>#[]
noncomputable def rE:Array Oper:=match uS with
 | .seq _ (.seq _ (.region _ ops _))=>ops
 |_=>#[]
noncomputable def xk:Code:=match uS with
 | .seq _ c=>c
 |_=>.skip
noncomputable def vO:Array Oper:=match uS with
 | .seq _ (.seq (.region _ ops _) _)=>ops
 |_=>#[]
def tR (B:WB) (bI:Nat):Array Value:=#[box B.bC,box bI,box B.bS,box B.bN]
noncomputable abbrev gf:Frame:=base 58
noncomputable def head (p:WI) (B:WB) (j:Nat) (v8 v22 v23 v24 v25 v26:Value) (cs:List Frame):Goroutine:=G (wf.at ⟨LT p B (.int .i64 j) v8 v22 v23 v24 v25 v26,[]⟩ [.code sr,.inLoop sr,.inBlock 0,.code ra]) cs
theorem MF.cl{p:WI}{B:WB}{V W:Nat→Prop}{f:TypeId}{wg:Nat}{S:Goroutine→World→Prop}{n:Nat}{g g':Goroutine}{w:World}(hF:MF p B V w)(k:g.status=.running)(e:∀w,stepG Tryz.prog true g w=.go g' w)(h:∀w,MF p B V w→Goes Tryz.prog true (RK f wg V) (DM V W) S n g' w):Goes Tryz.prog true (RK f wg V) (DM V W) S (n+1) g w:=Goes.cl hF (fun _ _ h r=>h.keep (RK.keep r)) (fun _=>DM.nil) k e h
theorem MF.op{p:WI}{B:WB}{V W:Nat→Prop}{f:TypeId}{wg:Nat}{S:Goroutine→World→Prop}{n:Nat}{w:World}{c:Frame}{a:Act}{k:List Item}{cs:List Frame}{ops:Array Oper}{i:Nat}{rest:List Nat}{q:Oper}(hF:MF p B V w)(m:ops[i]?=some q)(hw:Region.wanted q (yielded ops a.tmps)=true)(u:c.kind≠.early)(h:∀w,MF p B V w→∀K:Act→World→Prop,(∀a',(∀e∈(execOp a.eval q).events Tryz.prog w #[],∃a wr,e=⟨.cell a,wr,false⟩∧V a.block∧(wr=true→W a.block))→Goes Tryz.prog true (RK f wg V) (DM V W) S n (G (c.at a' (.inRegion ops rest::k)) cs) w→K a' w)→uponK q a K ((execOp a.eval q).run Tryz.prog w)):Goes Tryz.prog true (RK f wg V) (DM V W) S (n+1) (G (c.at a (.inRegion ops (i::rest)::k)) cs) w :=
 Goes.op hF (fun _ _ h r=>h.keep (RK.keep r)) (fun _ _ t=>⟨fun _ _=>rfl,rfl,rfl,t⟩) m hw u h
section
variable {p:WI} {B:WB} {Wg:Nat} {V W:Nat→Prop} {cs:List Frame} {w:World}
theorem KI(hF:MF p B V w):Goes Tryz.prog true (RK Tryz.link.tWg B.Wg V) (DM V W) (fun g w=>MF p B V w∧g=head p B 0 undef undef undef undef undef undef cs) 30 (G (wf.at ⟨#[p.s,p.nQ,ptr B.bS,ptr B.bN,.slice none 0 0,ptr B.bC,ptr B.bG,ptr B.Wg,undef,p.s,p.s,.pointer (some ⟨p.sp,p.so+1,none⟩),.slice p.xa p.xl p.xc,.int .i64 p.xl,.chan (some B.CB),.chan (some B.CF),undef,undef,undef,undef,undef,undef,undef,undef,undef,undef,undef,undef,undef,undef,undef,undef,undef,undef,undef,undef],[]⟩ [.code po]) cs) w:=by
 simp only[po,Tryz.f35]
 (refine MF.cl hF rfl (fun _=>stepG_seq) ?_;clear hF;intro _ hF)
 (refine MF.cl hF rfl (fun _=>stepG_seq) ?_;clear hF;intro _ hF)
 (refine MF.cl hF rfl (fun _=>fy) ?_;clear hF;intro _ hF;simp only[gF,gG,gH,Nat.reduceAdd,dG,List.range,List.range.loop])
 (refine MF.op hF rfl rfl (by decide) ?_;clear hF;intro _ hF K f;have k:=MF.s hF;have m:=MF.x hF;have h:=MF.vs hF;(try simp only[ptr]at *);go_simp;refine f _ (fun e hm=>?_) ?_;(focus(clear f;simp[go_sem, *]at hm;(try(subst hm;exact⟨_,_,rfl,by simp[h],by simp⟩))));clear f K k m h)
 (refine MF.op hF rfl rfl (by decide) ?_;clear hF;intro _ hF K f;have k:=MF.s hF;have m:=MF.x hF;have h:=MF.vs hF;(try simp only[ptr]at *);go_simp;refine f _ (fun e hm=>?_) ?_;(focus(clear f;simp[go_sem, *]at hm;(try(subst hm;exact⟨_,_,rfl,by simp[h],by simp⟩))));clear f K k m h)
 (refine MF.op hF rfl rfl (by decide) ?_;clear hF;intro _ hF K f;have k:=MF.s hF;have m:=MF.x hF;have h:=MF.vs hF;(try simp only[ptr]at *);go_simp;refine f _ (fun e hm=>?_) ?_;(focus(clear f;simp[go_sem, *]at hm;(try(subst hm;exact⟨_,_,rfl,by simp[h],by simp⟩))));clear f K k m h)
 (refine MF.op hF rfl rfl (by decide) ?_;clear hF;intro _ hF K f;have k:=MF.s hF;have m:=MF.x hF;have h:=MF.vs hF;(try simp only[ptr]at *);go_simp;refine f _ (fun e hm=>?_) ?_;(focus(clear f;simp[go_sem, *]at hm;(try(subst hm;exact⟨_,_,rfl,by simp[h],by simp⟩))));clear f K k m h)
 (refine MF.op hF rfl rfl (by decide) ?_;clear hF;intro _ hF K f;have k:=MF.s hF;have m:=MF.x hF;have h:=MF.vs hF;(try simp only[ptr]at *);go_simp;refine f _ (fun e hm=>?_) ?_;(focus(clear f;simp[go_sem, *]at hm;(try(subst hm;exact⟨_,_,rfl,by simp[h],by simp⟩))));clear f K k m h)
 (refine MF.op hF rfl rfl (by decide) ?_;clear hF;intro _ hF K f;have k:=MF.s hF;have m:=MF.x hF;have h:=MF.vs hF;(try simp only[ptr]at *);go_simp;refine f _ (fun e hm=>?_) ?_;(focus(clear f;simp[go_sem, *]at hm;(try(subst hm;exact⟨_,_,rfl,by simp[h],by simp⟩))));clear f K k m h)
 (refine MF.cl hF rfl (fun _=>stepG_region_end) ?_;clear hF;intro _ hF)
 (refine MF.cl hF rfl (fun _=>stepG_block) ?_;clear hF;intro _ hF)
 (refine MF.cl hF rfl (fun _=>stepG_loop) ?_;clear hF;intro _ hF);exact fQ fun w₁ q=>⟨hF.keep q.keep,rfl⟩
variable {v8 v22 v23 v24 v25 v26:Value}
theorem KJ{j:Nat}(C:j<p.xl)(u:p.xl<2147483647)(hF:MF p B V w):Goes Tryz.prog true (RK Tryz.link.tWg B.Wg V) (DM V W) (fun g w=>MF p B V w∧g=G (wf.at ⟨LT p B (.int .i64 j) v8 (.bool true) (.int .i64 j) v24 v25 v26,[]⟩ (.inRegion xj [1,2]::.code (.region 7 uQ false)::uR)) cs) 12 (head p B j v8 v22 v23 v24 v25 v26 cs) w:=by
 have y:(j:Int)<(p.xl:Int):=by omega
 simp only[head,LT,sr,po,Tryz.f35]
 (refine MF.cl hF rfl (fun _=>stepG_seq) ?_;clear hF;intro _ hF)
 (refine MF.cl hF rfl (fun _=>fy) ?_;clear hF;intro _ hF;simp only[gF,gG,gH,Nat.reduceAdd,dG,List.range,List.range.loop])
 (refine MF.op hF rfl rfl (by decide) ?_;clear hF;intro _ hF K h;have m:=MF.s hF;have q:=MF.x hF;have k:=MF.vs hF;(try simp only[ptr]at *);go_simp;refine h _ (fun e hm=>?_) ?_;(focus(clear h;simp[go_sem, *]at hm;(try(subst hm;exact⟨_,_,rfl,by simp[k],by simp⟩))));clear h K m q k)
 (refine MF.cl hF rfl (fun _=>stepG_region_end) ?_;clear hF;intro _ hF)
 (refine MF.cl hF rfl (fun _=>stepG_seq) ?_;clear hF;intro _ hF)
 (refine gx rfl (fun _ f=>?_);replace hF:=MF.keep hF (RK.keep f);clear f);rw[fw (t:=true) (by simp[Act.eval])];simp only[fA,dn];refine⟨DM.nil,?_⟩
 (refine MF.cl hF rfl (fun _=>stepG_skip) ?_;clear hF;intro _ hF)
 (refine MF.cl hF rfl (fun _=>stepG_seq) ?_;clear hF;intro _ hF)
 (refine MF.cl hF rfl (fun _=>stepG_block) ?_;clear hF;intro _ hF)
 (refine MF.cl hF rfl (fun _=>stepG_seq) ?_;clear hF;intro _ hF)
 (refine MF.cl hF rfl (fun _=>fy) ?_;clear hF;intro _ hF;simp only[gF,gG,gH,Nat.reduceAdd,dG,List.range,List.range.loop])
 (refine MF.op hF rfl rfl (by decide) ?_;clear hF;intro _ hF K h;have m:=MF.s hF;have q:=MF.x hF;have k:=MF.vs hF;(try simp only[ptr]at *);go_simp;refine h _ (fun e hm=>?_) ?_;(focus(clear h;simp[go_sem, *]at hm;(try(subst hm;exact⟨_,_,rfl,by simp[k],by simp⟩))));clear h K m q k);exact fQ fun w₁ f=>⟨hF.keep f.keep,rfl⟩
theorem KL(hF:MF p B V w):Goes Tryz.prog true (RK Tryz.link.tWg B.Wg V) (DM V W) (fun g w=>MF p B V w∧g=G (wf.at ⟨LT p B (.int .i64 p.xl) v8 (.bool false) v23 v24 v25 v26,[]⟩ [.code ra]) cs) 12 (head p B p.xl v8 v22 v23 v24 v25 v26 cs) w:=by
 simp only[head,LT,sr,po,Tryz.f35]
 (refine MF.cl hF rfl (fun _=>stepG_seq) ?_;clear hF;intro _ hF)
 (refine MF.cl hF rfl (fun _=>fy) ?_;clear hF;intro _ hF;simp only[gF,gG,gH,Nat.reduceAdd,dG,List.range,List.range.loop])
 (refine MF.op hF rfl rfl (by decide) ?_;clear hF;intro _ hF K h;have m:=MF.s hF;have q:=MF.x hF;have k:=MF.vs hF;(try simp only[ptr]at *);go_simp;refine h _ (fun e hm=>?_) ?_;(focus(clear h;simp[go_sem, *]at hm;(try(subst hm;exact⟨_,_,rfl,by simp[k],by simp⟩))));clear h K m q k)
 (refine MF.cl hF rfl (fun _=>stepG_region_end) ?_;clear hF;intro _ hF)
 (refine MF.cl hF rfl (fun _=>stepG_seq) ?_;clear hF;intro _ hF)
 (refine gx rfl (fun _ f=>?_);replace hF:=MF.keep hF (RK.keep f);clear f);rw[fw (t:=false) (by simp[Act.eval])];simp only[fA,dL,↓reduceIte];refine⟨DM.nil,?_⟩
 (refine gx rfl (fun _ f=>?_);replace hF:=MF.keep hF (RK.keep f);clear f);refine goes_exit rfl ?_;refine⟨DM.nil,?_⟩;exact fQ fun w₁ f=>⟨hF.keep f.keep,rfl⟩
end
end
section
open Go.Conc Go.ConcN Go.Conc.Lib Go.ConcR.Gen Go.ConcN.Gen Go.Proofs.YtjnkcibpkkjniaaGreat.kx
open Go.ConcR (KK wgBlock WgAt stA smA rd wr mk DC0)
section
variable {p:WI} {B:WB} {V W:Nat→Prop} {cs:List Frame} {w:World}
structure kE (p:WI) (B:WB) (V:Nat→Prop) (b:Nat) (o:Obj) (w:World):Prop where
 f:MF p B V w
 v:V b
 o:w.heap[b]?=some o
theorem kE.keep{b:Nat}{o:Obj}{w₁:World}(h:kE p B V b o w)(k:∀b,V b→w₁.heap[b]?=w.heap[b]?):kE p B V b o w₁:=⟨h.f.keep k,h.v,(k _ h.v).trans h.o⟩
theorem kE.cl{p:WI}{B:WB}{V W:Nat→Prop}{f:TypeId}{wg:Nat}{b:Nat}{o:Obj}{S:Goroutine→World→Prop}{n:Nat}{g g':Goroutine}{w:World}(hF:kE p B V b o w)(k:g.status=.running)(e:∀w,stepG Tryz.prog true g w=.go g' w)(h:∀w,kE p B V b o w→Goes Tryz.prog true (RK f wg V) (DM V W) S n g' w):Goes Tryz.prog true (RK f wg V) (DM V W) S (n+1) g w:=Goes.cl hF (fun _ _ h r=>h.keep (RK.keep r)) (fun _=>DM.nil) k e h
theorem kE.op{p:WI}{B:WB}{V W:Nat→Prop}{f:TypeId}{wg:Nat}{b:Nat}{o:Obj}{S:Goroutine→World→Prop}{n:Nat}{w:World}{c:Frame}{a:Act}{k:List Item}{cs:List Frame}{ops:Array Oper}{i:Nat}{rest:List Nat}{q:Oper}(hF:kE p B V b o w)(m:ops[i]?=some q)(hw:Region.wanted q (yielded ops a.tmps)=true)(u:c.kind≠.early)(h:∀w,kE p B V b o w→∀K:Act→World→Prop,(∀a',(∀e∈(execOp a.eval q).events Tryz.prog w #[],∃a wr,e=⟨.cell a,wr,false⟩∧V a.block∧(wr=true→W a.block))→Goes Tryz.prog true (RK f wg V) (DM V W) S n (G (c.at a' (.inRegion ops rest::k)) cs) w→K a' w)→uponK q a K ((execOp a.eval q).run Tryz.prog w)):Goes Tryz.prog true (RK f wg V) (DM V W) S (n+1) (G (c.at a (.inRegion ops (i::rest)::k)) cs) w :=
 Goes.op hF (fun _ _ h r=>h.keep (RK.keep r)) (fun _ _ t=>⟨fun _ _=>rfl,rfl,rfl,t⟩) m hw u h
variable {b:Nat}
theorem MF.Au{w₁:World}(h:MF p B V w)(e:b≠B.bS∧b≠B.bN∧b≠B.bC∧b≠B.bG∧b≠p.sp)(k:∀x,x≠b→w₁.heap[x]?=w.heap[x]?):MF p B V w₁ :=
 ⟨(gA (k _ (dJ e.1)) _).trans h.s,(gA (k _ (dJ e.2.1)) _).trans h.n,(gA (k _ (dJ e.2.2.1)) _).trans h.c,(gA (k _ (dJ e.2.2.2.1)) _).trans h.g,(gA (k _ (dJ e.2.2.2.2)) _).trans h.id,(gA (k _ (dJ e.2.2.2.2)) _).trans h.x,h.vs⟩
variable {c:Array Value} {ty:TypeId} {fr:Nat×Nat}
theorem cell_of(h:w.heap[b]?=some (.cells c ty fr))(o:Nat):w.cell? ⟨b,o,none⟩=c[o]?:=by simp[World.cell?,h]
theorem rF(h:w.heap[b]?=some (.cells c ty (0,0)))(o:Nat):w.frozen? ⟨b,o,none⟩=false:=by simp[World.frozen?,h]
theorem rG(h:w.heap[b]?=some (.cells c ty fr))(o:Nat)(v:Value):(w.setCell ⟨b,o,none⟩ v).heap[b]?=some (.cells (c.setIfInBounds o v) ty fr):=by
 simp[World.setCell,dH,h]
theorem oW{b':Nat}(h:b≠b')(o:Nat)(v:Value):(w.setCell ⟨b,o,none⟩ v).heap[b']?=w.heap[b']?:=by
 simp[World.setCell,dH,h]
variable {j bI:Nat} {v25 v26:Value}
theorem KM{v24:Value}(hW:W bI)(m:bI≠B.bS∧bI≠B.bN∧bI≠B.bC∧bI≠B.bG∧bI≠p.sp)(hF:kE p B V bI (.cells #[.int .i64 0] 3) w):Goes Tryz.prog true (RK Tryz.link.tWg B.Wg V) (DM V W) (fun g w=>kE p B V bI (.cells #[.int .i64 j] 3) w∧g=G (gf.at ⟨#[box B.Wg,nk 59 (tR B bI),undef,undef,undef,undef,undef],[]⟩ (.inRegion uT [0,1]::[.code xk])) (wf.at ⟨LT p B (.int .i64 j) (ptr bI) (.bool true) (.int .i64 j) (nk 59 (tR B bI)) v25 v26,[]⟩ (.inRegion uQ [1]::uR)::cs)) 12
   (G (wf.at ⟨LT p B (.int .i64 j) (ptr bI) (.bool true) (.int .i64 j) v24 v25 v26,[]⟩ (.inRegion xj [2]::.code (.region 7 uQ false)::uR)) cs) w:=by
 simp only[LT,xj,uQ,uR,sr,po,Tryz.f35]
 (refine gx rfl (fun _ h=>?_);replace hF:=kE.keep hF (RK.keep h);clear h);rw[Dp (ad:=⟨bI,0,none⟩) (v:=.int .i64 j) (u:=.int .i64 0) rfl rfl (by decide) rfl rfl rfl (.inr ⟨_,_,rfl⟩) Tryz.isAgg3 Tryz.sizeOf3 (cell_of hF.o 0) (rF hF.o 0) (by kernel_rfl)];simp only[fA];refine⟨⟨fun b hb=>oW (fun e:bI=b=>hb (by rw[←e];exact hW)) _ _,by simp[World.setCell],rfl,fun e he=>?_⟩,?_⟩
 ·rw[gX]at he;subst he;exact⟨_,_,rfl,hF.v,fun _=>hW⟩
 have hF:kE p B V bI (.cells #[.int .i64 j] 3) (World.setCell _ ⟨bI,0,none⟩ (.int .i64 j)):=⟨hF.f.Au (b:=bI) m (fun b hb=>oW (dJ hb) _ _),hF.v,rG hF.o _ _⟩;walk_nrm
 (refine kE.cl hF rfl (fun _=>stepG_region_end) ?_;clear hF;intro _ hF)
 (refine kE.cl hF rfl (fun _=>fy) ?_;clear hF;intro _ hF;simp only[gF,gG,gH,Nat.reduceAdd,dG,List.range,List.range.loop])
 (refine kE.op hF rfl rfl (by decide) ?_;clear hF;intro _ hF K k;go_simp;refine k _ (fun e hm=>?_) ?_;(focus(clear k;simp[go_sem]at hm));clear k K)
 (refine gx rfl (fun _ h=>?_);replace hF:=kE.keep hF (RK.keep h);clear h);refine fz rfl rfl (by decide) rfl Tryz.func58 rfl rfl ⟨DM.nil,?_⟩
 walk_nrmf Tryz.f58
 (refine kE.cl hF rfl (fun _=>stepG_seq) ?_;clear hF;intro _ hF)
 (refine kE.cl hF rfl (fun _=>fy) ?_;clear hF;intro _ hF;simp only[gF,gG,gH,Nat.reduceAdd,dG,List.range,List.range.loop]);exact fQ fun w₁ h=>⟨hF.keep h.keep,rfl⟩
structure lz (p:WI) (B:WB) (V:Nat→Prop) (j bI bW bF:Nat) (w:World):Prop where
 f:MF p B V w
 v:V bI∧V bW∧V bF
 i:w.heap[bI]?=some (.cells #[.int .i64 j] 3)
 gw:w.heap[bW]?=some (.cells #[box B.Wg] 168)
 c:w.heap[bF]?=some (.cells #[nk 59 (tR B bI)] 1)
theorem lz.keep{j bI bW bF:Nat}{w₁:World}(h:lz p B V j bI bW bF w)(k:∀b,V b→w₁.heap[b]?=w.heap[b]?):lz p B V j bI bW bF w₁:=⟨h.f.keep k,h.v,(k _ h.v.1).trans h.i,(k _ h.v.2.1).trans h.gw,(k _ h.v.2.2).trans h.c⟩
theorem lz.cl{p:WI}{B:WB}{V W:Nat→Prop}{f:TypeId}{wg:Nat}{j bI bW bF:Nat}{S:Goroutine→World→Prop}{n:Nat}{g g':Goroutine}{w:World}(hF:lz p B V j bI bW bF w)(k:g.status=.running)(e:∀w,stepG Tryz.prog true g w=.go g' w)(h:∀w,lz p B V j bI bW bF w→Goes Tryz.prog true (RK f wg V) (DM V W) S n g' w):Goes Tryz.prog true (RK f wg V) (DM V W) S (n+1) g w:=Goes.cl hF (fun _ _ h r=>h.keep (RK.keep r)) (fun _=>DM.nil) k e h
theorem lz.op{p:WI}{B:WB}{V W:Nat→Prop}{f:TypeId}{wg:Nat}{j bI bW bF:Nat}{S:Goroutine→World→Prop}{n:Nat}{w:World}{c:Frame}{a:Act}{k:List Item}{cs:List Frame}{ops:Array Oper}{i:Nat}{rest:List Nat}{q:Oper}(hF:lz p B V j bI bW bF w)(m:ops[i]?=some q)(hw:Region.wanted q (yielded ops a.tmps)=true)(u:c.kind≠.early)(h:∀w,lz p B V j bI bW bF w→∀K:Act→World→Prop,(∀a',(∀e∈(execOp a.eval q).events Tryz.prog w #[],∃a wr,e=⟨.cell a,wr,false⟩∧V a.block∧(wr=true→W a.block))→Goes Tryz.prog true (RK f wg V) (DM V W) S n (G (c.at a' (.inRegion ops rest::k)) cs) w→K a' w)→uponK q a K ((execOp a.eval q).run Tryz.prog w)):Goes Tryz.prog true (RK f wg V) (DM V W) S (n+1) (G (c.at a (.inRegion ops (i::rest)::k)) cs) w :=
 Goes.op hF (fun _ _ h r=>h.keep (RK.keep r)) (fun _ _ t=>⟨fun _ _=>rfl,rfl,rfl,t⟩) m hw u h
noncomputable def re (B:WB) (bI:Nat) (bW bF:Nat) (v4 v5 v6:Value):Array Value:=#[box B.Wg,nk 59 (tR B bI),box bW,box bF,v4,v5,v6]
noncomputable def rH (p:WI) (B:WB) (j bI:Nat) (v25 v26:Value) (cs:List Frame):List Frame:=wf.at ⟨LT p B (.int .i64 j) (ptr bI) (.bool true) (.int .i64 j) (nk 59 (tR B bI)) v25 v26,[]⟩ (.inRegion uQ [1]::uR)::cs
variable {bW bF:Nat}
theorem KN(hF:lz p B V j bI bW bF w):Goes Tryz.prog true (RK Tryz.link.tWg B.Wg V) (DM V W) (fun g w=>lz p B V j bI bW bF w∧g=G ((base Tryz.link.add).at ⟨#[.pointer (some ⟨B.Wg,0,none⟩),.int .i64 1]++Array.replicate 115 undef,[]⟩ [.code (body_add Tryz.link)]) (gf.at ⟨re B bI bW bF (box B.Wg) undef undef,[]⟩ (.inRegion vO [1]::[.code (.region 2 rE false)])::rH p B j bI v25 v26 cs)) 12
   (G (gf.at ⟨re B bI bW bF undef undef undef,[]⟩ (.inRegion uT []::[.code xk])) (rH p B j bI v25 v26 cs)) w:=by
 simp only[re,uT,vO,rE,xk,uS,Tryz.f58,eE]
 (refine lz.cl hF rfl (fun _=>stepG_region_end) ?_;clear hF;intro _ hF)
 (refine lz.cl hF rfl (fun _=>stepG_seq) ?_;clear hF;intro _ hF)
 (refine lz.cl hF rfl (fun _=>fy) ?_;clear hF;intro _ hF;simp only[gF,gG,gH,Nat.reduceAdd,dG,List.range,List.range.loop])
 (refine lz.op hF rfl rfl (by decide) ?_;clear hF;intro _ hF K h;have k:=cell_of (lz.gw hF) 0;have m:=lz.v hF;simp only[fV,fW,box]at k;(try simp only[box]);go_simp;refine h _ (fun e hm=>?_) ?_;(focus(clear h;simp[go_sem,box, *]at hm;(try(subst hm;exact⟨_,_,rfl,by simp[m],by simp⟩))));clear h K k m)
 (refine gx rfl (fun _ f=>?_);replace hF:=lz.keep hF (RK.keep f);clear f);refine fz (c:=body_add Tryz.link) rfl rfl (by decide) rfl Tryz.uK.f_add rfl rfl ⟨DM.nil,?_⟩;walk_nrm;refine fQ fun w₁ f=>⟨hF.keep f.keep,?_⟩
 have q:(addFn Tryz.link).ntmps=117:=rfl;rw[q];walk_nrm;rfl
theorem KO(hF:lz p B V j bI bW bF w):Goes Tryz.prog true (RK Tryz.link.tWg B.Wg V) (DM V W) (fun g w=>lz p B V j bI bW bF w∧g=G (gf.at ⟨re B bI bW bF (box B.Wg) (.tuple #[]) (nk 76 #[box bW,box bF]),[]⟩ [.inRegion rE [1]]) (rH p B j bI v25 v26 cs)) 12
   (G (gf.at ⟨re B bI bW bF (box B.Wg) (.tuple #[]) undef,[]⟩ (.inRegion vO []::[.code (.region 2 rE false)])) (rH p B j bI v25 v26 cs)) w:=by
 simp only[re,vO,rE,uS,Tryz.f58,eE]
 (refine lz.cl hF rfl (fun _=>stepG_region_end) ?_;clear hF;intro _ hF)
 (refine lz.cl hF rfl (fun _=>fy) ?_;clear hF;intro _ hF;simp only[gF,gG,gH,Nat.reduceAdd,dG,List.range,List.range.loop])
 (refine lz.op hF rfl rfl (by decide) ?_;clear hF;intro _ hF K h;have k:=cell_of (lz.gw hF) 0;have m:=lz.v hF;simp only[fV,fW,box]at k;(try simp only[box]);go_simp;refine h _ (fun e hm=>?_) ?_;(focus(clear h;simp[go_sem,box, *]at hm;(try(subst hm;exact⟨_,_,rfl,by simp[m],by simp⟩))));clear h K k m);exact fQ fun w₁ f=>⟨hF.keep f.keep,rfl⟩
theorem KQ(u:(j:Int)+1<9223372036854775808)(hF:lz p B V j bI bW bF w):Goes Tryz.prog true (RK Tryz.link.tWg B.Wg V) (DM V W) (fun g w=>lz p B V j bI bW bF w∧g=head p B (j+1) (ptr bI) (.bool true) (.int .i64 j) (nk 59 (tR B bI)) (.tuple #[]) (.int .i64 (j+1:Nat)) cs) 20
   (G (gf.at ⟨re B bI bW bF (box B.Wg) (.tuple #[]) (nk 76 #[box bW,box bF]),[]⟩ [.inRegion rE []]) (rH p B j bI v25 v26 cs)) w:=by
 simp only[re,rE,uS,Tryz.f58,eE]
 (refine lz.cl hF rfl (fun _=>stepG_region_end) ?_;clear hF;intro _ hF)
 (refine lz.cl hF rfl (fun _=>fY) ?_;clear hF;intro _ hF);simp only[rH,LT,uQ,Du,uR,sr,po,Tryz.f35]
 (refine gx rfl (fun _ f=>?_);replace hF:=lz.keep hF (RK.keep f);clear f);refine goes_leave0 rfl rfl Tryz.func58 rfl ⟨DM.nil,?_⟩;walk_nrm
 (refine lz.cl hF rfl (fun _=>stepG_region_end) ?_;clear hF;intro _ hF)
 (refine lz.cl hF rfl (fun _=>stepG_inBlock) ?_;clear hF;intro _ hF)
 (refine lz.cl hF rfl (fun _=>fy) ?_;clear hF;intro _ hF;simp only[gF,gG,gH,Nat.reduceAdd,dG,List.range,List.range.loop]);have q:IntKind.i64.wrap ((j:Int)+1)=((j+1:Nat):Int):=by rw[iC];omega
 (refine lz.op hF rfl rfl (by decide) ?_;clear hF;intro _ hF K h;have k:=cell_of (lz.gw hF) 0;have m:=lz.v hF;simp only[fV,fW,box]at k;(try simp only[box]);go_simp;refine h _ (fun e hm=>?_) ?_;(focus(clear h;simp[go_sem,box, *]at hm;(try(subst hm;exact⟨_,_,rfl,by simp[m],by simp⟩))));clear h K k m)
 (refine lz.op hF rfl rfl (by decide) ?_;clear hF;intro _ hF K h;have k:=cell_of (lz.gw hF) 0;have m:=lz.v hF;simp only[fV,fW,box]at k;(try simp only[box]);go_simp;refine h _ (fun e hm=>?_) ?_;(focus(clear h;simp[go_sem,box, *]at hm;(try(subst hm;exact⟨_,_,rfl,by simp[m],by simp⟩))));clear h K k m)
 (refine lz.cl hF rfl (fun _=>stepG_region_end) ?_;clear hF;intro _ hF)
 (refine lz.cl hF rfl (fun _=>stepG_inLoop) ?_;clear hF;intro _ hF);exact fQ fun w₁ f=>⟨hF.keep f.keep,rfl⟩
end
end
section
open Go.Conc Go.ConcN Go.Conc.Lib Go.ConcR.Gen Go.ConcN.Gen Go.Proofs.YtjnkcibpkkjniaaGreat.kx
open Go.ConcR (KK wgBlock WgAt stA smA rd wr mk DC0)
variable [Scope]
structure PC where
 B0:Nat
 pk:Machine→Nat×Nat×Option (Nat×Nat)
 m0:Machine
 t0:Trace
 Gt:Nat→Tape
 Sc:Nat→Prop
 mw:Goroutine→World→Prop
 mC:Nat
 Shun:Loc→Prop
noncomputable abbrev PX (p:WI) (B:WB) (c:PC) (J:Nat→me):Ctx:=⟨Tryz.prog,⟨c.B0,p.xl,B.Wg,B.CB,B.CF,Tryz.link.tWg,.tuple #[]⟩,c.pk,c.m0,c.t0,c.Gt,J,c.Sc,c.mw,c.mC,c.Shun⟩
def tS (p:WI) (B:WB) (j bI bW bF:Nat) (m:Value):Wk:=⟨B.Wg,B.CB,bW,bF,B.bC,bI,B.bS,B.bN,j,p.sp,p.so,p.id,p.xb,p.xo,p.xl,p.xc,p.nb,p.no,p.nl,p.nc,m⟩
def uU (p:WI) (B:WB) (j:Nat) (m:Value) (ρ:j7) (args:Array Value) (wS:World) (R:Value→World→Prop) (S:Nat→Prop):me:=((tS p B j 0 0 0 m).vJ ρ args wS R).kX S
theorem Dv{P:Program}{main:Bool}{b:Frame}{a:Act}{kk:List Item}{cs:List Frame}{w:World}{ops:Array Oper}{i:Nat}{rest:List Nat}{o:Oper}{f:FuncId}{caps:Array Value}{x:Operand}(k:ops[i]?=some o)(hw:Region.wanted o (yielded ops a.tmps)=true)(m:b.kind≠.early)(e:o.op=.go { callee:=.value x,args:=#[],argTypes:=#[] })(h:a.eval x=nk f caps):stepG P main (G (b.at a (.inRegion ops (i::rest)::kk)) cs) w=.spawn (G (b.at (a.put o.dst undef) (.inRegion ops rest::kk)) cs) (born P (pf f caps)) w #[]:=by
 have hr:(execOp a.eval o).run P w=.ok (.spawn (pf f caps)) w:=by
  unfold execOp;simp[e,resolve,Deferred.ofValue,h,pf,nk]
 have he:(execOp a.eval o).events P w #[]=#[]:=by
  unfold execOp;simp[e,resolve,Deferred.ofValue,h,nk]
 rw[stepG_spawn k hw m hr rfl,iq he]
structure KR (s s':St) (w w':World):Prop where
 j:s'.j=s.j+1
 p:s'.p=0
 d0:s'.d0=0
 sp:s'.tag=.sp
 got:s'.got=s.got
 V:∀b,s.V b→s'.V b
 W:∀b,s.V b→s'.W b→s.W b
 heap:∀b,s.V b→¬s.W b→w'.heap[b]?=w.heap[b]?
section
variable {p:WI} {B:WB} {c:PC} {J:Nat→me} {s:St} {w:World} {cs:List Frame}
structure nY (s s':St) (w w':World):Prop where
 V:∀b,s.V b→s'.V b
 W:∀b,s.V b→s'.W b→s.W b
 heap:∀b,s.V b→¬s.W b→w'.heap[b]?=w.heap[b]?
theorem nY.refl(s:St)(w:World):nY s s w w:=⟨fun _ h=>h,fun _ _ h=>h,fun _ _ _=>rfl⟩
theorem nY.same{s' s2:St}{w' w2:World}(h:nY s s' w w')(e:s2.V=s'.V)(hW:s2.W=s'.W)(f:∀b,s'.V b→¬s'.W b→w2.heap[b]?=w'.heap[b]?):nY s s2 w w2 :=
 ⟨fun b k=>by rw[e];exact h.V b k,fun b k k2=>h.W b k (by rw[←hW];exact k2),fun b k k2=>(f b (h.V b k) fun x=>k2 (h.W b k x)).trans (h.heap b k k2)⟩
theorem nY.new{s' s2:St}{w' w2:World}{b:Nat}{o:Obj}(h:nY s s' w w')(r:Aq s' s2 b o w' w2):nY s s2 w w2 :=
 ⟨fun x k=>by rw[r.V];exact .inl (h.V x k),fun x k k2=>by
  rw[r.W]at k2;rcases k2 with k2|rfl
  ·exact h.W x k k2
  ·exact absurd (h.V x k) r.out,fun x k k2=>(r.heap x (h.V x k)).trans (h.heap x k k2)⟩
theorem round[kD Tryz.prog][lV Tryz.prog](E:(PX p B c J).Good){j:Nat}{v8 v22 v23 v24 v25 v26 m:Value}{ρ:j7}{args:Array Value}{wS:World}{R:Value→World→Prop}{S0:Nat→Prop}(h:At (PX p B c J) s w (head p B j v8 v22 v23 v24 v25 v26 cs))(kp:s.tag=.sp)(hp:s.p=0)(hd:s.d0=0)(hj:s.j=j)(y:j<p.xl)(ab:p.xl<2147483647)(al:j<p.nl)(hF:MF p B s.V w)(M:s.V p.nb)(hW:¬s.W B.bS∧¬s.W B.bN∧¬s.W B.bC∧¬s.W B.bG∧¬s.W p.sp∧¬s.W p.nb)(hm:w.cell? ⟨p.nb,p.no+j,none⟩=some m)(hJ:J j=uU p B j m ρ args wS R S0):∃S' s' w' v8 v22 v23 v24 v25 v26,At (PX p B c (upd J j ((J j).kX S'))) s' w' (head p B (j+1) v8 v22 v23 v24 v25 v26 cs)∧KR s s' w w':=by
 obtain⟨s1,w1,a1,h1,q1,r1⟩:=h.walk E (fun g w k=>by rw[k.2];rfl) (KJ (W:=s.W) (cs:=cs) (v8:=v8) (v22:=v22) (v23:=v23) (v24:=v24) (v25:=v25) (v26:=v26) y ab hF);obtain⟨f1,rfl⟩:=q1 w1 (RK.refl _);have k1:=(nY.refl s w).same r1.V r1.W r1.heap;obtain⟨s2,w2,bI,h2,r2⟩:=h1.new E rfl (o:=.cells #[.int .i64 0] 3) (a':=fun b=>G (wf.at ⟨LT p B (.int .i64 j) (ptr b) (.bool true) (.int .i64 j) v24 v25 v26,[]⟩ (.inRegion xj [2]::.code (.region 7 uQ false)::uR)) cs) (fun w₁=>by
  rw[yt (b:=wf) (ops:=xj) (i:=1) (elem:=3) rfl rfl (by decide) rfl Tryz.zeroValue3 (td (by kernel_rfl))];rfl)
 have k2:=k1.new r2;have e1:s1.V=s.V:=r1.V;have u:∀b,s.V b→bI≠b:=fun b hb e=>r2.out (by rw[e1,e];exact hb)
 have f2:MF p B s2.V w2:=by
  have:=f1.keep (w₁:=w2) fun b hb=>r2.heap b (by rw[e1];exact hb)
  exact⟨this.s,this.n,this.c,this.g,this.id,this.x,k2.V _ hF.vs.1,k2.V _ hF.vs.2.1,k2.V _ hF.vs.2.2.1,k2.V _ hF.vs.2.2.2.1,k2.V _ hF.vs.2.2.2.2⟩
 have ad:s2.V bI:=by rw[r2.V];exact .inr rfl
 obtain⟨s3,w3,a3,h3,q3,H⟩:=h2.walk E (fun g w k=>by rw[k.2];rfl) (KM (j:=j) (cs:=cs) (v24:=v24) (v25:=v25) (v26:=v26) (W:=s2.W) (by rw[r2.W];exact .inr rfl) ⟨u _ hF.vs.1,u _ hF.vs.2.1,u _ hF.vs.2.2.1,u _ hF.vs.2.2.2.1,u _ hF.vs.2.2.2.2⟩ ⟨f2,ad,r2.new⟩);obtain⟨f3,rfl⟩:=q3 w3 (RK.refl _);have k3:=k2.same H.V H.W H.heap;obtain⟨s4,w4,bW,h4,C⟩:=h3.new E rfl (o:=.cells #[box B.Wg] 168) (a':=fun b=>G (gf.at ⟨#[box B.Wg,nk 59 (tR B bI),box b,undef,undef,undef,undef],[]⟩ (.inRegion uT [1]::[.code xk])) (rH p B j bI v25 v26 cs)) (fun w₁=>by
  rw[Am (b:=gf) (ops:=uT) (i:=0) (elem:=168) (x:=.tmp 0) rfl rfl (by decide) rfl];rfl)
 have k4:=k3.new C;obtain⟨s5,w5,bF,h5,D⟩:=h4.new E rfl (o:=.cells #[nk 59 (tR B bI)] 1) (a':=fun b=>G (gf.at ⟨re B bI bW b undef undef undef,[]⟩ (.inRegion uT []::[.code xk])) (rH p B j bI v25 v26 cs)) (fun w₁=>by
  rw[Am (b:=gf) (ops:=uT) (i:=1) (elem:=1) (x:=.tmp 1) rfl rfl (by decide) rfl];rfl)
 have k5:=k4.new D;have e3:s3.V=s2.V:=H.V;have v4:∀b,s3.V b→s4.V b:=fun b hb=>by rw[C.V];exact .inl hb
 have v5:∀b,s4.V b→s5.V b:=fun b hb=>by rw[D.V];exact .inl hb
 have f5:lz p B s5.V j bI bW bF w5:=by
  have g4:kE p B s3.V bI (.cells #[.int .i64 j] 3) w4:=by rw[e3];exact f3.keep fun b hb=>C.heap b (by rw[e3];exact hb)
  have O:kE p B s3.V bI (.cells #[.int .i64 j] 3) w5:=g4.keep fun b hb=>D.heap b (v4 b hb)
  exact⟨⟨O.f.s,O.f.n,O.f.c,O.f.g,O.f.id,O.f.x,k5.V _ hF.vs.1,k5.V _ hF.vs.2.1,k5.V _ hF.vs.2.2.1,k5.V _ hF.vs.2.2.2.1,k5.V _ hF.vs.2.2.2.2⟩,
   ⟨v5 _ (v4 _ (by rw[e3];exact ad)),v5 _ (by rw[C.V];exact .inr rfl),by rw[D.V];exact .inr rfl⟩,O.o,(D.heap bW (by rw[C.V];exact .inr rfl)).trans C.new,D.new⟩
 obtain⟨F,w6,a6,h6,q6,I⟩:=h5.walk E (fun g w k=>by rw[k.2];rfl) (KN (W:=s5.W) (cs:=cs) (v25:=v25) (v26:=v26) f5);obtain⟨f6,rfl⟩:=q6 w6 (RK.refl _);have k6:=k5.same I.V I.W I.heap;have e6:F.V=s5.V:=I.V;rw[←e6]at f6;obtain⟨am,an⟩:=h6.facts;have T:sX (RK Tryz.link.tWg B.Wg F.V) (lz p B F.V j bI bW bF) Tryz.link.tWg B.Wg:=⟨RK.trans,fun _ _ h=>h.live,fun _ _ h hf=>hf.keep h.keep,fun w a v ha hf=>hf.keep fun b hb=>(aside_setCell w a v).block b (by rw[ha];exact(an b hb).2.1)⟩;have ae:=JH (mn:=true) (Next:=fun g w=>lz p B F.V j bI bW bF w∧g=G (gf.at ⟨re B bI bW bF (box B.Wg) (.tuple #[]) undef,[]⟩ (.inRegion vO []::[.code (.region 2 rE false)])) (rH p B j bI v25 v26 cs)) (mT:=0) Tryz.uK T (b₀:=gf) (a₀:=⟨re B bI bW bF (box B.Wg) undef undef,[]⟩) (ops₀:=vO) (i₀:=1) (rest₀:=[]) (k₀:=[.code (.region 2 rE false)]) (cs:=rH p B j bI v25 v26 cs)
  (fun w hf _=>fQ fun w₁ q=>⟨hf.keep q.keep,rfl⟩) w6 ⟨f6,am⟩
 have L:F.tag=.sp:=(I.sp.trans (D.sp.trans (C.sp.trans (H.sp.trans (r2.sp.trans r1.sp))))).2 kp;have ao:F.p=0:=I.p.trans (D.p.trans (C.p.trans (H.p.trans (r2.p.trans (r1.p.trans hp)))));have ap:F.d0=0:=I.d0.trans (D.d0.trans (C.d0.trans (H.d0.trans (r2.d0.trans (r1.d0.trans hd)))));have af:F.j=j:=I.j.trans (D.j.trans (C.j.trans (H.j.trans (r2.j.trans (r1.j.trans hj)))));have aq:F.got=s.got:=I.got.trans (D.got.trans (C.got.trans (H.got.trans (r2.got.trans r1.got))));obtain⟨s7,w7,a7,h7,q7,U,ar,au⟩:=h6.add E (fun g w k=>by rw[k.2];rfl) L ao ap (by rw[af];exact y) ae;obtain⟨f7,rfl⟩:=q7 w7 (RK.refl _);have k7:=k6.same U.V U.W U.heap;have e7:s7.V=F.V:=U.V;rw[←e7]at f7;obtain⟨s8,w8,a8,h8,q8,K⟩:=h7.walk E (fun g w k=>by rw[k.2];rfl) (KO (W:=s7.W) (cs:=cs) (v25:=v25) (v26:=v26) f7);obtain⟨f8,rfl⟩:=q8 w8 (RK.refl _);have Y:=k7.same K.V K.W K.heap;have e8:s8.V=s7.V:=K.V;rw[←e8]at f8;have ag:s8.tag=.sp:=(K.sp.trans U.sp).2 L;have Z:s8.j=j:=K.j.trans (U.j.trans af);have av:∀w₁,RK Tryz.link.tWg B.Wg s8.V w8 w₁→WF (tS p B j bI bW bF m) w₁:=fun w₁ q=>by
  have g:=f8.keep q.keep;have ah:w₁.heap[p.nb]?=w.heap[p.nb]?:=(q.keep _ (Y.V _ M)).trans (Y.heap _ M hW.2.2.2.2.2);exact⟨cell_of g.gw 0,cell_of g.c 0,g.f.c,cell_of g.i 0,g.f.s,g.f.id,g.f.x.trans (by rw[WI.Ds (iD (eP _) y)];rfl),g.f.n,(gA ah _).trans hm,y,al,q.live h8.facts.1⟩
 obtain⟨s9,w9,a9,h9,q9,ai,aw,ax,ay,az,aA,aB,aj⟩:=h8.fork E rfl ag (K.p.trans ar) (K.d0.trans au) (by rw[Z];exact y) (S':=(tS p B j bI bW bF m).S)
  (fun b hb=>by
   have g:=f8;rcases hb with rfl|rfl|rfl|rfl|rfl|rfl|rfl|rfl
   ·exact g.v.2.1
   ·exact g.v.2.2
   ·exact g.f.vs.2.2.1
   ·exact g.v.1
   ·exact g.f.vs.1
   ·exact g.f.vs.2.1
   ·exact g.f.vs.2.2.2.2
   ·exact Y.V _ M)
  (Post:=fun g w=>g=G (gf.at ⟨re B bI bW bF (box B.Wg) (.tuple #[]) (nk 76 #[box bW,box bF]),[]⟩ [.inRegion rE []]) (rH p B j bI v25 v26 cs))
  (fun w₁ q=>⟨_,_,Dv (b:=gf) (ops:=rE) (i:=1) (f:=76) (caps:=#[box bW,box bF]) (x:=.tmp 6) rfl rfl (by decide) rfl rfl,⟨_,by
   rw[Z,show(PX p B c J).J j=uU p B j m ρ args wS R S0 from hJ];exact Kj (p:=tS p B j bI bW bF m) (B:=c.B0) (n:=p.xl) (CF:=B.CF) (av w₁ q)⟩,rfl⟩)
 subst q9;rw[Z]at h9 ai;have e9:s9.V=s8.V:=ay;have k9:nY s s9 w w9:=⟨fun b k=>by rw[e9];exact Y.V b k,fun b k k2=>by rw[az]at k2;exact Y.W b k k2.1,fun b k k2=>(aj b (Y.V b k)).trans (Y.heap b k k2)⟩;have f9:lz p B s9.V j bI bW bF w9:=by rw[e9];exact f8.keep aj
 have aC:(PX p B c (upd J j ((J j).kX (tS p B j bI bW bF m).S))).Good:=E.kX j (tS p B j bI bW bF m).S;have h9:At (PX p B c (upd J j ((J j).kX (tS p B j bI bW bF m).S))) s9 w9 _:=h9;obtain⟨aD,ak,aG,aE,aF,oF⟩:=h9.walk aC (fun g w k=>by rw[k.2];rfl) (KQ (W:=s9.W) (cs:=cs) (v25:=v25) (v26:=v26) (by omega) f9);obtain⟨f10,rfl⟩:=aF ak (RK.refl _);have aa:=k9.same oF.V oF.W oF.heap;refine⟨_,aD,ak,_,_,_,_,_,_,aE,?_,oF.p.trans aw,oF.d0.trans ax,oF.sp.2 aA,oF.got.trans (aB.trans (K.got.trans (U.got.trans aq))),aa.V,aa.W,aa.heap⟩;rw[oF.j,ai,hj]
end
end
section
open Go.Conc Go.ConcN Go.Conc.Lib Go.ConcR.Gen Go.ConcN.Gen Go.Proofs.YtjnkcibpkkjniaaGreat.kx
open Go.ConcR (KK wgBlock WgAt stA smA rd wr mk DC0)
variable [Scope]
structure JD where
 m:Nat→Value
 ρ:Nat→j7
 args:Nat→Array Value
 wS:Nat→World
 R:Nat→Value→World→Prop
def JD.is (d:JD) (p:WI) (B:WB) (J:Nat→me):Prop:=∀i,i<p.xl→∃S,J i=uU p B i (d.m i) (d.ρ i) (d.args i) (d.wS i) (d.R i) S
theorem JD.is.set{d:JD}{p:WI}{B:WB}{J:Nat→me}(h:d.is p B J)(j:Nat)(S:Nat→Prop):d.is p B (upd J j ((J j).kX S)):=fun i f=>by
 by_cases e:i=j
 ·subst e;obtain⟨k,e⟩:=h i f;exact⟨S,by rw[fl,e];rfl⟩
 ·rw[fp _ _ e];exact h i f
section
variable {p:WI} {B:WB} {c:PC} {cs:List Frame} {d:JD}
theorem rounds[kD Tryz.prog][lV Tryz.prog](u:p.xl<2147483647)(G:p.xl≤p.nl):∀(k j:Nat),j+k=p.xl→∀{J:Nat→me}{s:St}{w:World}{v8 v22 v23 v24 v25 v26:Value},(PX p B c J).Good→d.is p B J →
  At (PX p B c J) s w (head p B j v8 v22 v23 v24 v25 v26 cs)→s.tag=.sp→s.p=0→s.d0=0→s.j=j→MF p B s.V w→s.V p.nb→(¬s.W B.bS∧¬s.W B.bN∧¬s.W B.bC∧¬s.W B.bG∧¬s.W p.sp∧¬s.W p.nb)→(∀i,i<p.xl→w.cell? ⟨p.nb,p.no+i,none⟩=some (d.m i)) →
  ∃y s' w' v8 v22 v23 v24 v25 v26,(PX p B c y).Good∧d.is p B y∧At (PX p B c y) s' w' (head p B p.xl v8 v22 v23 v24 v25 v26 cs)∧s'.tag=.sp∧s'.p=0∧s'.d0=0∧s'.j=p.xl∧s'.got=s.got∧MF p B s'.V w'∧nY s s' w w':=by
 intro k
 induction k with
 |zero =>
  intro j E J s w v8 v22 v23 v24 v25 v26 C hd h kp hp f D hF e hW hm;obtain rfl:j=p.xl:=by omega
  exact⟨J,s,w,_,_,_,_,_,_,C,hd,h,kp,hp,f,D,rfl,hF,nY.refl s w⟩
 |succ k H =>
  intro j E J s w v8 v22 v23 v24 v25 v26 C hd h kp hp f D hF e hW hm;obtain⟨S0,I⟩:=hd j (by omega);obtain⟨S',s1,w1,_,_,_,_,_,_,K,r⟩:=round C h kp hp f D (by omega) u (by omega) hF e hW (hm j (by omega)) I;have F:MF p B s1.V w1 :=
   ⟨(gA (r.heap _ hF.vs.1 hW.1) _).trans hF.s,(gA (r.heap _ hF.vs.2.1 hW.2.1) _).trans hF.n,(gA (r.heap _ hF.vs.2.2.1 hW.2.2.1) _).trans hF.c,(gA (r.heap _ hF.vs.2.2.2.1 hW.2.2.2.1) _).trans hF.g,(gA (r.heap _ hF.vs.2.2.2.2 hW.2.2.2.2.1) _).trans hF.id,(gA (r.heap _ hF.vs.2.2.2.2 hW.2.2.2.2.1) _).trans hF.x,r.V _ hF.vs.1,r.V _ hF.vs.2.1,r.V _ hF.vs.2.2.1,r.V _ hF.vs.2.2.2.1,r.V _ hF.vs.2.2.2.2⟩
  obtain⟨y,s',w',L,M,O,R,S,U,b1,b2,Y,Z,b5,b6,b7,b8,b9,q⟩:=H (j+1) (by omega) (J:=upd J j ((J j).kX S')) (C.kX j S') (hd.set j S') K r.sp r.p r.d0 (by rw[r.j,D]) F (r.V _ e)
   ⟨fun x=>hW.1 (r.W _ hF.vs.1 x),fun x=>hW.2.1 (r.W _ hF.vs.2.1 x),fun x=>hW.2.2.1 (r.W _ hF.vs.2.2.1 x),fun x=>hW.2.2.2.1 (r.W _ hF.vs.2.2.2.1 x),fun x=>hW.2.2.2.2.1 (r.W _ hF.vs.2.2.2.2 x),fun x=>hW.2.2.2.2.2 (r.W _ e x)⟩
   (fun i hi=>(gA (r.heap _ e hW.2.2.2.2.2) _).trans (hm i hi))
  exact⟨y,s',w',L,M,O,R,S,U,b1,b2,Y,Z,b5,b6,b7,b8.trans r.got,b9,fun b hb=>q.V b (r.V b hb),fun b hb hw=>r.W b hb (q.W b (r.V b hb) hw),fun b hb hw=>(q.heap b (r.V b hb) fun x=>hw (r.W b hb x)).trans (r.heap b hb hw)⟩
noncomputable def xm:Array Oper:=match ra with
 | .seq (.region _ ops _) _=>ops
 |_=>#[]
noncomputable def oF:Code:=match ra with
 | .seq _ c=>c
 |_=>.skip
theorem KS{V W:Nat→Prop}{w:World}{v21 v8 v22 v23 v24 v25 v26:Value}(hF:MF p B V w):Goes Tryz.prog true (RK Tryz.link.tWg B.Wg V) (DM V W) (fun g w=>MF p B V w∧g=G (wf.at ⟨(LT p B v21 v8 v22 v23 v24 v25 v26).setIfInBounds 27 (nk 61 #[box B.Wg,box B.bG]),[]⟩ [.inRegion xm [1],.code oF]) cs) 12
   (G (wf.at ⟨LT p B v21 v8 v22 v23 v24 v25 v26,[]⟩ [.code ra]) cs) w:=by
 simp only[LT,xm,oF,ra,po,Tryz.f35]
 (refine MF.cl hF rfl (fun _=>stepG_seq) ?_;clear hF;intro _ hF)
 (refine MF.cl hF rfl (fun _=>fy) ?_;clear hF;intro _ hF;simp only[gF,gG,gH,Nat.reduceAdd,dG,List.range,List.range.loop])
 (refine MF.op hF rfl rfl (by decide) ?_;clear hF;intro _ hF K h;have m:=MF.s hF;have q:=MF.x hF;have k:=MF.vs hF;(try simp only[ptr]at *);go_simp;refine h _ (fun e hm=>?_) ?_;(focus(clear h;simp[go_sem, *]at hm;(try(subst hm;exact⟨_,_,rfl,by simp[k],by simp⟩))));clear h K m q k);exact fQ fun w₁ f=>⟨hF.keep f.keep,rfl⟩
end
end
section
open Go.Conc Go.ConcN Go.Conc.Lib Go.ConcR.Gen Go.ConcN.Gen Go.Proofs.YtjnkcibpkkjniaaGreat.kx
open Go.ConcR (KK wgBlock WgAt stA smA rd wr mk DC0)
noncomputable def kZ:Array Oper:=match oF with
 | .seq (.region _ ops _) _=>ops
 |_=>#[]
def v10 (p:WI) (B:WB) (ret:Value):Nat→Value
 |0=>.chan (some B.CB)
 |1=>.chan (some B.CF)
 |2|3=>.pointer (some ⟨p.sp,p.so,none⟩)
 |4=>.pointer (some ⟨p.sp,p.so+1,none⟩)
 |5=>.slice p.xa p.xl p.xc
 |6=>.int .i64 p.xl
 |7|8=>ret
 |_=>undef
def pN (B:WB):List (Nat×Value):=[(2,ptr B.bS),(5,ptr B.bC),(6,ptr B.bG)]
theorem Av:lh kZ [2,5,6] 36=true:=by kernel_rfl
theorem te:kZ.size=9:=by kernel_rfl
theorem KT(m:Bool)(t:Nat):Region.schedule m kZ t=Region.linearise .any kZ t:=by
 have:Region.departs kZ=false:=by kernel_rfl
 simp[Region.schedule,this]
abbrev yw (i:Nat):Bool:=i == 7 || i == 8
theorem Dw{p:WI}{B:WB}{V:Nat→Prop}{ret:Value}(i:Nat)(o:Oper)(listed:Array Bool)(a:Act)(w:World)(f:kZ[i]?=some o)(hr:i∈Region.ready .any kZ listed)(kp:yw i=false)(k:mQ kZ (v10 p B ret) (pN B) 36 listed a)(hF:MF p B V w):(execOp a.eval o).run Tryz.prog w=.ok (.value (v10 p B ret i)) w∧∀e∈(execOp a.eval o).events Tryz.prog w #[],∃ad:Addr,e=⟨.cell ad,false,false⟩∧V ad.block:=by
 have hd:=dep k f hr;have m:i<9:=by rw[←te];exact(dv.1 f).1
 have f0:a.tmps[2]?=some (ptr B.bS):=k.fix (2,ptr B.bS) (by simp[pN]);have f1:a.tmps[5]?=some (ptr B.bC):=k.fix (5,ptr B.bC) (by simp[pN]);have f2:a.tmps[6]?=some (ptr B.bG):=k.fix (6,ptr B.bG) (by simp[pN]);have hS:=hF.s;have hC:=hF.c;have q:=hF.g;have hx:=hF.x;have h:=hF.vs;clear hr;obtain rfl|rfl|rfl|rfl|rfl|rfl|rfl|rfl|rfl:i=0∨i=1∨i=2∨i=3∨i=4∨i=5∨i=6∨i=7∨i=8:=by omega
 all_goals first|(exfalso;revert kp;decide)|skip
 all_goals
  simp only[kZ,oF,ra,po,Tryz.f35]at f hd;simp only[fV,gB,fW,dW]at f hd;subst f;simp[Region.binds,v10]at hd
 all_goals(refine⟨?_,?_⟩)
 all_goals unfold execOp
 all_goals simp only[Act.eval,v10,dA,hd,f0,f1,f2,eE,ptr]
 all_goals try simp only[v10]
 all_goals first|go_simp|trace_state
 all_goals first|exact h.1|exact h.2.1|exact h.2.2.1|exact h.2.2.2.1|exact h.2.2.2.2|done
section
variable {p:WI} {B:WB} {c:PC} {cs:List Frame} {d:JD} {J:Nat→me} {s:St} {w:World} [Scope]
variable {V W:Nat→Prop}
theorem DM.Dx{w':World}{es:Array Event}(h:DQ V w w' es):DM V W w w' es:=by
 obtain⟨⟨d,rfl⟩,f⟩:=h;exact⟨fun _ _=>rfl,rfl,rfl,fun e he=>by obtain⟨ad,k,m⟩:=f e he;exact⟨ad,false,k,m,by simp⟩⟩
def xn (p:WI) (B:WB) (V:Nat→Prop) (cs:List Frame) (g:Goroutine) (w:World):Prop :=
 MF p B V w∧∃a listed fuel t,mQ kZ (v10 p B undef) (pN B) 36 listed a∧7∈Region.ready .any kZ listed∧listed.getD 8 false=false∧mY kZ listed≤fuel+1 ∧
  g=G (wf.at a (.inRegion kZ (7::Region.linearise.go .any kZ fuel t (listed.setIfInBounds 7 true) [])::[.code .ret])) cs
variable {a:Act}
theorem KU(p:WI)(B:WB)(hd:a.defers=[])(f:a.tmps.size=36)(h:a.tmps[2]?=some (ptr B.bS))(k:a.tmps[5]?=some (ptr B.bC))(m:a.tmps[6]?=some (ptr B.bG)):mQ kZ (v10 p B undef) (pN B) 36 (Array.replicate kZ.size false) a where
 defers:=hd
 size:=f
 fix:=fun x hx=>by
  simp only[pN,fN,fO,fP]at hx;rcases hx with rfl|rfl|rfl<;>assumption
 val:=fun i o d _ e=>by
  simp[dA,dz]at e;split at e<;>simp at e
 kR:=by simp
 qC:=fun i o _ e=>by
  simp[dA,dz]at e;split at e<;>simp at e
theorem KV{val:Nat→Value}{fix:List (Nat×Value)}{T:Nat}{listed:Array Bool}(k:mQ kZ val fix T listed a)(hr:8∈Region.ready .any kZ listed):listed.getD 7 false=true:=by
 obtain⟨_,o,f,h⟩:=gh.1 hr;have e:kZ[8]?=some o:=f;simp only[kZ,oF,ra,po,Tryz.f35,fV,gB,fW,dW]at e;subst e;simp[Region.binds]at h;simp only[dA];exact h.1
theorem KW(hF:MF p B V w)(hd:a.defers=[])(q:a.tmps.size=36)(F:a.tmps[2]?=some (ptr B.bS))(H:a.tmps[5]?=some (ptr B.bC))(I:a.tmps[6]?=some (ptr B.bG)):Goes Tryz.prog true (RK Tryz.link.tWg B.Wg V) (DM V W) (xn p B V cs) 12 (G (wf.at a [.inRegion xm [],.code oF]) cs) w:=by
 (refine MF.cl hF rfl (fun _=>stepG_region_end) ?_;clear hF;intro _ hF);simp only[oF,ra,po,Tryz.f35]
 (refine MF.cl hF rfl (fun _=>stepG_seq) ?_;clear hF;intro _ hF)
 (refine gx rfl (fun _ e=>?_);replace hF:=MF.keep hF (RK.keep e);clear e);rw[stepG_region_draw];simp only[fA];refine⟨DM.drew,?_⟩;have key:∀(w2:World)(m:Bool)(t:Nat),MF p B V w2→Goes Tryz.prog true (RK Tryz.link.tWg B.Wg V) (DM V W) (xn p B V cs) 9 (G (wf.at a [.inRegion kZ (Region.schedule m kZ t),.code .ret]) cs) w2:=fun w2 m t u=>by
  have hw:=wV (P:=Tryz.prog) (mn:=true) (R:=RK Tryz.link.tWg B.Wg V) (S:=V) (ops:=kZ) (val:=v10 p B undef) (fix:=pN B) (T:=36) (sp:=yw) (L0:=fun _=>false) (Sok:=MF p B V) (b:=wf) (k:=[.code .ret]) (cs:=cs)
   RK.trans (fun w w₁ h hF=>hF.keep h.keep) Av (by decide) Dw kZ.size t _ a w2 (KU p B hd q F H I) (fun j _=>by simp[dA,dz];split<;>rfl) u (Dd _ _)
  rw[KT];unfold Region.linearise;rw[show kZ.size=9 from te]at hw ⊢;refine Goes.bind (m2:=0) RK.refl (fun g w0 q=>fQ fun w' h'=>?_) (Goes.vI (fun _ _ _ h=>DM.Dx h) hw);obtain⟨y,a,listed,E,C,⟨i,fuel,t',K,hr,hu,rfl⟩|⟨f,rfl⟩⟩:=q
  ·have D:i=7∨i=8:=by simpa[yw]using K
   rcases D with rfl|rfl
   ·exact⟨y.keep h'.keep,a,listed,fuel,t',E,hr,C 8 rfl,hu,rfl⟩
   ·have:=KV E hr;rw[C 7 rfl]at this
    cases this
  ·have:=f 7 (by rw[te];decide);rw[C 7 rfl]at this
   cases this
 exact key _ _ _ (hF.keep fun _ _=>rfl)
end
end
section
open Go.Conc Go.ConcN Go.Conc.Lib Go.ConcR.Gen Go.ConcN.Gen Go.Proofs.YtjnkcibpkkjniaaGreat.kx
open Go.ConcR (KK wgBlock WgAt stA smA rd wr mk DC0)
variable [Scope]
section
variable {p:WI} {B:WB} {c:PC} {cs:List Frame} {J:Nat→me} {s:St} {w:World}
theorem KX[kD Tryz.prog][lV Tryz.prog](D:(PX p B c J).Good)(u:c.Sc=rD B.bG)(F:c.mw=uP B.Wg B.bG B.CF){v8 v22 v23 v24 v25 v26:Value}(h:At (PX p B c J) s w (head p B p.xl v8 v22 v23 v24 v25 v26 cs))(kp:s.tag=.sp)(hp:s.p=0)(hd:s.d0=0)(Y:s.j=p.xl)(hF:MF p B s.V w):∃s' w' a',At (PX p B c J) s' w' a'∧xn p B s'.V cs a' w'∧s'.j=p.xl∧s'.d0=0∧s'.tag≠.sp∧s'.got=s.got∧nY s s' w w':=by
 obtain⟨s1,w1,a1,Z,q1,r1⟩:=h.walk D (fun g w k=>by rw[k.2];rfl) (KL (W:=s.W) (cs:=cs) (v8:=v8) (v22:=v22) (v23:=v23) (v24:=v24) (v25:=v25) (v26:=v26) hF);obtain⟨f1,rfl⟩:=q1 w1 (RK.refl _);have k1:=(nY.refl s w).same r1.V r1.W r1.heap;rw[←r1.V]at f1;obtain⟨s2,w2,a2,H,q2,r2⟩:=Z.walk D (fun g w k=>by rw[k.2];rfl) (KS (W:=s1.W) (cs:=cs) f1);obtain⟨f2,rfl⟩:=q2 w2 (RK.refl _);have k2:=k1.same r2.V r2.W r2.heap;rw[←r2.V]at f2;have I:B.bG≠B.Wg:=(H.facts.2 _ f2.vs.2.2.2.1).2.1;obtain⟨E,w3,a3,h3,q3,K,aa,L,M,O,R,S,y⟩:=H.Ks D rfl ((r2.sp.trans r1.sp).2 kp) (r2.p.trans (r1.p.trans hp)) (r2.d0.trans (r1.d0.trans hd)) (r2.j.trans (r1.j.trans Y)) (fun b hb=>by
   have C:c.Sc b:=hb;rw[u]at C;obtain rfl:b=B.bG:=C;exact f2.vs.2.2.2.1)
  (Post:=fun g w=>g=G (wf.at ⟨(LT p B (.int .i64 p.xl) v8 (.bool false) v23 v24 v25 v26).setIfInBounds 27 (nk 61 #[box B.Wg,box B.bG]),[]⟩ [.inRegion xm [],.code oF]) cs)
  (fun w₁ m=>⟨_,_,Dv (b:=wf) (ops:=xm) (i:=1) (f:=61) (caps:=#[box B.Wg,box B.bG]) (x:=.tmp 27) rfl rfl (by decide) rfl rfl,⟨7,by
   show Goes Tryz.prog false (RK Tryz.link.tWg B.Wg c.Sc) (DQ c.Sc) (oT Tryz.prog false (RK Tryz.link.tWg B.Wg c.Sc) (mk .disable) c.mw) 7 _ w₁;rw[u,F];exact KH I (f2.keep m.keep).g (m.live H.facts.1)⟩,rfl⟩)
 subst q3;have U:E.V=s2.V:=M;have k3:nY s E w w3:=⟨fun b k=>by rw[U];exact k2.V b k,fun b k k'=>by rw[O]at k';exact k2.W b k k'.1,fun b k k'=>(y b (k2.V b k)).trans (k2.heap b k k')⟩;have f3:MF p B E.V w3:=by rw[U];exact f2.keep y
 obtain⟨s4,w4,a4,h4,q4,q⟩:=h3.walk D (fun g w k=>by obtain⟨_,a,l,fu,t,_,_,_,_,e⟩:=k;rw[e];rfl) (KW (W:=E.W) (cs:=cs) f3 rfl (by simp[LT]) rfl rfl rfl);refine⟨s4,w4,a4,h4,?_,q.j.trans K,q.d0.trans L,fun e=>R (q.sp.1 e),q.got.trans (S.trans (r2.got.trans r1.got)),k3.same q.V q.W q.heap⟩;rw[q.V];exact q4 w4 (RK.refl _)
end
end
section
open Go.Conc Go.ConcN Go.Conc.Lib Go.ConcR.Gen Go.ConcN.Gen Go.Proofs.YtjnkcibpkkjniaaGreat.kx
open Go.ConcR (KK wgBlock WgAt stA smA rd wr mk DC0)
section
variable {P:Program} {main:Bool} {b:Frame} {a:Act} {kk:List Item} {cs:List Frame} {w:World} {ops:Array Oper} {i:Nat} {rest:List Nat} {o:Oper}
theorem KY{t e:TypeId}{f:TypeInfo}{z:Value}{x:Operand}{n:Nat}(y:ops[i]?=some o)(hw:Region.wanted o (yielded ops a.tmps)=true)(C:b.kind≠.early)(k:o.op=.makeSlice t x x)(hx:a.eval x=.int .i64 n)(m:P.underlying t=some (.slice e))(h:P.info? e=some f)(u:f.zero=some z)(E:f.bytes*n≤140737488355328)(D:n<9223372036854775808):stepG P main (G (b.at a (.inRegion ops (i::rest)::kk)) cs) w=.go (G (b.at (a.put o.dst (.slice (some ⟨w.heap.size,0,none⟩) n n)) (.inRegion ops rest::kk)) cs) (w.alloc (.cells (madeCells z.cells (n*f.size)) e)) #[]:=by
 simp only[Act.eval,dA]at hx;have F:(f.bytes:Int)*(n:Int)≤140737488355328:=by
  have e:((f.bytes:Int)*(n:Int))=((f.bytes*n:Nat):Int):=by simp
  rw[e];omega
 have hr:(execOp a.eval o).run P w=.ok (.value (.slice (some ⟨w.heap.size,0,none⟩) n n)) (w.alloc (.cells (madeCells z.cells (n*f.size)) e)):=by
  have:=run_make w t e f z m h u .i64 .i64 n n (by omega) (Int.le_refl _) (by omega) (by omega);simp only[Int.toNat_natCast]at this;unfold execOp;simp only[k];simp[go_sem,hx,this]
 have he:(execOp a.eval o).events P w #[]=#[]:=by
  have wl:IntKind.i64.wrap (n:Int)=n:=by rw[iC];omega
  have n1:¬((n:Int)<0):=by omega
  have n2:¬(281474976710656<(f.bytes:Int)*(n:Int)):=by omega
  have n3:¬(140737488355328<n*f.bytes):=by rw[dY];omega
  unfold execOp;simp only[k]
  by_cases q:n*f.size=0
  ·simp[go_sem,hx,Instr.makeSlice,iu m,asInt,asIntOf,typeInfo,h,sizeOf,wl,n1,n2,n3,q,newRow,askRoom,roomBytes]
  ·simp[go_sem,hx,Instr.makeSlice,iu m,asInt,asIntOf,typeInfo,h,sizeOf,zeroValue,u,wl,n1,n2,n3,newRow,askRoom,roomBytes]
 rw[gy y hw C hr,iq he]
end
noncomputable def pq:Code:=Tryz.f63.body.getD .skip
noncomputable def xp:Array Oper:=match pq with
 | .seq _ (.seq (.region _ ops _) _)=>ops
 |_=>#[]
noncomputable def pr:Code:=match pq with
 | .seq _ (.seq _ c)=>c
 |_=>.skip
noncomputable abbrev mZ:Frame:=base 63
noncomputable def yx (a:Act) (l:List Nat) (cs:List Frame):List Frame:=wf.at a (.inRegion kZ (7::l)::[.code .ret])::cs
theorem Aw:∃o e,kZ[7]?=some o∧o.dst=some 35∧o.op=.call { callee:=.value (.func 63),args:=#[.tmp 28,.tmp 29,.tmp 34],argTypes:=e }∧o.guard=none:=⟨_,_,rfl,rfl,rfl,rfl⟩
variable {p:WI} {B:WB}
theorem KZ{ret:Value}{listed:Array Bool}{a:Act}(h:mQ kZ (v10 p B ret) (pN B) 36 listed a)(hr:7∈Region.ready .any kZ listed):a.tmps[28]?=some (.chan (some B.CB))∧a.tmps[29]?=some (.chan (some B.CF))∧a.tmps[34]?=some (.int .i64 p.xl):=by
 obtain⟨o,k,f,m,q,u⟩:=Aw;have hd:=dep h f hr;have e:kZ[7]?=some o:=f;simp only[kZ,oF,ra,po,Tryz.f35,fV,gB,fW,dW]at e;subst e;exact⟨hd ⟨0,.data⟩ (by simp) (by rw[te];decide) rfl _ 28 (by rfl) rfl,hd ⟨1,.data⟩ (by simp) (by rw[te];decide) rfl _ 29 (by rfl) rfl,hd ⟨6,.data⟩ (by simp) (by rw[te];decide) rfl _ 34 (by rfl) rfl⟩
section
variable {p:WI} {B:WB} {V W:Nat→Prop} {cs:List Frame} {w:World}
theorem K0{g:Goroutine}(h:xn p B V cs g w):Goes Tryz.prog true (RK Tryz.link.tWg B.Wg V) (DM V W) (fun g w=>MF p B V w∧∃a listed fuel t,mQ kZ (v10 p B undef) (pN B) 36 listed a∧7∈Region.ready .any kZ listed∧listed.getD 8 false=false∧mY kZ listed≤fuel+1 ∧
   g=G (mZ.at ⟨#[.chan (some B.CB),.chan (some B.CF),.int .i64 p.xl,undef,undef,undef,.slice none 0 0,undef,undef,undef,.int .i64 p.xl]++Array.replicate 28 undef,[]⟩ (.inRegion xp [1,2]::[.code pr])) (yx a (Region.linearise.go .any kZ fuel t (listed.setIfInBounds 7 true) []) cs)) 12 g w:=by
 obtain⟨hF,a,listed,fuel,t,H,hr,I,hu,rfl⟩:=h;obtain⟨u,y,C⟩:=KZ H hr;obtain⟨o,L,M,R,D,O⟩:=Aw
 (refine gx rfl (fun _ f=>?_);replace hF:=MF.keep hF (RK.keep f);clear f);refine fz (c:=pq) M (by simp[Region.wanted,O]) (by decide) D Tryz.func63 rfl rfl ⟨DM.nil,?_⟩;have k:#[Operand.tmp 28,Operand.tmp 29,Operand.tmp 34].map a.eval=#[.chan (some B.CB),.chan (some B.CF),.int .i64 p.xl]:=by
  simp[Act.eval,dA,u,y,C]
 rw[k];simp only[pq,Tryz.f63,eE];walk_nrm
 (refine MF.cl hF rfl (fun _=>stepG_seq) ?_;clear hF;intro _ hF)
 (refine MF.cl hF rfl (fun _=>fy) ?_;clear hF;intro _ hF;simp only[gF,gG,gH,Nat.reduceAdd,dG,List.range,List.range.loop])
 (refine MF.op hF rfl rfl (by decide) ?_;clear hF;intro _ hF K m;have E:=MF.s hF;have F:=MF.x hF;have q:=MF.vs hF;(try simp only[ptr]at *);go_simp;refine m _ (fun e hm=>?_) ?_;(focus(clear m;simp[go_sem, *]at hm;(try(subst hm;exact⟨_,_,rfl,by simp[q],by simp⟩))));clear m K E F q)
 (refine MF.cl hF rfl (fun _=>stepG_region_end) ?_;clear hF;intro _ hF)
 (refine MF.cl hF rfl (fun _=>stepG_seq) ?_;clear hF;intro _ hF)
 (refine MF.cl hF rfl (fun _=>fy) ?_;clear hF;intro _ hF;simp only[gF,gG,gH,Nat.reduceAdd,dG,List.range,List.range.loop])
 (refine MF.op hF rfl rfl (by decide) ?_;clear hF;intro _ hF K m;have E:=MF.s hF;have F:=MF.x hF;have q:=MF.vs hF;(try simp only[ptr]at *);go_simp;refine m _ (fun e hm=>?_) ?_;(focus(clear m;simp[go_sem, *]at hm;(try(subst hm;exact⟨_,_,rfl,by simp[q],by simp⟩))));clear m K E F q);exact fQ fun w₁ f=>⟨hF.keep f.keep,a,listed,fuel,t,H,hr,by simpa[dA]using I,hu,rfl⟩
end
noncomputable def nn:Code:=match pr with
 | .block _ (.loop c)=>c
 |_=>.skip
noncomputable def rI:Array Oper:=match nn with
 | .block _ (.seq _ (.seq (.region _ ops _) _))=>ops
 |_=>#[]
noncomputable def oh:Code:=match nn with
 | .block _ (.seq _ (.seq _ c))=>c
 |_=>.skip
def kQ (p:WI) (RB:Nat):Value:=.slice (some ⟨RB,0,none⟩) p.xl p.xl
def GT (p:WI) (B:WB) (RB:Nat) (v8 Ax Ay v14 v15 v16 v17 v18 v19 v20 v21 v22 v23 v24:Value):Array Value :=
 #[.chan (some B.CB),.chan (some B.CF),.int .i64 p.xl,undef,undef,undef,.slice none 0 0,kQ p RB,v8,undef,.int .i64 p.xl,kQ p RB,Ax,Ay,v14,v15,v16,v17,v18,v19,v20,v21,v22,v23,v24,undef,undef,undef,undef,undef,undef,undef,undef,undef,undef,undef,undef,undef,undef]
noncomputable def tf (p:WI) (B:WB) (RB:Nat) (v8 Ax Ay v14 v15 v16 v17 v18 v19 v20 v21 v22 v23 v24:Value) (us:List Frame):Goroutine:=G (mZ.at ⟨GT p B RB v8 Ax Ay v14 v15 v16 v17 v18 v19 v20 v21 v22 v23 v24,[]⟩ [.code nn,.inLoop nn,.inBlock 0]) us
noncomputable def vP (p:WI) (B:WB) (RB:Nat) (v8 v14 v15 v16 v17 v18 v19 v20 v21 v22 v23 v24:Value) (us:List Frame):Goroutine:=G (mZ.at ⟨GT p B RB v8 (.chan (some B.CB)) (.chan (some B.CF)) v14 v15 v16 v17 v18 v19 v20 v21 v22 v23 v24,[]⟩ [.inRegion rI [0,1,2,3],.code oh,.inBlock 1,.inLoop nn,.inBlock 0]) us
section
variable {p:WI} {B:WB} {V W:Nat→Prop} {us:List Frame} {w:World}
variable {RB:Nat}
theorem K1(hF:MF p B V w):Goes Tryz.prog true (RK Tryz.link.tWg B.Wg V) (DM V W) (fun g w=>MF p B V w∧g=tf p B RB undef undef undef undef undef undef undef undef undef undef undef undef undef undef us) 12
   (G (mZ.at ⟨#[.chan (some B.CB),.chan (some B.CF),.int .i64 p.xl,undef,undef,undef,.slice none 0 0,undef,undef,undef,.int .i64 p.xl,kQ p RB,undef,undef,undef,undef,undef,undef,undef,undef,undef,undef,undef,undef,undef,undef,undef,undef,undef,undef,undef,undef,undef,undef,undef,undef,undef,undef,undef],[]⟩ (.inRegion xp [2]::[.code pr])) us) w:=by
 simp only[xp,pr,pq,Tryz.f63,eE]
 (refine MF.op hF rfl rfl (by decide) ?_;clear hF;intro _ hF K h;have m:=MF.s hF;have q:=MF.x hF;have k:=MF.vs hF;(try simp only[ptr]at *);go_simp;refine h _ (fun e hm=>?_) ?_;(focus(clear h;simp[go_sem, *]at hm;(try(subst hm;exact⟨_,_,rfl,by simp[k],by simp⟩))));clear h K m q k)
 (refine MF.cl hF rfl (fun _=>stepG_region_end) ?_;clear hF;intro _ hF)
 (refine MF.cl hF rfl (fun _=>stepG_block) ?_;clear hF;intro _ hF)
 (refine MF.cl hF rfl (fun _=>stepG_loop) ?_;clear hF;intro _ hF);exact fQ fun w₁ f=>⟨hF.keep f.keep,rfl⟩
theorem K3{v8 m q v14 v15 v16 v17 v18 v19 v20 v21 v22 v23 v24:Value}(hF:MF p B V w):Goes Tryz.prog true (RK Tryz.link.tWg B.Wg V) (DM V W) (fun g w=>MF p B V w∧g=vP p B RB v8 v14 v15 v16 v17 v18 v19 v20 v21 v22 v23 v24 us) 14
   (tf p B RB v8 m q v14 v15 v16 v17 v18 v19 v20 v21 v22 v23 v24 us) w:=by
 simp only[tf,GT,nn,pr,pq,Tryz.f63,eE]
 (refine MF.cl hF rfl (fun _=>stepG_block) ?_;clear hF;intro _ hF)
 (refine MF.cl hF rfl (fun _=>stepG_seq) ?_;clear hF;intro _ hF)
 (refine MF.cl hF rfl (fun _=>stepG_seq) ?_;clear hF;intro _ hF)
 (refine MF.cl hF rfl (fun _=>fy) ?_;clear hF;intro _ hF;simp only[gF,gG,gH,Nat.reduceAdd,dG,List.range,List.range.loop])
 (refine MF.op hF rfl rfl (by decide) ?_;clear hF;intro _ hF K f;have u:=MF.s hF;have y:=MF.x hF;have h:=MF.vs hF;(try simp only[ptr]at *);go_simp;refine f _ (fun e hm=>?_) ?_;(focus(clear f;simp[go_sem, *]at hm;(try(subst hm;exact⟨_,_,rfl,by simp[h],by simp⟩))));clear f K u y h)
 (refine MF.cl hF rfl (fun _=>stepG_region_end) ?_;clear hF;intro _ hF)
 (refine MF.cl hF rfl (fun _=>fy) ?_;clear hF;intro _ hF;simp only[gF,gG,gH,Nat.reduceAdd,dG,List.range,List.range.loop])
 (refine MF.op hF rfl rfl (by decide) ?_;clear hF;intro _ hF K f;have u:=MF.s hF;have y:=MF.x hF;have h:=MF.vs hF;(try simp only[ptr]at *);go_simp;refine f _ (fun e hm=>?_) ?_;(focus(clear f;simp[go_sem, *]at hm;(try(subst hm;exact⟨_,_,rfl,by simp[h],by simp⟩))));clear f K u y h)
 (refine MF.cl hF rfl (fun _=>stepG_region_end) ?_;clear hF;intro _ hF)
 (refine MF.cl hF rfl (fun _=>stepG_seq) ?_;clear hF;intro _ hF)
 (refine MF.cl hF rfl (fun _=>fy) ?_;clear hF;intro _ hF;simp only[gF,gG,gH,Nat.reduceAdd,dG,List.range,List.range.loop]);exact fQ fun w₁ k=>⟨hF.keep k.keep,rfl⟩
theorem Dy:∃o,rI[0]?=some o∧o.dst=some 14∧o.op=.select #[{ chan:=.tmp 12,send:=none,elem:=155 },{ chan:=.tmp 13,send:=none,elem:=143 }] true∧o.guard=none:=⟨_,rfl,rfl,rfl,rfl⟩
end
def mh:Value:=.agg #[.int .i64 0,.slice none 0 0,.bool false]
def ot:Value:=.agg #[]
variable {RB:Nat} {v8 v14 v15 v16 v17 v18 v19 v20 v21 v22 v23 v24:Value} {us:List Frame}
theorem K4(w:World):stepG Tryz.prog true (vP p B RB v8 v14 v15 v16 v17 v18 v19 v20 v21 v22 v23 v24 us) w=.comm (vP p B RB v8 v14 v15 v16 v17 v18 v19 v20 v21 v22 v23 v24 us) #[rcase B.CB mh,rcase B.CF ot] true .select w #[]:=by
 obtain⟨o,q,y,e,u⟩:=Dy;have f:=Tryz.zeroValue155;have h:=Tryz.zeroValue143;have k:=fun w es=>td (P:=Tryz.prog) (t:=155) (by kernel_rfl) w es
 have m:=fun w es=>td (P:=Tryz.prog) (t:=143) (by kernel_rfl) w es
 unfold vP;have hr:(execOp (Act.eval ⟨GT p B RB v8 (.chan (some B.CB)) (.chan (some B.CF)) v14 v15 v16 v17 v18 v19 v20 v21 v22 v23 v24,[]⟩) o).run Tryz.prog w=.ok (.comm #[rcase B.CB mh,rcase B.CF ot] true .select) w:=by
  unfold execOp;simp[e,f,h,Act.eval,GT,rcase,mh,ot]
 have he:(execOp (Act.eval ⟨GT p B RB v8 (.chan (some B.CB)) (.chan (some B.CF)) v14 v15 v16 v17 v18 v19 v20 v21 v22 v23 v24,[]⟩) o).events Tryz.prog w #[]=#[]:=by
  unfold execOp;simp[e,f,k,m,Act.eval,GT]
 rw[stepG_comm q (by simp[Region.wanted,u]) (by decide) hr,iq he]
theorem DC{P:Program}(k:Nat)(v:Value)(ok:Bool):(vP p B RB v8 v14 v15 v16 v17 v18 v19 v20 v21 v22 v23 v24 us).finishComm P #[rcase B.CB mh,rcase B.CF ot] .select (k:Nat) v ok =
   G (mZ.at ⟨GT p B RB v8 (.chan (some B.CB)) (.chan (some B.CF)) (commResult #[rcase B.CB mh,rcase B.CF ot] .select (k:Nat) v ok) v15 v16 v17 v18 v19 v20 v21 v22 v23 v24,[]⟩ [.inRegion rI [1,2,3],.code oh,.inBlock 1,.inLoop nn,.inBlock 0]) us:=by
 obtain⟨o,e,f,h,m⟩:=Dy;unfold Goroutine.finishComm vP;simp only[G];rw[ft,e];simp only[ed,f];rfl
theorem K7(v:Value):commResult #[rcase B.CB mh,rcase B.CF ot] .select ((0:Nat):Int) v true=.tuple #[.int .i64 0,.bool true,v,ot]:=by
 simp[commResult,rcase,goInt,Array.zipIdx,Array.filter,ot]
 try rfl
theorem K8(v:Value):commResult #[rcase B.CB mh,rcase B.CF ot] .select ((1:Nat):Int) v false=.tuple #[.int .i64 1,.bool false,mh,v]:=by
 simp[commResult,rcase,goInt,Array.zipIdx,Array.filter,mh]
 try rfl
noncomputable def vQ:Array Oper:=match oh with
 | .block _ (.cond _ (.seq (.region _ ops _) _) _)=>ops
 |_=>#[]
noncomputable def tT:Array Oper:=match oh with
 | .block _ (.cond _ (.seq _ (.region _ ops _)) _)=>ops
 |_=>#[]
noncomputable def tU:List Item:=[.inBlock 2,.inBlock 1,.inLoop nn,.inBlock 0]
section
variable {p:WI} {B:WB} {V W:Nat→Prop} {us:List Frame} {w:World}
theorem K9{RB:Nat}{v v8 v15 v16 v17 v18 v19 v20 v21 v22 v23 v24:Value}(hF:MF p B V w):Goes Tryz.prog true (RK Tryz.link.tWg B.Wg V) (DM V W) (fun g w=>MF p B V w∧g=G (mZ.at ⟨GT p B RB v8 (.chan (some B.CB)) (.chan (some B.CF)) (.tuple #[.int .i64 0,.bool true,v,ot]) (.int .i64 0) (.bool true) (.bool false) v v19 v20 v21 v22 v23 v24,[]⟩ (.inRegion vQ [1,2]::.code (.region 6 tT false)::tU)) us) 14
   (G (mZ.at ⟨GT p B RB v8 (.chan (some B.CB)) (.chan (some B.CF)) (.tuple #[.int .i64 0,.bool true,v,ot]) v15 v16 v17 v18 v19 v20 v21 v22 v23 v24,[]⟩ [.inRegion rI [1,2,3],.code oh,.inBlock 1,.inLoop nn,.inBlock 0]) us) w:=by
 simp only[GT,rI,oh,vQ,tT,tU,nn,pr,pq,Tryz.f63,eE]
 (refine MF.op hF rfl rfl (by decide) ?_;clear hF;intro _ hF K f;have m:=MF.s hF;have q:=MF.x hF;have k:=MF.vs hF;(try simp only[ptr]at *);go_simp;refine f _ (fun e hm=>?_) ?_;(focus(clear f;simp[go_sem, *]at hm;(try(subst hm;exact⟨_,_,rfl,by simp[k],by simp⟩))));clear f K m q k)
 (refine MF.op hF rfl rfl (by decide) ?_;clear hF;intro _ hF K f;have m:=MF.s hF;have q:=MF.x hF;have k:=MF.vs hF;(try simp only[ptr]at *);go_simp;refine f _ (fun e hm=>?_) ?_;(focus(clear f;simp[go_sem, *]at hm;(try(subst hm;exact⟨_,_,rfl,by simp[k],by simp⟩))));clear f K m q k)
 (refine MF.op hF rfl rfl (by decide) ?_;clear hF;intro _ hF K f;have m:=MF.s hF;have q:=MF.x hF;have k:=MF.vs hF;(try simp only[ptr]at *);go_simp;refine f _ (fun e hm=>?_) ?_;(focus(clear f;simp[go_sem, *]at hm;(try(subst hm;exact⟨_,_,rfl,by simp[k],by simp⟩))));clear f K m q k)
 (refine MF.cl hF rfl (fun _=>stepG_region_end) ?_;clear hF;intro _ hF)
 (refine MF.cl hF rfl (fun _=>stepG_block) ?_;clear hF;intro _ hF)
 (refine gx rfl (fun _ h=>?_);replace hF:=MF.keep hF (RK.keep h);clear h);rw[fw (t:=true) rfl];simp only[fA,dn];refine⟨DM.nil,?_⟩
 (refine MF.cl hF rfl (fun _=>stepG_seq) ?_;clear hF;intro _ hF)
 (refine MF.cl hF rfl (fun _=>fy) ?_;clear hF;intro _ hF;simp only[gF,gG,gH,Nat.reduceAdd,dG,List.range,List.range.loop])
 (refine MF.op hF rfl rfl (by decide) ?_;clear hF;intro _ hF K f;have m:=MF.s hF;have q:=MF.x hF;have k:=MF.vs hF;(try simp only[ptr]at *);go_simp;refine f _ (fun e hm=>?_) ?_;(focus(clear f;simp[go_sem, *]at hm;(try(subst hm;exact⟨_,_,rfl,by simp[k],by simp⟩))));clear f K m q k);exact fQ fun w₁ h=>⟨hF.keep h.keep,rfl⟩
end
theorem yy(P:Program)(w:World)(es:Array Event)(a:Addr)(m:Go.Mode)(b:Option Addr)(l c:Nat):(store a (.slice b l c) m).events P w es=storedEv P w es a (.slice b l c) m:=events_store P w es a _ m rfl
theorem yz(P:Program)(w:World)(es:Array Event)(a:Addr)(m:Go.Mode)(b:Bool):(store a (.bool b) m).events P w es=storedEv P w es a (.bool b) m:=events_store P w es a _ m rfl
section
variable {p:WI} {B:WB} {V W:Nat→Prop} {us:List Frame} {w:World}
theorem La{RB DB:Nat}{i:Nat}(H:i<p.xl)(D:DB≠B.bS∧DB≠B.bN∧DB≠B.bC∧DB≠B.bG∧DB≠p.sp){sa:Option Addr}{sl sc:Nat}{sb:Bool}{v14 v15 v16 v17 v19 v20 v21 v22 v23 v24:Value}(hW:W DB)(hF:kE p B V DB (.cells mh.cells 155) w):Goes Tryz.prog true (RK Tryz.link.tWg B.Wg V) (DM V W) (fun g w=>kE p B V DB (.cells #[.int .i64 i,.slice sa sl sc,.bool sb] 155) w∧g=G (mZ.at ⟨GT p B RB (ptr DB) (.chan (some B.CB)) (.chan (some B.CF)) v14 v15 v16 v17 (.agg #[.int .i64 i,.slice sa sl sc,.bool sb]) (kQ p RB) (ptr DB) (.int .i64 i) (.pointer (some ⟨DB,1,none⟩)) (.agg #[.slice sa sl sc,.bool sb]) (.pointer (some ⟨RB,i*2,none⟩)),[]⟩ (.inRegion tT [6]::tU)) us) 14
   (G (mZ.at ⟨GT p B RB (ptr DB) (.chan (some B.CB)) (.chan (some B.CF)) v14 v15 v16 v17 (.agg #[.int .i64 i,.slice sa sl sc,.bool sb]) v19 v20 v21 v22 v23 v24,[]⟩ (.inRegion vQ [2]::.code (.region 6 tT false)::tU)) us) w:=by
 simp only[GT,oh,vQ,tT,tU,nn,pr,pq,Tryz.f63,eE]
 (refine gx rfl (fun _ y=>?_);replace hF:=kE.keep hF (RK.keep y);clear y);refine gC rfl rfl (by decide) (fun K h=>?_);have k:=cell_of hF.o 0;have m:=cell_of hF.o 1;have q:=cell_of hF.o 2;have E:=rF hF.o 0;have z1:=rF hF.o 1;have z2:=rF hF.o 2;simp[mh,Value.cells]at k m q;simp only[ptr];go_simp;refine h _ _ ⟨⟨fun b hb=>?_,by simp[World.setCell],rfl,fun e he=>?_⟩,?_⟩
 ·have u:DB≠b:=fun e=>hb (e▸hW)
  rw[oW u,oW u,oW u]
 ·clear h;have hm:=gz he;simp[go_sem,ptr,yy,yz,storedEv, *]at hm;rcases hm with rfl|rfl|rfl<;>exact⟨_,_,rfl,hF.v,fun _=>hW⟩
 clear h K k m q E z1 z2;have hF:=(⟨hF.f.Au (b:=DB) D (fun x hx=>by
   have u:DB≠x:=dJ hx;rw[oW u,oW u,oW u]),hF.v,rG (rG (rG hF.o 0 (.int .i64 i)) 1 (.slice sa sl sc)) 2 (.bool sb)⟩:kE p B V DB _ _)
 simp only[mh,Value.cells,iz,iB,iA]at hF
 (refine kE.cl hF rfl (fun _=>stepG_region_end) ?_;clear hF;intro _ hF)
 (refine kE.cl hF rfl (fun _=>fy) ?_;clear hF;intro _ hF;simp only[gF,gG,gH,Nat.reduceAdd,dG,List.range,List.range.loop]);have F:(i:Int)<(p.xl:Int):=by omega
 (refine kE.op hF rfl rfl (by decide) ?_;clear hF;intro _ hF K h;have k:=cell_of (kE.o hF) 0;have m:=cell_of (kE.o hF) 1;have q:=cell_of (kE.o hF) 2;have C:=cell_of (kE.o hF) 3;simp at k m q;(try simp only[ptr,kQ]);go_simp;refine h _ (fun e hm=>?_) ?_;(focus(clear h;simp[go_sem,ptr,kQ, *]at hm;(try(subst hm;exact⟨_,_,rfl,kE.v hF,by simp⟩));(try(rcases hm with rfl|rfl|rfl<;>exact⟨_,_,rfl,kE.v hF,by simp⟩))));clear h K k m q C)
 (refine kE.op hF rfl rfl (by decide) ?_;clear hF;intro _ hF K h;have k:=cell_of (kE.o hF) 0;have m:=cell_of (kE.o hF) 1;have q:=cell_of (kE.o hF) 2;have C:=cell_of (kE.o hF) 3;simp at k m q;(try simp only[ptr,kQ]);go_simp;refine h _ (fun e hm=>?_) ?_;(focus(clear h;simp[go_sem,ptr,kQ, *]at hm;(try(subst hm;exact⟨_,_,rfl,kE.v hF,by simp⟩));(try(rcases hm with rfl|rfl|rfl<;>exact⟨_,_,rfl,kE.v hF,by simp⟩))));clear h K k m q C)
 (refine kE.op hF rfl rfl (by decide) ?_;clear hF;intro _ hF K h;have k:=cell_of (kE.o hF) 0;have m:=cell_of (kE.o hF) 1;have q:=cell_of (kE.o hF) 2;have C:=cell_of (kE.o hF) 3;simp at k m q;(try simp only[ptr,kQ]);go_simp;refine h _ (fun e hm=>?_) ?_;(focus(clear h;simp[go_sem,ptr,kQ, *]at hm;(try(subst hm;exact⟨_,_,rfl,kE.v hF,by simp⟩));(try(rcases hm with rfl|rfl|rfl<;>exact⟨_,_,rfl,kE.v hF,by simp⟩))));clear h K k m q C)
 (refine kE.op hF rfl rfl (by decide) ?_;clear hF;intro _ hF K h;have k:=cell_of (kE.o hF) 0;have m:=cell_of (kE.o hF) 1;have q:=cell_of (kE.o hF) 2;have C:=cell_of (kE.o hF) 3;simp at k m q;(try simp only[ptr,kQ]);go_simp;refine h _ (fun e hm=>?_) ?_;(focus(clear h;simp[go_sem,ptr,kQ, *]at hm;(try(subst hm;exact⟨_,_,rfl,kE.v hF,by simp⟩));(try(rcases hm with rfl|rfl|rfl<;>exact⟨_,_,rfl,kE.v hF,by simp⟩))));clear h K k m q C)
 (refine kE.op hF rfl rfl (by decide) ?_;clear hF;intro _ hF K h;have k:=cell_of (kE.o hF) 0;have m:=cell_of (kE.o hF) 1;have q:=cell_of (kE.o hF) 2;have C:=cell_of (kE.o hF) 3;simp at k m q;(try simp only[ptr,kQ]);go_simp;refine h _ (fun e hm=>?_) ?_;(focus(clear h;simp[go_sem,ptr,kQ, *]at hm;(try(subst hm;exact⟨_,_,rfl,kE.v hF,by simp⟩));(try(rcases hm with rfl|rfl|rfl<;>exact⟨_,_,rfl,kE.v hF,by simp⟩))));clear h K k m q C)
 (refine kE.op hF rfl rfl (by decide) ?_;clear hF;intro _ hF K h;have k:=cell_of (kE.o hF) 0;have m:=cell_of (kE.o hF) 1;have q:=cell_of (kE.o hF) 2;have C:=cell_of (kE.o hF) 3;simp at k m q;(try simp only[ptr,kQ]);go_simp;refine h _ (fun e hm=>?_) ?_;(focus(clear h;simp[go_sem,ptr,kQ, *]at hm;(try(subst hm;exact⟨_,_,rfl,kE.v hF,by simp⟩));(try(rcases hm with rfl|rfl|rfl<;>exact⟨_,_,rfl,kE.v hF,by simp⟩))));clear h K k m q C);exact fQ fun w₁ y=>⟨hF.keep y.keep,rfl⟩
end
section
variable {p:WI} {B:WB} {V W:Nat→Prop} {us:List Frame} {w:World}
theorem Lb{RB DB:Nat}{i:Nat}{rep:Array Value}(D:i<p.xl)(hsz:rep.size=p.xl*2)(q:RB≠B.bS∧RB≠B.bN∧RB≠B.bC∧RB≠B.bG∧RB≠p.sp){sa:Option Addr}{sl sc:Nat}{sb:Bool}{v14 v15 v16 v17 v18 v19 v20 v21 v22:Value}(hW:W RB)(hF:kE p B V RB (.cells rep 140) w):Goes Tryz.prog true (RK Tryz.link.tWg B.Wg V) (DM V W) (fun g w=>kE p B V RB (.cells ((rep.setIfInBounds (i*2) (.slice sa sl sc)).setIfInBounds (i*2+1) (.bool sb)) 140) w ∧
    g=tf p B RB (ptr DB) (.chan (some B.CB)) (.chan (some B.CF)) v14 v15 v16 v17 v18 v19 v20 v21 v22 (.agg #[.slice sa sl sc,.bool sb]) (.pointer (some ⟨RB,i*2,none⟩)) us) 14
   (G (mZ.at ⟨GT p B RB (ptr DB) (.chan (some B.CB)) (.chan (some B.CF)) v14 v15 v16 v17 v18 v19 v20 v21 v22 (.agg #[.slice sa sl sc,.bool sb]) (.pointer (some ⟨RB,i*2,none⟩)),[]⟩ (.inRegion tT [6]::tU)) us) w:=by
 simp only[tf,GT,oh,tT,tU,nn,pr,pq,Tryz.f63,eE]
 (refine gx rfl (fun _ h=>?_);replace hF:=kE.keep hF (RK.keep h);clear h);refine gC rfl rfl (by decide) (fun K m=>?_);have u:=(cell_of hF.o (i*2)).trans (dw (by omega));have y:=(cell_of hF.o (i*2+1)).trans (dw (by omega));have C:=rF hF.o (i*2);have z1:=rF hF.o (i*2+1);go_simp;refine m _ _ ⟨⟨fun b hb=>?_,by simp[World.setCell],rfl,fun e he=>?_⟩,?_⟩
 ·have k:RB≠b:=fun e=>hb (e▸hW)
  rw[oW k,oW k]
 ·clear m;have hm:=gz he;simp[go_sem,ptr,yy,yz,storedEv, *]at hm;rcases hm with rfl|rfl<;>exact⟨_,_,rfl,hF.v,fun _=>hW⟩
 clear m K u y C z1;have hF:=(⟨hF.f.Au (b:=RB) q (fun x hx=>by
   have k:RB≠x:=dJ hx;rw[oW k,oW k]),hF.v,rG (rG hF.o (i*2) (.slice sa sl sc)) (i*2+1) (.bool sb)⟩:kE p B V RB _ _)
 (refine kE.cl hF rfl (fun _=>stepG_region_end) ?_;clear hF;intro _ hF)
 (refine kE.cl hF rfl (fun _=>stepG_inBlock) ?_;clear hF;intro _ hF)
 (refine kE.cl hF rfl (fun _=>stepG_inBlock) ?_;clear hF;intro _ hF)
 (refine kE.cl hF rfl (fun _=>stepG_inLoop) ?_;clear hF;intro _ hF);exact fQ fun w₁ h=>⟨hF.keep h.keep,rfl⟩
end
end
section
open Go.Conc Go.ConcN Go.Proofs.YtjnkcibpkkjniaaGreat.kx
variable [Scope]
theorem At.Lc{X:Ctx}{s:St}{w:World}{a:Goroutine}(h:At X s w a){i:Nat}(m:i∈s.got):(X.J i).ok (s.D i).v:=by
 obtain⟨n,gs,sl,t,f⟩:=h;have k:=(f.qG.list i).1 (gZ _ m);obtain⟨g,_,hw,_⟩:=f.qG.wk i k.1;have e:=k.2;generalize s.D i=d at hw e
 cases hw with
 |pre _ _=>simp at e
 |si _ _ _ _ _ _ _ _=>simp at e
 |post _ _=>simp at e
 |r0 _ h=>exact h.1
 |k1 _ h=>exact h.1
 |d1 _ h=>exact h.1
 |d2 _ h=>exact h.1
 |d3 _ h=>exact h.1
 |d4 _ h=>exact h.1
 |quit _ h=>exact h.1
end
section
open Go.Conc Go.ConcN Go.Conc.Lib Go.ConcR.Gen Go.ConcN.Gen Go.Proofs.YtjnkcibpkkjniaaGreat.kx
open Go.ConcR (KK wgBlock WgAt stA smA rd wr mk DC0)
theorem Goes.carry{P:Program}{ty:TypeId}{Wg:Nat}{V W D:Nat→Prop}{Stop:Goroutine→World→Prop}{b:Nat}{o:Obj}(C:V b)(hb:¬W b)(q:∀x,W x→D x):∀{m:Nat}{g:Goroutine}{w:World},w.heap[b]?=some o→Goes P true (RK ty Wg V) (DM V W) Stop m g w →
  Goes P true (RK ty Wg V) (DM V D) (fun g w=>Stop g w∧w.heap[b]?=some o) m g w:=by
 intro m
 induction m with
 |zero=>intro g w u h;exact fun w₁ f=>⟨h w₁ f,(f.keep b C).trans u⟩
 |succ m E =>
  intro g w u h;rcases h with h|⟨F,h⟩
  ·exact .inl fun w₁ f=>⟨h w₁ f,(f.keep b C).trans u⟩
  ·refine .inr ⟨F,fun w₁ f=>?_⟩;have:=h w₁ f;revert this
   cases stepG P true g w₁<;>simp only[GStep.goes,imp_self]
   rintro⟨⟨d1,d2,d3,d4⟩,x⟩;refine⟨⟨fun y G=>d1 y fun k=>G (q y k),d2,d3,fun e he=>?_⟩,E ((d1 b hb).trans ((f.keep b C).trans u)) x⟩;obtain⟨ad,wr,H,I,K⟩:=d4 e he;exact⟨ad,wr,H,I,fun k=>q _ (K k)⟩
def lay (rep:Array Value) (i:Nat) (sa:Option Addr) (sl sc:Nat) (sb:Bool) :Array Value:=(rep.setIfInBounds (i*2) (.slice sa sl sc)).setIfInBounds (i*2+1) (.bool sb)
section
variable [Scope] {p:WI} {B:WB} {c:PC} {us:List Frame} {J:Nat→me} {s:St} {w:World} {d:JD}
theorem Ld[kD Tryz.prog][lV Tryz.prog](Y:(PX p B c J).Good)(hJ:d.is p B J){RB:Nat}{rep:Array Value}{v8 O S v14 v15 v16 v17 v18 v19 v20 v21 v22 v23 v24:Value}(h:At (PX p B c J) s w (tf p B RB v8 O S v14 v15 v16 v17 v18 v19 v20 v21 v22 v23 v24 us))(ht:s.tag≠.sp)(hd:s.d0=0)(hF:MF p B s.V w)(hR:w.heap[RB]?=some (.cells rep 140))(aa:s.V RB)(ag:s.W RB)(ah:RB≠B.bS∧RB≠B.bN∧RB≠B.bC∧RB≠B.bG∧RB≠p.sp)(hsz:rep.size=p.xl*2):(∃i sa sl sc sb s' w' v8 O S v14 v15 v16 v17 v18 v19 v20 v21 v22 v23 v24,At (PX p B c J) s' w' (tf p B RB v8 O S v14 v15 v16 v17 v18 v19 v20 v21 v22 v23 v24 us)∧i<p.xl∧i ∉ s.got∧s'.got=s.got++[i]∧(s'.D i).v=.agg #[.slice sa sl sc,.bool sb] ∧
    w'.heap[RB]?=some (.cells (lay rep i sa sl sc sb) 140)∧s'.V RB∧s'.W RB∧s'.tag≠.sp∧s'.d0=0∧MF p B s'.V w'∧(∀k∈s.got,(s'.D k).v=(s.D k).v)∧nY s s' w w') ∨
   ∃s1 w1 s' w' v8 v15 v16 v17 v18 v19 v20 v21 v22 v23 v24,Same s s1 w w1∧MF p B s1.V w1∧w1.heap[RB]?=some (.cells rep 140) ∧
    vM (PX p B c J) s1 s' w1 (G (mZ.at ⟨GT p B RB v8 (.chan (some B.CB)) (.chan (some B.CF)) (.tuple #[.int .i64 1,.bool false,mh,ot]) v15 v16 v17 v18 v19 v20 v21 v22 v23 v24,[]⟩ [.inRegion rI [1,2,3],.code oh,.inBlock 1,.inLoop nn,.inBlock 0]) us) w':=by
 obtain⟨s1,w1,a1,h1,q1,r1⟩:=h.walk Y (fun g w k=>by rw[k.1.2];rfl) (Goes.carry (W:=fun x=>s.W x∧x≠RB) (b:=RB) aa (fun k=>k.2 rfl) (fun x k=>k.1) hR (K3 (us:=us) hF));obtain⟨⟨f1,rfl⟩,R1⟩:=q1 w1 (RK.refl _);rw[←r1.V]at f1;have ab:=h1.select Y rfl (fun e=>ht (r1.sp.1 e)) (r1.d0.trans hd) (z1:=mh) (z2:=ot) (fun w₁ _=>K4 w₁);rcases ab with⟨i,s2,w2,h2,hi,k2⟩|⟨s2,w2,ho⟩
 ·refine .inl ?_;have k1:=(nY.refl s w).same r1.V r1.W r1.heap;have k3:nY s s2 w w2:=k1.same k2.V k2.W fun b hb _=>k2.heap b hb
  have ai:=h2.Lc (i:=i) (by rw[k2.got];simp);obtain⟨S0,eJ⟩:=hJ i hi;have ad:(uU p B i (d.m i) (d.ρ i) (d.args i) (d.wS i) (d.R i) S0).ok (s2.D i).v:=by rw[←eJ];exact ai
  obtain⟨sa,sl,sc,sb,hv⟩:∃sa sl sc sb,(s2.D i).v=.agg #[.slice sa sl sc,.bool sb]:=ad;have ae:((PX p B c J).J i).msg (s2.D i).v=.agg #[.int .i64 i,.slice sa sl sc,.bool sb]:=by
   show(J i).msg (s2.D i).v=_;rw[eJ,hv];rfl
  have e:=DC (P:=Tryz.prog) (p:=p) (B:=B) (RB:=RB) (v8:=v8) (v14:=v14) (v15:=v15) (v16:=v16) (v17:=v17) (v18:=v18) (v19:=v19) (v20:=v20) (v21:=v21) (v22:=v22) (v23:=v23) (v24:=v24) (us:=us) 0 (.agg #[.int .i64 i,.slice sa sl sc,.bool sb]) true;rw[K7]at e;rw[ae]at h2;have h2:At (PX p B c J) s2 w2 _:=e▸h2;have H:s1.V RB:=by rw[r1.V];exact aa
  have I:s2.V RB:=by rw[k2.V];exact H
  have R2:=(k2.heap RB H).trans R1;have f2:MF p B s2.V w2:=by rw[k2.V];exact f1.keep k2.heap
  obtain⟨s3,w3,a3,h3,q3,y⟩:=h2.walk Y (fun g w k=>by rw[k.1.2];rfl) (Goes.carry (W:=fun x=>s2.W x∧x≠RB) (b:=RB) I (fun k=>k.2 rfl) (fun x k=>k.1) R2 (K9 (us:=us) f2));obtain⟨⟨f3,rfl⟩,R3⟩:=q3 w3 (RK.refl _);have k4:=k3.same y.V y.W y.heap;have C:s3.V RB:=by rw[y.V];exact I
  obtain⟨Z,w4,DB,h4,u⟩:=h3.new Y rfl (o:=.cells mh.cells 155) (a':=fun b=>G (mZ.at ⟨GT p B RB (ptr b) (.chan (some B.CB)) (.chan (some B.CF)) (.tuple #[.int .i64 0,.bool true,.agg #[.int .i64 i,.slice sa sl sc,.bool sb],ot]) (.int .i64 0) (.bool true) (.bool false) (.agg #[.int .i64 i,.slice sa sl sc,.bool sb]) v19 v20 v21 v22 v23 v24,[]⟩ (.inRegion vQ [2]::.code (.region 6 tT false)::tU)) us) (fun w₁=>by
   rw[yt (b:=mZ) (ops:=vQ) (i:=1) (elem:=155) rfl rfl (by decide) rfl Tryz.zeroValue155 (td (by kernel_rfl))];rfl)
  have k5:=k4.new u;have q:∀b,s3.V b→DB≠b:=fun b hb e=>u.out (e▸hb)
  rw[←y.V]at f3;have f4:MF p B Z.V w4:=by
   have:=f3.keep (w₁:=w4) u.heap;have v:∀b,s3.V b→Z.V b:=fun b hb=>by rw[u.V];exact .inl hb
   exact⟨this.s,this.n,this.c,this.g,this.id,this.x,v _ f3.vs.1,v _ f3.vs.2.1,v _ f3.vs.2.2.1,v _ f3.vs.2.2.2.1,v _ f3.vs.2.2.2.2⟩
  have R4:=(u.heap RB C).trans R3;have K:Z.V RB:=by rw[u.V];exact .inl C
  have aj:Z.V DB:=by rw[u.V];exact .inr rfl
  have ak:Z.W DB:=by rw[u.W];exact .inr rfl
  obtain⟨s5,w5,a5,h5,q5,E⟩:=h4.walk Y (fun g w k=>by rw[k.1.2];rfl) (Goes.carry (W:=fun x=>Z.W x∧x≠RB) (b:=RB) K (fun k=>k.2 rfl) (fun x k=>k.1) R4 (La (us:=us) (RB:=RB) hi ⟨q _ f3.vs.1,q _ f3.vs.2.1,q _ f3.vs.2.2.1,q _ f3.vs.2.2.2.1,q _ f3.vs.2.2.2.2⟩ ⟨ak,q _ C⟩ ⟨f4,aj,u.new⟩));obtain⟨⟨f5,rfl⟩,R5⟩:=q5 w5 (RK.refl _);have k6:=k5.same E.V E.W E.heap;have L:s5.V RB:=by rw[E.V];exact K
  have M:s5.W RB:=by rw[E.W,u.W,y.W,k2.W,r1.W];exact .inl ag
  have al:MF p B s5.V w5:=by rw[E.V];exact f5.f
  obtain⟨s6,w6,a6,h6,q6,F⟩:=h5.walk Y (fun g w k=>by rw[k.2];rfl) (Lb (us:=us) (DB:=DB) (W:=s5.W) hi hsz ah M ⟨al,L,R5⟩);obtain⟨f6,rfl⟩:=q6 w6 (RK.refl _);have k7:=k6.same F.V F.W F.heap;have hg:∀k∈s2.got,(s6.D k).v=(s2.D k).v:=fun k U=>(F.val k (by rw[E.got,u.got,y.got];exact U)).trans ((E.val k (by rw[u.got,y.got];exact U)).trans ((u.val k (by rw[y.got];exact U)).trans (y.val k U)))
  refine⟨i,sa,sl,sc,sb,s6,w6,_,_,_,_,_,_,_,_,_,_,_,_,_,_,h6,hi,by have:=k2.new;rw[r1.got]at this;exact this,by rw[F.got,E.got,u.got,y.got,k2.got,r1.got],by rw[hg i (by rw[k2.got];simp)];exact hv,f6.o,by rw[F.V];exact L,by rw[F.W];exact M,fun e=>ht ((F.sp.trans (E.sp.trans (u.sp.trans (y.sp.trans (k2.sp.trans r1.sp))))).1 e),F.d0.trans (E.d0.trans (u.d0.trans (y.d0.trans (k2.d0.trans (r1.d0.trans hd))))),by rw[F.V];exact f6.f,fun k U=>?_,k7⟩;have af:k∈s1.got:=by rw[r1.got];exact U
  exact(hg k (by rw[k2.got];exact gZ _ af)).trans ((k2.val k af).trans (r1.val k U))
 ·refine .inr ⟨s1,w1,s2,w2,v8,v15,v16,v17,v18,v19,v20,v21,v22,v23,v24,r1,f1,R1,?_⟩;have e:=DC (P:=Tryz.prog) (p:=p) (B:=B) (RB:=RB) (v8:=v8) (v14:=v14) (v15:=v15) (v16:=v16) (v17:=v17) (v18:=v18) (v19:=v19) (v20:=v20) (v21:=v21) (v22:=v22) (v23:=v23) (v24:=v24) (us:=us) 1 ot false;rw[K8]at e;rw[←e];exact ho
end
def left (n:Nat) (l:List Nat):Nat:=((List.range n).filter fun i=>!l.contains i).length
variable {i:Nat}
theorem Le{n:Nat}{l:List Nat}(k:i<n)(m:i ∉ l):left n (l++[i])<left n l:=by
 unfold left;have f:((List.range n).filter fun j=>!(l++[i]).contains j)=((List.range n).filter fun j=>!l.contains j).filter (fun j=>decide (j≠i)):=by
  rw[List.filter_filter];refine List.filter_congr fun j _=>?_
  by_cases e:j=i<;>simp[e]
 rw[f];have h:i∈(List.range n).filter fun j=>!l.contains j:=gi.2 ⟨gg.2 k,by simpa using m⟩
 refine Nat.lt_of_le_of_ne (gj _ _) fun e=>?_
 have:=gl.1 e i h;simp at this
structure Laid (p:WI) (rep:Array Value) (s:St):Prop where
 size:rep.size=p.xl*2
 at_:∀k∈s.got,k<p.xl∧∃sa sl sc sb,(s.D k).v=.agg #[.slice sa sl sc,.bool sb]∧rep[k*2]?=some (.slice sa sl sc)∧rep[k*2+1]?=some (.bool sb)
variable {rep:Array Value} {sa:Option Addr} {sl sc:Nat} {sb:Bool}
theorem DD:(lay rep i sa sl sc sb).size=rep.size:=by simp[lay]
theorem DG(h:i*2+1<rep.size):(lay rep i sa sl sc sb)[i*2]?=some (.slice sa sl sc)∧(lay rep i sa sl sc sb)[i*2+1]?=some (.bool sb):=by
 unfold lay;refine⟨?_,?_⟩
 ·rw[dO (by omega),fj (by omega)]
 ·rw[fj (by simp;omega)]
theorem yA{x:Nat}(h:x<i*2∨i*2+1<x):(lay rep i sa sl sc sb)[x]?=rep[x]?:=by
 unfold lay;rw[dO (by omega),dO (by omega)]
section
variable [Scope] {p:WI} {B:WB} {c:PC} {us:List Frame} {J:Nat→me} {d:JD}
theorem Lf[kD Tryz.prog][lV Tryz.prog](hX:(PX p B c J).Good)(hJ:d.is p B J){RB:Nat}(M:RB≠B.bS∧RB≠B.bN∧RB≠B.bC∧RB≠B.bG∧RB≠p.sp):∀(L:Nat){s:St}{w:World}{rep:Array Value}{v8 y C v14 v15 v16 v17 v18 v19 v20 v21 v22 v23 v24:Value},left p.xl s.got=L →
  At (PX p B c J) s w (tf p B RB v8 y C v14 v15 v16 v17 v18 v19 v20 v21 v22 v23 v24 us)→s.tag≠.sp→s.d0=0→MF p B s.V w→w.heap[RB]?=some (.cells rep 140)→s.V RB→s.W RB→Laid p rep s →
  ∃s1 w1 s' w' m v8 v15 v16 v17 v18 v19 v20 v21 v22 v23 v24,nY s s1 w w1∧s1.V RB∧s1.W RB∧MF p B s1.V w1∧w1.heap[RB]?=some (.cells m 140)∧Laid p m s1 ∧
    vM (PX p B c J) s1 s' w1 (G (mZ.at ⟨GT p B RB v8 (.chan (some B.CB)) (.chan (some B.CF)) (.tuple #[.int .i64 1,.bool false,mh,ot]) v15 v16 v17 v18 v19 v20 v21 v22 v23 v24,[]⟩ [.inRegion rI [1,2,3],.code oh,.inBlock 1,.inLoop nn,.inBlock 0]) us) w':=by
 intro L
 induction L using Nat.strongRecOn with
 |_ L ih =>
  intro s w rep v8 y C v14 v15 v16 v17 v18 v19 v20 v21 v22 v23 v24 O h ht hd hF hR D E q;rcases Ld hX hJ h ht hd hF hR D E M q.size with⟨i,sa,sl,sc,sb,s2,w2,_,_,_,_,_,_,_,_,_,_,_,_,_,_,h2,hi,R,hg,hv,S,F,H,U,Y,Z,I,f⟩|⟨s1,w1,s2,w2,_,_,_,_,_,_,_,_,_,_,_,r1,f1,R1,ho⟩
  ·have hsz:=q.size;have aa:Laid p (lay rep i sa sl sc sb) s2:=⟨DD.trans q.size,fun k u=>by
    rw[hg,gV,iE]at u
    by_cases e:k=i
    ·subst e;obtain⟨l1,l2⟩:=DG (rep:=rep) (i:=k) (sa:=sa) (sl:=sl) (sc:=sc) (sb:=sb) (by omega);exact⟨hi,sa,sl,sc,sb,hv,l1,l2⟩
    ·have K:=u.resolve_right e;obtain⟨b1,xa,xl,xc,xb,b2,b3,b4⟩:=q.at_ k K;exact⟨b1,xa,xl,xc,xb,(I k K).trans b2,(yA (by omega)).trans b3,(yA (by omega)).trans b4⟩⟩
   obtain⟨s3,w3,s4,w4,m,a1,a2,a3,a4,a5,a6,a7,a8,a9,ab,ad,k1,k2,k3,k4,k5,k6,k7⟩:=ih (left p.xl s2.got) (by rw[←O,hg];exact Le hi R) rfl h2 U Y Z S F H aa;exact⟨s3,w3,s4,w4,m,a1,a2,a3,a4,a5,a6,a7,a8,a9,ab,ad,⟨fun b hb=>k1.V b (f.V b hb),fun b hb x=>f.W b hb (k1.W b (f.V b hb) x),fun b hb hw=>(k1.heap b (f.V b hb) fun x=>hw (f.W b hb x)).trans (f.heap b hb hw)⟩,k2,k3,k4,k5,k6,k7⟩
  ·refine⟨s1,w1,s2,w2,rep,_,_,_,_,_,_,_,_,_,_,_,(nY.refl s w).same r1.V r1.W r1.heap,by rw[r1.V];exact D,by rw[r1.W];exact E,f1,R1,⟨q.size,fun k u=>?_⟩,ho⟩;rw[r1.got]at u;obtain⟨b1,xa,xl,xc,xb,b2,b3⟩:=q.at_ k u;exact⟨b1,xa,xl,xc,xb,(r1.val k u).trans b2,b3⟩
end
def Az (p:WI) (B:WB) (cs:List Frame) (us:List Frame):Prop:=∃a listed fuel t,mQ kZ (v10 p B undef) (pN B) 36 listed a∧7∈Region.ready .any kZ listed∧listed.getD 8 false=false∧mY kZ listed≤fuel+1 ∧
 us=yx a (Region.linearise.go .any kZ fuel t (listed.setIfInBounds 7 true) []) cs
section
variable [Scope] {p:WI} {B:WB} {c:PC} {cs:List Frame} {J:Nat→me} {s:St} {w:World} {a:Goroutine} {d:JD}
theorem Lg[kD Tryz.prog][lV Tryz.prog](E:(PX p B c J).Good)(H:p.xl<2147483647)(h:At (PX p B c J) s w a)(K:xn p B s.V cs a w)(L:s.tag≠.sp)(hd:s.d0=0):∃RB us s' w' rep,Az p B cs us∧At (PX p B c J) s' w' (tf p B RB undef undef undef undef undef undef undef undef undef undef undef undef undef undef us)∧MF p B s'.V w'∧w'.heap[RB]?=some (.cells rep 140)∧rep.size=p.xl*2∧s'.V RB∧s'.W RB ∧
   (RB≠B.bS∧RB≠B.bN∧RB≠B.bC∧RB≠B.bG∧RB≠p.sp)∧s'.tag≠.sp∧s'.d0=0∧s'.got=s.got∧nY s s' w w'∧¬s.V RB∧Scope.base≤RB:=by
 obtain⟨s1,w1,a1,M,O,r1⟩:=h.walk E (fun g w k=>by obtain⟨_,a,l,f,t,_,_,_,_,e⟩:=k;rw[e];rfl) (K0 (W:=s.W) K);obtain⟨f1,I,listed,fuel,t,R,S,U,Y,rfl⟩:=O w1 (RK.refl _);have k1:=(nY.refl s w).same r1.V r1.W r1.heap;obtain⟨Z,C,q⟩:=Ap (P:=Tryz.prog) (t:=140) (n:=32) (by kernel_rfl);have hsz:((Tryz.prog.info? 140).map (·.size))=some 2:=by kernel_rfl
 have y:(((Tryz.prog.info? 140).bind (·.zero)).isSome)=true:=by kernel_rfl
 rw[C]at hsz y;simp only[dM,dW,ed]at hsz y;obtain⟨z,hz⟩:=eA.1 y;obtain⟨s2,w2,RB,h2,r2⟩:=M.new E rfl (o:=.cells (madeCells z.cells (p.xl*Z.size)) 140) (a':=fun b=>G (mZ.at ⟨#[.chan (some B.CB),.chan (some B.CF),.int .i64 p.xl,undef,undef,undef,.slice none 0 0,undef,undef,undef,.int .i64 p.xl,kQ p b,undef,undef,undef,undef,undef,undef,undef,undef,undef,undef,undef,undef,undef,undef,undef,undef,undef,undef,undef,undef,undef,undef,undef,undef,undef,undef,undef],[]⟩ (.inRegion xp [2]::[.code pr])) (yx I (Region.linearise.go .any kZ fuel t (listed.setIfInBounds 7 true) []) cs)) (fun w₁=>by
  rw[KY (b:=mZ) (ops:=xp) (i:=1) (t:=93) (e:=140) (x:=.tmp 10) (n:=p.xl) (a:=⟨#[.chan (some B.CB),.chan (some B.CF),.int .i64 p.xl,undef,undef,undef,.slice none 0 0,undef,undef,undef,.int .i64 p.xl]++Array.replicate 28 undef,[]⟩) rfl rfl (by decide) rfl (by simp[Act.eval]) Tryz.underlying93 C hz (by rw[q];omega) (by omega)];walk_nrm;rfl)
 have k2:=k1.new r2;have v2:∀b,s.V b→s2.V b:=k2.V;have m:∀b,s.V b→RB≠b:=fun b hb e=>r2.out (by rw[r1.V,e];exact hb)
 have f2:MF p B s2.V w2:=by
  have:=f1.keep (w₁:=w2) fun b hb=>r2.heap b (by rw[r1.V];exact hb)
  exact⟨this.s,this.n,this.c,this.g,this.id,this.x,v2 _ f1.vs.1,v2 _ f1.vs.2.1,v2 _ f1.vs.2.2.1,v2 _ f1.vs.2.2.2.1,v2 _ f1.vs.2.2.2.2⟩
 have D:s2.V RB:=by rw[r2.V];exact .inr rfl
 have F:s2.W RB:=by rw[r2.W];exact .inr rfl
 obtain⟨s3,w3,a3,h3,q3,u⟩:=h2.walk E (fun g w k=>by rw[k.1.2];rfl) (Goes.carry (W:=fun x=>s2.W x∧x≠RB) (b:=RB) D (fun k=>k.2 rfl) (fun x k=>k.1) r2.new (K1 (RB:=RB) f2));obtain⟨⟨f3,rfl⟩,R3⟩:=q3 w3 (RK.refl _);have k3:=k2.same u.V u.W u.heap;exact⟨RB,_,s3,w3,_,⟨I,listed,fuel,t,R,S,U,Y,rfl⟩,h3,by rw[u.V];exact f3,R3,by rw[size_madeCells,hsz],by rw[u.V];exact D,by rw[u.W];exact F,
  ⟨m _ f1.vs.1,m _ f1.vs.2.1,m _ f1.vs.2.2.1,m _ f1.vs.2.2.2.1,m _ f1.vs.2.2.2.2⟩,fun e=>L (r1.sp.1 (r2.sp.1 (u.sp.1 e))),u.d0.trans (r2.d0.trans (r1.d0.trans hd)),u.got.trans (r2.got.trans r1.got),k3,fun e=>m _ e rfl,r2.base⟩
end
end
section
open Go.Conc Go.ConcN Go.Conc.Lib Go.ConcR.Gen Go.ConcN.Gen Go.Proofs.YtjnkcibpkkjniaaGreat.kx
open Go.ConcR (KK wgBlock WgAt stA smA rd wr mk DC0)
variable [Scope]
theorem Lh(P:Program)(pk:Machine→Nat×Nat×Option (Nat×Nat))(m0:Machine)(t0:Trace)(B:Nat):∃Gt:Nat→Tape,∀i n j q,(kK P pk (B+i) m0 t0 n).1+j<(kK P pk (B+i) m0 t0 n).2 →
  Gt i (kI (kK P pk (B+i) m0 t0) n+j) q=vC P m0 t0 n ((kK P pk (B+i) m0 t0 n).1+j) q:=by
 have h:=fun i=>glue (vC P m0 t0) (kK P pk (B+i) m0 t0)
 exact⟨fun i=>(h i).choose,fun i=>(h i).choose_spec⟩
structure AA (p:WI) (d:JD) (Shun:Loc→Prop) (V0:Nat→Prop) (w0:World):Prop where
 Li:∀i,i<p.xl→∀B S,(uU p B i (d.m i) (d.ρ i) (d.args i) (d.wS i) (d.R i) S).Good Tryz.prog
 rel:∀i,i<p.xl→HR (d.ρ i) (d.wS i) w0
 lt:∀i,i<p.xl→∀b pl,d.ρ i b=some pl→pl.block<w0.heap.size∧¬V0 pl.block∧∀l,lq pl.block l→¬Shun l
 apart:∀i i',i<p.xl→i'<p.xl→i≠i'→qD (d.ρ i) (d.ρ i')
 m:∀i,i<p.xl→w0.cell? ⟨p.nb,p.no+i,none⟩=some (d.m i)
structure AB (p:WI) (Shun:Loc→Prop) (V0:Nat→Prop) (w0:World):Prop where
 v:∀b,V0 b→b<w0.heap.size∧∀l,lq b l→¬Shun l
 sp:V0 p.sp
 nb:V0 p.nb
 mem:∀l,Shun l→l.isMemory=true
 low:∀l b,Shun l→lq b l→b<w0.heap.size
 base:Scope.base≤w0.heap.size
theorem uP.running{Wg bG CF:Nat}{g:Goroutine}{w:World}(h:uP Wg bG CF g w):g.status=.running:=by
 obtain⟨_,e,_⟩:=h;rw[e];rfl
theorem Lj[kD Tryz.prog][lV Tryz.prog](ad:Scope.sync=false){p:WI}{d:JD}{Shun:Loc→Prop}{V0:Nat→Prop}{w0:World}{cs:List Frame}{gs:Array Goroutine}{sl:Option (Nat×Nat)}{t:Trace}{q:Nat→Nat}(h0:gs[0]?=some (G (wf.at ⟨#[p.s,p.nQ]++Array.replicate 34 undef,[]⟩ [.code (Tryz.f35.body.getD .skip)]) cs))(hL:Leavers Tryz.prog t gs q)(hP:Past Shun w0.heap.size t)(hF:yu p w0)(au:p.xl≤p.nl)(E:AB p Shun V0 w0)(U:AA p d Shun V0 w0):∃N0 c J RB us s1 w1 s' w' rep v8 v15 v16 v17 v18 v19 v20 v21 v22 v23 v24,let B:=WB.from w0.heap.size
   runNT Tryz.prog N0 (crowd gs w0 sl) t=(.next c.m0,c.t0)∧c.Shun=Shun∧d.is p B J∧Az p B cs us ∧
   (∀b,V0 b→s1.V b∧w1.heap[b]?=w0.heap[b]?)∧s1.V RB∧w1.heap[RB]?=some (.cells rep 140)∧Laid p rep s1∧MF p B s1.V w1 ∧
   (RB≠B.bS∧RB≠B.bN∧RB≠B.bC∧RB≠B.bG∧RB≠p.sp)∧¬V0 RB∧Scope.base≤RB∧c.m0.world.os=w0.os ∧
   vM (PX p B c J) s1 s' w1 (G (mZ.at ⟨GT p B RB v8 (.chan (some B.CB)) (.chan (some B.CF)) (.tuple #[.int .i64 1,.bool false,mh,ot]) v15 v16 v17 v18 v19 v20 v21 v22 v23 v24,[]⟩ [.inRegion rI [1,2,3],.code oh,.inBlock 1,.inLoop nn,.inBlock 0]) us) w':=by
 obtain⟨bS,h1⟩:∃x,oe x (w0.heap.size+0):=⟨_,rfl⟩;obtain⟨bN,h2⟩:∃x,oe x (w0.heap.size+1):=⟨_,rfl⟩;obtain⟨CB,h3⟩:∃x,oe x (w0.heap.size+2):=⟨_,rfl⟩;obtain⟨bC,h4⟩:∃x,oe x (w0.heap.size+3):=⟨_,rfl⟩;obtain⟨CF,h5⟩:∃x,oe x (w0.heap.size+4):=⟨_,rfl⟩;obtain⟨bG,h6⟩:∃x,oe x (w0.heap.size+5):=⟨_,rfl⟩;obtain⟨Wg,h7⟩:∃x,oe x (w0.heap.size+6):=⟨_,rfl⟩;have eB:WB.from w0.heap.size=⟨bS,bN,CB,bC,CF,bG,Wg⟩:=by
  unfold WB.from;have a1:w0.heap.size=bS:=h1.eq.symm;rw[←h2.eq,←h3.eq,←h4.eq,←h5.eq,←h6.eq,←h7.eq,a1]
 simp only[eB];have g1:=h1.eq;have g2:=h2.eq;have g3:=h3.eq;have g4:=h4.eq;have g5:=h5.eq;have g6:=h6.eq;have g7:=h7.eq;have bc:0<gs.size:=(dv.1 h0).1;have av:Clean (mJ ⟨gs.size,p.xl,Wg,CB,CF,Tryz.link.tWg,.tuple #[]⟩) t:=fun op aw=>mJ.of_low (hP.seen op aw) (by show w0.heap.size≤Wg;omega) (by show w0.heap.size≤CB;omega) (by show w0.heap.size≤CF;omega)
 have y:∀b,w0.heap.size≤b→∀l,lq b l→¬Shun l:=fun b hb l F hs=>by have:=E.low l b hs F;omega
 obtain⟨N0,H,bf,w1,ae,t1,q1,r1,r2,r3,r4,r5,r6,rfl,I⟩:=KD (p:=p) (N:=⟨gs.size,p.xl,Wg,CB,CF,Tryz.link.tWg,.tuple #[]⟩) (Shun:=Shun) (cs:=cs) (Q:=fun g w=>g=G (wf.at ⟨#[p.s,p.nQ,ptr bS,ptr bN,.slice none 0 0,ptr bC,ptr bG,ptr Wg,undef,p.s,p.s,.pointer (some ⟨p.sp,p.so+1,none⟩),.slice p.xa p.xl p.xc,.int .i64 p.xl,.chan (some CB),.chan (some CF),undef,undef,undef,undef,undef,undef,undef,undef,undef,undef,undef,undef,undef,undef,undef,undef,undef,undef,undef,undef],[]⟩ [.code po]) cs∧Ext w0 #[.cells #[p.s] 33,.cells #[p.nQ] 47,.chan p.xl #[] false 0 0 false,.cells #[.chan (some CB)] 141,.chan 0 #[] false 0 0 false,.cells #[.chan (some CF)] 142,wgBlock Tryz.link.tWg 0 0] w) hF h1 h2 h3 h4 h5 h6 h7 rfl y (E.v _ E.sp).2
  (fun w' I=>kv.done ⟨rfl,I⟩) gs sl t q h0 hL hP av
 have bd:w1.heap.size=w0.heap.size+7:=by rw[I.size];rfl
 obtain⟨pk,ax⟩:=yc Tryz.prog;obtain⟨Gt,ay⟩:=Lh Tryz.prog pk (crowd H w1 ae) t1 H.size;have hold:∀b,b<w0.heap.size→w1.heap[b]?=w0.heap[b]?:=fun b hb=>I.old hb
 let B:WB:=⟨bS,bN,CB,bC,CF,bG,Wg⟩
 let c:PC:=⟨H.size,pk,crowd H w1 ae,t1,Gt,rD bG,uP Wg bG CF,5,Shun⟩
 let J:Nat→me:=fun i=>uU p B i (d.m i) (d.ρ i) (d.args i) (d.wS i) (d.R i) (fun _=>False)
 have hX:(PX p B c J).Good :=
  {sync:=ad
   pos:=by show 0<H.size;omega
   qE:=fun i C=>U.Li i C B _
   anch:=KG ⟨rfl,rfl,rfl⟩ (by show bG≠Wg;omega)
   tO:=fun g w h=>h.running
   glue:=fun i n j q h=>ay i n j q h
   qF:=hF.qF
   yn:=ax
   kJ:=⟨by show Wg≠CB;omega,by show Wg≠CF;omega,by show CB≠CF;omega⟩
   oU:=fun l F=>⟨E.mem l F,fun hs=>by
    rcases hs.block with k|k|k
    ·exact y Wg (by omega) l k F
    ·exact y CB (by omega) l k F
    ·exact y CF (by omega) l k F,fun k=>y Wg (by omega) l k F,fun k=>y CB (by omega) l k F,fun k=>y CF (by omega) l k F⟩ }
 let S:Nat→Prop:=fun b=>V0 b∨b=bS∨b=bN∨b=bC∨b=bG
 have az:∀b,S b→b<w1.heap.size∧b≠Wg∧b≠CB∧b≠CF∧∀l,lq b l→¬Shun l:=fun b hb=>by
  rcases hb with k|k|k|k|k
  ·have:=E.v b k;exact⟨by omega,by omega,by omega,by omega,this.2⟩
  all_goals exact⟨by omega,by omega,by omega,by omega,y b (by omega)⟩
 have hZ:rA (PX p B c J) (St.start (PX p B c J) q1 S fun _=>False) w1 :=
  {lt:=fun i C b pl hb=>by
    have hb:d.ρ i b=some pl:=hb;have k:=U.lt i C b pl hb;refine⟨by omega,fun M=>?_,by show pl.block≠Wg;omega,by show pl.block≠CB;omega,by show pl.block≠CF;omega⟩;rcases M with M|M|M|M|M
    ·exact k.2.1 M
    all_goals omega
   apart:=fun i i' C aA aB=>U.apart i i' C aA aB
   oU:=fun i C b pl l hb F=>(U.lt i C b pl hb).2.2 l F
   v:=fun b hb=>az b hb
   wv:=fun b hb=>hb.elim
   sj:=fun i C=>absurd C (ik i)
   sc:=fun e=>absurd rfl e
   kJ:=⟨by show Wg<_;omega,by show CB<_;omega,by show CF<_;omega⟩
   old:=fun l b hs F=>by have:=E.low l b hs F;omega }
 have K:∀i,w1.heap[w0.heap.size+i]?=(#[.cells #[p.s] 33,.cells #[p.nQ] 47,.chan p.xl #[] false 0 0 false,.cells #[.chan (some CB)] 141,.chan 0 #[] false 0 0 false,.cells #[.chan (some CF)] 142,wgBlock Tryz.link.tWg 0 0]:Array Obj)[i]?:=I.get;have Y:kO (PX p B c J) (St.start (PX p B c J) q1 S fun _=>False) 0 H w1 t1:=by
  refine kO.start hX rfl r4 r5 r6 ?_ ?_ ?_ (fun i C=>?_) hZ ?_ rfl
  ·show WgAt Tryz.link.tWg Wg w1 0 0;have:=K 6;rw[←g7]at this;exact this
  ·show w1.heap[CB]?=_;rw[g3];exact K 2
  ·show w1.heap[CF]?=_;rw[g5];exact K 4
  ·exact HR.leaves ad (U.rel i C) (Leaves.block fun b pl hb=>hold _ (U.lt i C b pl hb).1) I.os
  ·have:=E.base;show Scope.base≤w1.heap.size;omega
 have aC:At (PX p B c J) (St.start (PX p B c J) q1 S fun _=>False) w1 _:=Y.at_ hX (show runNT Tryz.prog 0 _ _=_ from rfl) r3;have aD:MF p B S w1:=by
  have kp:=E.sp;have af:=(E.v _ kp).1;refine⟨?_,?_,?_,?_,(I.An af _).trans hF.hid,(I.An af _).trans hF.hx,.inr (.inl rfl),.inr (.inr (.inl rfl)),.inr (.inr (.inr (.inl rfl))),.inr (.inr (.inr (.inr rfl))),.inl kp⟩
  ·exact I.cellAt (B:=bS) (i:=0) (o:=0) g1 rfl rfl
  ·exact I.cellAt (B:=bN) (i:=1) (o:=0) g2 rfl rfl
  ·exact I.cellAt (B:=bC) (i:=3) (o:=0) g4 rfl rfl
  ·exact I.cellAt (B:=bG) (i:=5) (o:=0) g6 rfl rfl
 obtain⟨s2,w2,a2,aE,q2,k2⟩:=aC.walk hX (fun g w k=>by rw[k.2];rfl) (KI (V:=S) (W:=fun _=>False) (cs:=cs) aD);obtain⟨f2,rfl⟩:=q2 w2 (RK.refl _);have O:s2.V=S:=k2.V;have ag:s2.W=fun _=>False:=k2.W
 have ah:∀b,S b→w2.heap[b]?=w1.heap[b]?:=fun b hb=>k2.heap b hb id
 have hd:d.is p B J:=fun i C=>⟨_,rfl⟩
 obtain⟨J3,s3,w3,v8,v22,v23,v24,v25,v26,Z,ai,aF,aG,aH,aj,aI,aJ,aK,f⟩:=rounds hF.qF au p.xl 0 (dG _) hX hd aE (k2.sp.2 rfl) (k2.p.trans rfl) (k2.d0.trans rfl) (k2.j.trans rfl) (by rw[O];exact f2) (by rw[O];exact .inl E.nb) (by rw[ag];exact⟨id,id,id,id,id,id⟩)
  (fun i C=>(gA (ah _ (.inl E.nb)) _).trans ((gA (hold _ (E.v _ E.nb).1) _).trans (U.m i C)))
 obtain⟨s4,w4,a4,aL,aM,bg,aN,aO,aP,u⟩:=KX Z rfl rfl aF aG aH aj aI aK;obtain⟨RB,us,s5,w5,rep,hU,aQ,aR,aS,ak,al,am,an,aT,aU,aV,D,ao,ap⟩:=Lg Z hF.qF aL aM aO aN;have aa:s5.got=[]:=aV.trans (aP.trans (aJ.trans k2.got));obtain⟨s6,w6,s7,w7,aq,b8,aW,aX,aY,aZ,a0,a3,a5,a6,a7,a8,L,ar,be,a9,ba,bb,ab⟩:=Lf Z ai an (left p.xl s5.got) rfl aQ aT aU aR aS al am ⟨ak,fun k hk=>by rw[aa]at hk;cases hk⟩;refine⟨N0,c,J3,RB,us,s6,w6,s7,w7,aq,b8,aW,aX,aY,aZ,a0,a3,a5,a6,a7,a8,r1,rfl,ai,hU,fun b hb=>?_,ar,ba,bb,a9,an,fun M=>?_,ap,I.os,ab⟩
 ·have v2:s2.V b:=by rw[O];exact .inl hb
  have n2:¬s2.W b:=by rw[ag];exact id
  have v3:=f.V b v2;have n3:¬s3.W b:=fun k=>n2 (f.W b v2 k)
  have v4:=u.V b v3;have n4:¬s4.W b:=fun k=>n3 (u.W b v3 k)
  have v5:=D.V b v4;have n5:¬s5.W b:=fun k=>n4 (D.W b v4 k)
  exact⟨L.V b v5,(L.heap b v5 n5).trans ((D.heap b v4 n4).trans ((u.heap b v3 n3).trans ((f.heap b v2 n2).trans ((ah b (.inl hb)).trans (hold b (E.v b hb).1)))))⟩
 ·exact ao (u.V _ (f.V _ (by rw[O];exact .inl M)))
end
section
open Go.Conc Go.ConcN Go.Proofs.YtjnkcibpkkjniaaGreat.kx
open Go.ConcR (KK wgBlock WgAt stA smA rd wr DC0)
section
variable {P:Program} {m0:Machine} {t0:Trace} {Shun:Loc→Prop}
theorem Lk{n:Nat}{gs:Array Goroutine}{w:World}{sl:Option (Nat×Nat)}{t:Trace}{q:Nat→Nat}{g:Goroutine}(h:Beside P m0 t0 Shun n gs w sl t q g)(M:g.status=.running):∃d kn,(∃gs' t' q',Beside P m0 t0 Shun (n+1) gs' (w.at d) kn t' q' g∧gs'.size=gs.size∧sumTo gs.size q'<sumTo gs.size q) ∨
   stepT P (crowd gs w sl)=runT P (crowd gs (w.at d) kn) 0:=by
 have O:∀x∈gs,awake x:=by
  intro x hx;obtain⟨i,Z,rfl⟩:=eZ.1 hx;rcases fb i with rfl|f
  ·have:gs[0]=g:=by simpa[dw Z]using h.main
   rw[this];exact fe (.inl M)
  ·exact fe ((h.leave.old i _ f (dw Z)).status.elim .inl fun x=>.inr (.inr x))
 obtain⟨i,x,d,kn,hx,m,E⟩:=crowd_pick (P:=P) (w:=w) (sl:=sl) O ⟨0,g,h.main,M⟩;refine⟨d,kn,?_⟩;rcases fb i with rfl|f
 ·exact .inr E
 ·refine .inl ?_;have K:=h.leave.old i x f hx;have F:i<gs.size:=(dv.1 hx).1;have R:(i == 0)=false:=by simp;omega
  cases C:q i with
  |zero=>rw[C]at K;rw[K.1]at m;cases m
  |succ k =>
   rw[C]at K;rcases K with⟨hf,_⟩|⟨_,g',es,hm,G,S⟩
   ·rw[hf]at m;cases m
   have H:=fg (P:=P) (sl:=kn) (i:=i) hx (by rw[R];exact G (w.at d));have aa:sumTo gs.size (upd q i k)+(k+1)=sumTo gs.size q+k:=by
    have:=fh q k id F;simpa[C]using this
   refine⟨_,_,upd q i k,⟨oK h.run (E.trans H),?_,⟨fun j z U L=>?_,fun j U=>?_⟩,h.past.mute (show i≠0 by omega) hm⟩,by simp,by omega⟩
   ·rw[dO (show i≠0 by omega),dV,h.main];simp[fi M]
   ·by_cases u:i=j
    ·subst u;rw[fj (by simpa using F)]at L;obtain rfl:=ff L;rw[fl,fo];exact S
    ·rw[dO u,dV]at L;obtain⟨y,hy,rfl⟩:=eo.1 L;have I:=h.leave.old j y U hy;rw[eT I,fp q k (dJ u),eU t u _ (fun op D=>by obtain⟨e,_,rfl⟩:=eX D;rfl)];exact I
   ·have Y:gs.size≤j:=by simpa using U
    rw[eU t (g':=i) (show i≠j by omega) _ (fun op D=>by obtain⟨e,_,rfl⟩:=eX D;rfl)];exact h.leave.above j Y
def Any:MemAct→Prop:=fun _=>True
theorem Clean.any(t:Trace):Clean Any t:=fun _ _=>trivial
theorem kv.recv{Q:Goroutine→World→Prop}{g g₂:Goroutine}{w:World}{c cap s r:Nat}{buf:Array Value}{closed tm f:Bool}{z:Value}{sh:CommShape}(hg:g.status=.running)(m:∀d,stepG P true g (w.at d)=.comm g₂ #[rcase c z] f sh (w.at d) #[])(hc:w.heap[c]?=some (.chan cap buf closed s r tm))(y:0<buf.size)(k:∀d,kv P Any Shun Q (g₂.finishComm P #[rcase c z] sh 0 (buf.getD 0 undef) true) ((w.at d).setChan c cap (buf.extract 1 buf.size) closed s (r+1) tm)):kv P Any Shun Q g w:=by
 intro gs sl t q E C F _
 suffices key:∀(R:Nat)(d0:Nat)(gs:Array Goroutine)(sl:Option (Nat×Nat)) (t:Trace) (q:Nat→Nat),sumTo gs.size q=R→gs[0]?=some g→Leavers P t gs q→Past Shun w.heap.size t →
   ∃N gs' g' w' kn t' q',runNT P N (crowd gs (w.at d0) sl) t=(.next (crowd gs' w' kn),t')∧gs'.size=gs.size∧gs'[0]?=some g'∧Leavers P t' gs' q'∧Past Shun w'.heap.size t'∧Q g' w' by
  obtain⟨N,gs',g',w',kn,t',q',r1,r2,G,U,Y,Z⟩:=key _ w.drawn gs sl t q rfl E C F;exact⟨N,gs',g',w',kn,t',q',r1,r2,G,U,Y,Clean.any _,Z⟩
 clear E C F;intro R
 induction R using Nat.strongRecOn with
 |_ R ih =>
  intro d0 gs sl t q aa E C F;have hb:Beside P (crowd gs (w.at d0) sl) t Shun 0 gs (w.at d0) sl t q g:=⟨rfl,E,C,F⟩;obtain⟨d,kn,⟨H,t2,q2,h,I,ab⟩|K⟩:=Lk hb hg
  ·obtain⟨N,gs',g',w',D,t',q',r1,r2,G⟩:=ih (sumTo H.size q2) (by rw[I,←aa];exact ab) d H kn t2 q2 rfl h.main h.leave h.past;refine⟨1+N,gs',g',w',D,t',q',?_,r2.trans I,G⟩;rw[eQ,show runNT P 1 (crowd gs (w.at d0) sl) t=_ from h.run];exact r1
  ·have L:0<gs.size:=(dv.1 E).1;have hp:partners (gs.setIfInBounds 0 ph) c true=[]:=partners_nil fun j x hx=>by
    rcases getElem?_stand gs 0 j x hx with⟨_,rfl⟩|⟨S,hx⟩
    ·exact offersAt_ph _ _
    ·exact gY (by
      rcases(C.old j x (by omega) hx).status with k|k<;>rw[k]<;>simp) _ _
   have hT:=crowd_recv_buf (P:=P) (sl:=kn) (i:=0) E (show stepG P (0 == 0) g (w.at d)=_ from m d) hc y hp;rw[show((w.at d0).at d)=w.at d from rfl]at K;generalize M:(MemOp.ofEvents 0 g.frame.fn g.frame.place #[]++#[({ g:=0,fn:=g₂.frame.fn,pos:=g₂.frame.place,act:=.recv c r cap }:MemOp),{ g:=0,fn:=g₂.frame.fn,pos:=g₂.frame.place,act:=.recvDone c r }])=u at hT;have hu:∀op∈u,op.g=0∧op.act.touch? = none∧(op.act≠.mark .disable∧op.act≠.mark .enable)∧op.act.low w.heap.size:=by
    intro op e;have O:c<w.heap.size:=(dv.1 hc).1;rw[←M]at e;have:op=({ g:=0,fn:=g₂.frame.fn,pos:=g₂.frame.place,act:=.recv c r cap }:MemOp)∨op={ g:=0,fn:=g₂.frame.fn,pos:=g₂.frame.place,act:=.recvDone c r }:=by simpa[gJ]using e
    rcases this with rfl|rfl
    ·exact⟨rfl,rfl,⟨by simp,by simp⟩,O⟩
    ·exact⟨rfl,rfl,⟨by simp,by simp⟩,O⟩
   have hD:∀j,Deaf (t++u) j=Deaf t j:=fun j=>gT t j u fun op e=>(hu op e).2.2.1
   have hsz:((w.at d).setChan c cap (buf.extract 1 buf.size) closed s (r+1) tm).heap.size=w.heap.size:=by simp[World.setChan,World.at]
   have ad:Past Shun w.heap.size (t++u):=F.app0 (fun op e=>(hu op e).1) (fun op e b hb=>by rw[(hu op e).2.1]at hb;cases hb) (hD 0) fun op e=>(hu op e).2.2.2
   have ae:Leavers P (t++u) (gs.setIfInBounds 0 (g₂.finishComm P #[rcase c z] sh 0 (buf.getD 0 undef) true)) q:=⟨fun j x S hx=>by
    rw[dO (by omega)]at hx;rw[hD];exact C.old j x S hx,fun j S=>by
    rw[hD];exact C.above j (by simpa using S)⟩
   obtain⟨N,gs',g',w',D,t',q',r1,r2,G,U,Y,_,Z⟩:=k d (gs.setIfInBounds 0 (g₂.finishComm P #[rcase c z] sh 0 (buf.getD 0 undef) true)) kn (t++u) q (by rw[fj L]) ae (by rw[hsz];exact ad) (Clean.any _);refine⟨1+N,gs',g',w',D,t',q',?_,by rw[r2];simp,G,U,Y,Z⟩;have h1:runNT P 1 (crowd gs (w.at d0) sl) t=(.next (crowd (gs.setIfInBounds 0 (g₂.finishComm P #[rcase c z] sh 0 (buf.getD 0 undef) true)) ((w.at d).setChan c cap (buf.extract 1 buf.size) closed s (r+1) tm) kn),t++u) :=
    oK (t:=t) (n:=0) rfl (K.trans hT)
   rw[eQ,h1];exact r1
end
end
section
open Go.Conc Go.ConcN Go.Conc.Lib Go.ConcR.Gen Go.ConcN.Gen Go.Proofs.YtjnkcibpkkjniaaGreat.kx
open Go.ConcR (KK wgBlock WgAt stA smA rd wr mk DC0)
section
variable {P:Program} {Shun:Loc→Prop} {Q:Goroutine→World→Prop} {g:Goroutine} {w:World}
theorem kv.goes{ty:TypeId}{Wg:Nat}{V W:Nat→Prop}{Stop:Goroutine→World→Prop}(u:∀b,V b→∀l,lq b l→¬Shun l):∀{m:Nat}{g:Goroutine}{w:World},(∀b,V b→b<w.heap.size)→Goes P true (RK ty Wg V) (DM V W) Stop m g w →
  (∀g' w',Stop g' w'→w'.heap.size=w.heap.size→w'.os=w.os→(∀b,¬W b→w'.heap[b]?=w.heap[b]?)→kv P Any Shun Q g' w')→kv P Any Shun Q g w:=by
 intro m
 induction m with
 |zero=>intro g w _ h k;exact k g w (h w (RK.refl w)) rfl rfl fun _ _=>rfl
 |succ m y =>
  intro g w hB h k;rcases h with h|⟨f,h⟩
  ·exact k g w (h w (RK.refl w)) rfl rfl fun _ _=>rfl
  ·refine kv.step (fun _ _=>trivial) f fun d=>?_
   obtain⟨a',w',es,C,⟨d1,d2,d3,d4⟩,D⟩:=goes_elim (h (w.at d) (RK.at w d));have hsz:w'.heap.size=w.heap.size:=d2;refine⟨a',w',es,C,fun e he=>⟨?_,trivial⟩,Nat.le_of_eq hsz.symm,y (fun b hb=>by rw[hsz];exact hB b hb) D fun E w2 k1 k2 F G=>k E w2 k1 (k2.trans hsz) (F.trans d3) fun b hb=>(G b hb).trans (d1 b hb)⟩;obtain⟨ad,wr,rfl,q,_⟩:=d4 e he;refine⟨fun x hx f=>?_,by simp,by simp,?_⟩
   ·have:x.loc=.cell ad:=by cases wr<;>simp[MemAct.ofEvent,MemAct.touch?]at hx<;>(subst hx;rfl)
    rw[this]at f;exact absurd f (u _ q _ rfl)
   ·show ad.block<_;rw[hsz];exact hB _ q
theorem kv.made{g':Goroutine}{o:Obj}{B:Nat}(e:g.status=.running)(hB:oe B w.heap.size)(h:∀w₁:World,w₁.heap.size=w.heap.size→stepG P true g w₁=.go g' (w₁.alloc o) #[])(k:∀d,kv P Any Shun Q g' ((w.at d).alloc o)):kv P Any Shun Q g w :=
 kv.step (fun _ _=>trivial) e fun d=>⟨g',_,#[],h (w.at d) rfl,by simp,by show w.heap.size≤(w.heap.push o).size;simp,k d⟩
end
structure DF (V:Nat→Prop) (b:Nat) (o:Obj) (w:World):Prop where
 v:V b
 o:w.heap[b]?=some o
theorem DF.keep{V:Nat→Prop}{b:Nat}{o:Obj}{w w₁:World}(h:DF V b o w)(k:∀b,V b→w₁.heap[b]?=w.heap[b]?):DF V b o w₁:=⟨h.v,(k _ h.v).trans h.o⟩
theorem DF.cl{V W:Nat→Prop}{f:TypeId}{wg:Nat}{b:Nat}{o:Obj}{S:Goroutine→World→Prop}{n:Nat}{g g':Goroutine}{w:World}(hF:DF V b o w)(k:g.status=.running)(e:∀w,stepG Tryz.prog true g w=.go g' w)(h:∀w,DF V b o w→Goes Tryz.prog true (RK f wg V) (DM V W) S n g' w):Goes Tryz.prog true (RK f wg V) (DM V W) S (n+1) g w:=Goes.cl hF (fun _ _ h r=>h.keep (RK.keep r)) (fun _=>DM.nil) k e h
theorem DF.op{V W:Nat→Prop}{f:TypeId}{wg:Nat}{b:Nat}{o:Obj}{S:Goroutine→World→Prop}{n:Nat}{w:World}{c:Frame}{a:Act}{k:List Item}{cs:List Frame}{ops:Array Oper}{i:Nat}{rest:List Nat}{q:Oper}(hF:DF V b o w)(m:ops[i]?=some q)(hw:Region.wanted q (yielded ops a.tmps)=true)(u:c.kind≠.early)(h:∀w,DF V b o w→∀K:Act→World→Prop,(∀a',(∀e∈(execOp a.eval q).events Tryz.prog w #[],∃a wr,e=⟨.cell a,wr,false⟩∧V a.block∧(wr=true→W a.block))→Goes Tryz.prog true (RK f wg V) (DM V W) S n (G (c.at a' (.inRegion ops rest::k)) cs) w→K a' w)→uponK q a K ((execOp a.eval q).run Tryz.prog w)):Goes Tryz.prog true (RK f wg V) (DM V W) S (n+1) (G (c.at a (.inRegion ops (i::rest)::k)) cs) w :=
 Goes.op hF (fun _ _ h r=>h.keep (RK.keep r)) (fun _ _ t=>⟨fun _ _=>rfl,rfl,rfl,t⟩) m hw u h
noncomputable def su:Code:=match oh with
 | .block _ (.cond _ _ (.cond _ c _))=>c
 |_=>.skip
noncomputable def ou:Code:=match su with
 | .seq (.seq _ (.block _ (.loop c))) _=>c
 |_=>.skip
noncomputable def pt:Code:=match su with
 | .seq _ c=>c
 |_=>.skip
noncomputable def uV:Array Oper:=match su with
 | .seq (.seq (.region _ ops _) _) _=>ops
 |_=>#[]
noncomputable def rJ:Array Oper:=match ou with
 | .seq _ (.seq _ (.seq (.block _ (.seq (.region _ ops _) _)) _))=>ops
 |_=>#[]
noncomputable def vR:Array Oper:=match ou with
 | .seq _ (.seq _ (.seq (.block _ (.seq _ (.region _ ops _))) _))=>ops
 |_=>#[]
noncomputable def vT:Code:=match ou with
 | .seq _ (.seq _ (.seq _ c))=>c
 |_=>.skip
noncomputable def oG:List Item:=[.inBlock 2,.inBlock 1,.inLoop nn,.inBlock 0]
noncomputable def qH:List Item:=.inLoop ou::.inBlock 3::.code pt::oG
def GD (p:WI) (B:WB) (RB:Nat) (v8 v15 v18 v19 v20 v21 v22 v23 v24:Value) (v9 v25 v26 np lQ ml v30 lH lI lJ lK lR lS lL:Value):Array Value :=
 #[.chan (some B.CB),.chan (some B.CF),.int .i64 p.xl,undef,undef,undef,.slice none 0 0,kQ p RB,v8,v9,.int .i64 p.xl,kQ p RB,.chan (some B.CB),.chan (some B.CF),.tuple #[.int .i64 1,.bool false,mh,ot],.int .i64 1,.bool false,.bool true,v18,v19,v20,v21,v22,v23,v24,v25,v26,np,lQ,ml,v30,lH,lI,lJ,lK,lR,lS,lL,undef]
section
variable {p:WI} {B:WB} {V W:Nat→Prop} {us:List Frame} {w:World} {RB:Nat} {o:Obj} {v8 v15 v16 v17 v18 v19 v20 v21 v22 v23 v24 v9 v25 v26 np lQ ml v30 lH lI lJ lK lR lS lL:Value}
theorem Ll(hF:DF V RB o w):Goes Tryz.prog true (RK Tryz.link.tWg B.Wg V) (DM V W) (fun g w=>DF V RB o w∧g=G (mZ.at ⟨GD p B RB v8 undef v18 v19 v20 v21 v22 v23 v24 undef (.chan (some B.CB)) undef undef undef undef undef undef undef undef undef undef undef undef,[]⟩ (.inRegion uV [1,2]::.code (.block 3 (.loop ou))::.code pt::oG)) us) 20
   (G (mZ.at ⟨GT p B RB v8 (.chan (some B.CB)) (.chan (some B.CF)) (.tuple #[.int .i64 1,.bool false,mh,ot]) v15 v16 v17 v18 v19 v20 v21 v22 v23 v24,[]⟩ [.inRegion rI [1,2,3],.code oh,.inBlock 1,.inLoop nn,.inBlock 0]) us) w:=by
 simp only[GT,GD,rI,oh,uV,ou,pt,su,oG,nn,pr,pq,Tryz.f63,eE]
 (refine DF.op hF rfl rfl (by decide) ?_;clear hF;intro _ hF K h;(try simp only[ptr,kQ]);go_simp;refine h _ (fun e hm=>?_) ?_;(focus(clear h;simp[go_sem,ptr,kQ, *]at hm));clear h K)
 (refine DF.op hF rfl rfl (by decide) ?_;clear hF;intro _ hF K h;(try simp only[ptr,kQ]);go_simp;refine h _ (fun e hm=>?_) ?_;(focus(clear h;simp[go_sem,ptr,kQ, *]at hm));clear h K)
 (refine DF.op hF rfl rfl (by decide) ?_;clear hF;intro _ hF K h;(try simp only[ptr,kQ]);go_simp;refine h _ (fun e hm=>?_) ?_;(focus(clear h;simp[go_sem,ptr,kQ, *]at hm));clear h K)
 (refine DF.cl hF rfl (fun _=>stepG_region_end) ?_;clear hF;intro _ hF)
 (refine DF.cl hF rfl (fun _=>stepG_block) ?_;clear hF;intro _ hF)
 (refine gx rfl (fun _ f=>?_);replace hF:=DF.keep hF (RK.keep f);clear f);rw[fw (t:=false) rfl];simp only[fA,dL,dp];refine⟨DM.nil,?_⟩
 (refine gx rfl (fun _ f=>?_);replace hF:=DF.keep hF (RK.keep f);clear f);rw[fw (t:=true) rfl];simp only[fA,dn];refine⟨DM.nil,?_⟩
 (refine DF.cl hF rfl (fun _=>stepG_seq) ?_;clear hF;intro _ hF)
 (refine DF.cl hF rfl (fun _=>stepG_seq) ?_;clear hF;intro _ hF)
 (refine DF.cl hF rfl (fun _=>fy) ?_;clear hF;intro _ hF;simp only[gF,gG,gH,Nat.reduceAdd,dG,List.range,List.range.loop])
 (refine DF.op hF rfl rfl (by decide) ?_;clear hF;intro _ hF K h;(try simp only[ptr,kQ]);go_simp;refine h _ (fun e hm=>?_) ?_;(focus(clear h;simp[go_sem,ptr,kQ, *]at hm));clear h K);exact fQ fun w₁ f=>⟨hF.keep f.keep,rfl⟩
end
theorem Lm:∃o e,uV[1]?=some o∧o.dst=some 26∧o.op=.call { callee:=.builtin .len,args:=#[.tmp 25],argTypes:=e }∧e=#[181]∧o.guard=none:=⟨_,_,rfl,rfl,rfl,rfl,rfl⟩
section
variable {p:WI} {B:WB} {Shun:Loc→Prop} {V W:Nat→Prop} {us:List Frame} {w:World} {RB:Nat} {o:Obj} {v8 v15 v16 v17 v18 v19 v20 v21 v22 v23 v24 v9 v25 v26 np lQ ml v30 lH lI lJ lK lR lS lL:Value} {Q:Goroutine→World→Prop}
theorem Ln{cap s r:Nat}{buf:Array Value}(u:w.heap[B.CB]?=some (.chan cap buf false s r false))(k:∀d,kv Tryz.prog Any Shun Q (G (mZ.at ⟨GD p B RB v8 v15 v18 v19 v20 v21 v22 v23 v24 v9 (.chan (some B.CB)) (.int .i64 buf.size) np lQ ml v30 lH lI lJ lK lR lS lL,[]⟩ (.inRegion uV [2]::.code (.block 3 (.loop ou))::.code pt::oG)) us) (w.at d)):kv Tryz.prog Any Shun Q (G (mZ.at ⟨GD p B RB v8 v15 v18 v19 v20 v21 v22 v23 v24 v9 (.chan (some B.CB)) v26 np lQ ml v30 lH lI lJ lK lR lS lL,[]⟩ (.inRegion uV [1,2]::.code (.block 3 (.loop ou))::.code pt::oG)) us) w:=by
 obtain⟨o,C,D,E,h,y,F⟩:=Lm;have hu:=Tryz.underlying181;have m:B.CB<w.heap.size:=(dv.1 u).1;refine kv.step (fun _ _=>trivial) rfl fun d=>?_
 have f:(w.at d).heap[B.CB]?=some (.chan cap buf false s r false):=u;have hr:(execOp (Act.eval ⟨GD p B RB v8 v15 v18 v19 v20 v21 v22 v23 v24 v9 (.chan (some B.CB)) v26 np lQ ml v30 lH lI lJ lK lR lS lL,[]⟩) o).run Tryz.prog (w.at d)=.ok (.value (.int .i64 buf.size)) (w.at d):=by
  unfold execOp;simp[go_sem,h,y,Act.eval,GD,iu hu,Builtin.len_,goInt,run_getObj_chan _ _ f]
 have he:(execOp (Act.eval ⟨GD p B RB v8 v15 v18 v19 v20 v21 v22 v23 v24 v9 (.chan (some B.CB)) v26 np lQ ml v30 lH lI lJ lK lR lS lL,[]⟩) o).events Tryz.prog (w.at d) #[]=#[⟨.obj B.CB,false,true⟩]:=by
  unfold execOp;simp[go_sem,h,y,Act.eval,GD,iu hu,Builtin.len_,goInt,events_getObj_chan _ _ _ f,run_getObj_chan _ _ f]
 have q:=gy (main:=true) (b:=mZ) (k:=.code (.block 3 (.loop ou))::.code pt::oG) (cs:=us) (rest:=[2]) D (by simp[Region.wanted,F]) (by decide) hr;refine⟨_,w.at d,#[⟨.obj B.CB,false,true⟩],by rw[q];unfold Go.Conc.listed;rw[he,seen_eq (by kernel_rfl) (by simp)],fun e he=>⟨?_,trivial⟩,dD _,?_⟩
 ·rw[gX]at he;subst he;refine⟨fun x hx _=>?_,by simp,by simp,m⟩;simp[MemAct.ofEvent,MemAct.touch?]at hx;subst hx;simp
 ·have e:(Act.put ⟨GD p B RB v8 v15 v18 v19 v20 v21 v22 v23 v24 v9 (.chan (some B.CB)) v26 np lQ ml v30 lH lI lJ lK lR lS lL,[]⟩ o.dst (.int .i64 buf.size))=⟨GD p B RB v8 v15 v18 v19 v20 v21 v22 v23 v24 v9 (.chan (some B.CB)) (.int .i64 buf.size) np lQ ml v30 lH lI lJ lK lR lS lL,[]⟩:=by
   rw[E];rfl
  rw[e];exact k d
end
section
variable {p:WI} {B:WB} {Shun:Loc→Prop} {V W:Nat→Prop} {us:List Frame} {w:World} {RB DB:Nat} {o:Obj} {v8 v15 v16 v17 v18 v19 v20 v21 v22 v23 v24 v9 v25 v26 np lQ ml v30 lH lI lJ lK lR lS lL:Value} {Q:Goroutine→World→Prop}
noncomputable abbrev mK (a:Array Value) (l:List Item) (us:List Frame):Goroutine:=G (mZ.at ⟨a,[]⟩ l) us
noncomputable def th:List Item:=.code (.region 10 vR false)::.inBlock 4::.code vT::qH
theorem Lo(hF:DF V RB o w):Goes Tryz.prog true (RK Tryz.link.tWg B.Wg V) (DM V W) (fun g w=>DF V RB o w∧g=mK (GD p B RB v8 v15 v18 v19 v20 v21 v22 v23 v24 v9 v25 v26 (.int .i64 0) lQ ml v30 lH lI lJ lK lR lS lL) (.code ou::qH) us) 12
   (mK (GD p B RB v8 v15 v18 v19 v20 v21 v22 v23 v24 v9 v25 v26 np lQ ml v30 lH lI lJ lK lR lS lL) (.inRegion uV [2]::.code (.block 3 (.loop ou))::.code pt::oG) us) w:=by
 simp only[mK,GD,uV,qH,ou,pt,su,oG,oh,nn,pr,pq,Tryz.f63,eE]
 (refine DF.op hF rfl rfl (by decide) ?_;clear hF;intro _ hF K h;(try simp only[ptr,kQ]);go_simp;refine h _ (fun e hm=>?_) ?_;(focus(clear h;simp[go_sem,ptr,kQ, *]at hm));clear h K)
 (refine DF.cl hF rfl (fun _=>stepG_region_end) ?_;clear hF;intro _ hF)
 (refine DF.cl hF rfl (fun _=>stepG_block) ?_;clear hF;intro _ hF)
 (refine DF.cl hF rfl (fun _=>stepG_loop) ?_;clear hF;intro _ hF);exact fQ fun w₁ f=>⟨hF.keep f.keep,rfl⟩
variable {N:Nat}
theorem Lp{k:Nat}(q:k<N)(hF:DF V RB o w):Goes Tryz.prog true (RK Tryz.link.tWg B.Wg V) (DM V W) (fun g w=>DF V RB o w∧g=mK (GD p B RB v8 v15 v18 v19 v20 v21 v22 v23 v24 v9 v25 (.int .i64 N) (.int .i64 k) (.bool true) (.chan (some B.CB)) v30 lH lI lJ lK lR lS lL) (.inRegion rJ [1,2,3]::th) us) 14
   (mK (GD p B RB v8 v15 v18 v19 v20 v21 v22 v23 v24 v9 v25 (.int .i64 N) (.int .i64 k) lQ ml v30 lH lI lJ lK lR lS lL) (.code ou::qH) us) w:=by
 have m:(k:Int)<(N:Int):=by omega
 simp only[mK,GD,th,rJ,vR,vT,qH,ou,pt,su,oG,oh,nn,pr,pq,Tryz.f63,eE]
 (refine DF.cl hF rfl (fun _=>stepG_seq) ?_;clear hF;intro _ hF)
 (refine DF.cl hF rfl (fun _=>fy) ?_;clear hF;intro _ hF;simp only[gF,gG,gH,Nat.reduceAdd,dG,List.range,List.range.loop])
 (refine DF.op hF rfl rfl (by decide) ?_;clear hF;intro _ hF K h;(try simp only[ptr,kQ]);go_simp;refine h _ (fun e hm=>?_) ?_;(focus(clear h;simp[go_sem,ptr,kQ, *]at hm));clear h K)
 (refine DF.cl hF rfl (fun _=>stepG_region_end) ?_;clear hF;intro _ hF)
 (refine DF.cl hF rfl (fun _=>stepG_seq) ?_;clear hF;intro _ hF)
 (refine gx rfl (fun _ f=>?_);replace hF:=DF.keep hF (RK.keep f);clear f);rw[fw (t:=true) (by simp[Act.eval])];simp only[fA,dn];refine⟨DM.nil,?_⟩
 (refine DF.cl hF rfl (fun _=>stepG_skip) ?_;clear hF;intro _ hF)
 (refine DF.cl hF rfl (fun _=>stepG_seq) ?_;clear hF;intro _ hF)
 (refine DF.cl hF rfl (fun _=>stepG_block) ?_;clear hF;intro _ hF)
 (refine DF.cl hF rfl (fun _=>stepG_seq) ?_;clear hF;intro _ hF)
 (refine DF.cl hF rfl (fun _=>fy) ?_;clear hF;intro _ hF;simp only[gF,gG,gH,Nat.reduceAdd,dG,List.range,List.range.loop])
 (refine DF.op hF rfl rfl (by decide) ?_;clear hF;intro _ hF K h;(try simp only[ptr,kQ]);go_simp;refine h _ (fun e hm=>?_) ?_;(focus(clear h;simp[go_sem,ptr,kQ, *]at hm));clear h K);refine fQ fun w₁ f=>⟨hF.keep f.keep,?_⟩
 rfl
theorem Lq(hF:DF V RB o w):Goes Tryz.prog true (RK Tryz.link.tWg B.Wg V) (DM V W) (fun g w=>DF V RB o w∧g=mK (GD p B RB v8 v15 v18 v19 v20 v21 v22 v23 v24 v9 v25 (.int .i64 N) (.int .i64 N) (.bool false) ml v30 lH lI lJ lK lR lS lL) (.code pt::oG) us) 14
   (mK (GD p B RB v8 v15 v18 v19 v20 v21 v22 v23 v24 v9 v25 (.int .i64 N) (.int .i64 N) lQ ml v30 lH lI lJ lK lR lS lL) (.code ou::qH) us) w:=by
 simp only[mK,GD,qH,ou,pt,su,oG,oh,nn,pr,pq,Tryz.f63,eE]
 (refine DF.cl hF rfl (fun _=>stepG_seq) ?_;clear hF;intro _ hF)
 (refine DF.cl hF rfl (fun _=>fy) ?_;clear hF;intro _ hF;simp only[gF,gG,gH,Nat.reduceAdd,dG,List.range,List.range.loop])
 (refine DF.op hF rfl rfl (by decide) ?_;clear hF;intro _ hF K h;(try simp only[ptr,kQ]);go_simp;refine h _ (fun e hm=>?_) ?_;(focus(clear h;simp[go_sem,ptr,kQ, *]at hm));clear h K)
 (refine DF.cl hF rfl (fun _=>stepG_region_end) ?_;clear hF;intro _ hF)
 (refine DF.cl hF rfl (fun _=>stepG_seq) ?_;clear hF;intro _ hF)
 (refine gx rfl (fun _ f=>?_);replace hF:=DF.keep hF (RK.keep f);clear f);rw[fw (t:=false) (by simp[Act.eval])];simp only[fA,dL,dp];refine⟨DM.nil,?_⟩
 (refine gx rfl (fun _ f=>?_);replace hF:=DF.keep hF (RK.keep f);clear f);rw[stepG_exit (by rfl)];simp only[fA];refine⟨DM.nil,fQ fun w₁ f=>⟨hF.keep f.keep,?_⟩⟩;rfl
end
theorem DI:∃o,rJ[1]?=some o∧o.dst=some 30∧o.op=.recv 181 (.tmp 29) false∧o.guard=none:=⟨_,rfl,rfl,rfl,rfl⟩
section
variable {p:WI} {B:WB} {Shun:Loc→Prop} {V W:Nat→Prop} {us:List Frame} {w:World} {RB DB:Nat} {o:Obj} {v8 v15 v16 v17 v18 v19 v20 v21 v22 v23 v24 v9 v25 v26 np lQ ml v30 lH lI lJ lK lR lS lL:Value} {Q:Goroutine→World→Prop}
theorem Lr(w:World):stepG Tryz.prog true (mK (GD p B RB v8 v15 v18 v19 v20 v21 v22 v23 v24 v9 v25 v26 np lQ (.chan (some B.CB)) v30 lH lI lJ lK lR lS lL) (.inRegion rJ [1,2,3]::th) us) w =
   .comm (mK (GD p B RB v8 v15 v18 v19 v20 v21 v22 v23 v24 v9 v25 v26 np lQ (.chan (some B.CB)) v30 lH lI lJ lK lR lS lL) (.inRegion rJ [1,2,3]::th) us) #[rcase B.CB mh] true (.recv false) w #[]:=by
 obtain⟨o,k,q,e,m⟩:=DI;have f:=Tryz.zeroValue155;have h:=fun w es=>td (P:=Tryz.prog) (t:=155) (by kernel_rfl) w es
 have hu:=Tryz.underlying181;have hr:(execOp (Act.eval ⟨GD p B RB v8 v15 v18 v19 v20 v21 v22 v23 v24 v9 v25 v26 np lQ (.chan (some B.CB)) v30 lH lI lJ lK lR lS lL,[]⟩) o).run Tryz.prog w=.ok (.comm #[rcase B.CB mh] true (.recv false)) w:=by
  unfold execOp;simp[e,f,Act.eval,GD,rcase,mh,iu hu]
 have he:(execOp (Act.eval ⟨GD p B RB v8 v15 v18 v19 v20 v21 v22 v23 v24 v9 v25 v26 np lQ (.chan (some B.CB)) v30 lH lI lJ lK lR lS lL,[]⟩) o).events Tryz.prog w #[]=#[]:=by
  unfold execOp;simp[go_sem,e,h,Act.eval,GD,iu hu]
 unfold mK;rw[stepG_comm k (by simp[Region.wanted,m]) (by decide) hr,iq he]
theorem Ls(v:Value):(mK (GD p B RB v8 v15 v18 v19 v20 v21 v22 v23 v24 v9 v25 v26 np lQ (.chan (some B.CB)) v30 lH lI lJ lK lR lS lL) (.inRegion rJ [1,2,3]::th) us).finishComm Tryz.prog #[rcase B.CB mh] (.recv false) 0 v true =
   mK (GD p B RB v8 v15 v18 v19 v20 v21 v22 v23 v24 v9 v25 v26 np lQ (.chan (some B.CB)) v lH lI lJ lK lR lS lL) (.inRegion rJ [2,3]::th) us:=by
 obtain⟨o,e,f,h,k⟩:=DI;unfold Goroutine.finishComm mK;simp only[G];rw[ft,e];simp only[ed,f];rfl
variable {i sl sc:Nat} {sa:Option Addr} {sb:Bool}
theorem Lt(D:i<p.xl)(hW:W DB)(hF:DF V DB (.cells mh.cells 155) w):Goes Tryz.prog true (RK Tryz.link.tWg B.Wg V) (DM V W) (fun g w=>DF V DB (.cells #[.int .i64 i,.slice sa sl sc,.bool sb] 155) w∧g=mK (GD p B RB v8 v15 v18 v19 v20 v21 v22 v23 v24 (ptr DB) v25 v26 np lQ ml (.agg #[.int .i64 i,.slice sa sl sc,.bool sb]) (kQ p RB) (ptr DB) (.int .i64 i) (.pointer (some ⟨DB,1,none⟩)) (.agg #[.slice sa sl sc,.bool sb]) (.pointer (some ⟨RB,i*2,none⟩)) lL) (.inRegion vR [6]::.inBlock 4::.code vT::qH) us) 16
   (mK (GD p B RB v8 v15 v18 v19 v20 v21 v22 v23 v24 (ptr DB) v25 v26 np lQ ml (.agg #[.int .i64 i,.slice sa sl sc,.bool sb]) lH lI lJ lK lR lS lL) (.inRegion rJ [3]::th) us) w:=by
 simp only[mK,GD,th,rJ,vR,vT,qH,ou,pt,su,oG,oh,nn,pr,pq,Tryz.f63,eE]
 (refine gx rfl (fun _ q=>?_);replace hF:=DF.keep hF (RK.keep q);clear q);refine gC rfl rfl (by decide) (fun K f=>?_);have h:=cell_of hF.o 0;have k:=cell_of hF.o 1;have m:=cell_of hF.o 2;have y:=rF hF.o 0;have z1:=rF hF.o 1;have z2:=rF hF.o 2;simp[mh,Value.cells]at h k m;simp only[ptr];go_simp;refine f _ _ ⟨⟨fun b hb=>?_,by simp[World.setCell],rfl,fun e he=>?_⟩,?_⟩
 ·have u:DB≠b:=fun e=>hb (e▸hW)
  rw[oW u,oW u,oW u]
 ·clear f;have hm:=gz he;simp[go_sem,ptr,yy,yz,storedEv, *]at hm;rcases hm with rfl|rfl|rfl<;>exact⟨_,_,rfl,hF.v,fun _=>hW⟩
 clear f K h k m y z1 z2;have hF:=(⟨hF.v,rG (rG (rG hF.o 0 (.int .i64 i)) 1 (.slice sa sl sc)) 2 (.bool sb)⟩:DF V DB _ _);simp only[mh,Value.cells,iz,iB,iA]at hF
 (refine DF.cl hF rfl (fun _=>stepG_region_end) ?_;clear hF;intro _ hF)
 (refine DF.cl hF rfl (fun _=>fy) ?_;clear hF;intro _ hF;simp only[gF,gG,gH,Nat.reduceAdd,dG,List.range,List.range.loop]);have C:(i:Int)<(p.xl:Int):=by omega
 (refine DF.op hF rfl rfl (by decide) ?_;clear hF;intro _ hF K f;have h:=cell_of (DF.o hF) 0;have k:=cell_of (DF.o hF) 1;have m:=cell_of (DF.o hF) 2;simp at h k m;(try simp only[ptr,kQ]);go_simp;refine f _ (fun e hm=>?_) ?_;(focus(clear f;simp[go_sem,ptr,kQ, *]at hm;(try(subst hm;exact⟨_,_,rfl,DF.v hF,by simp⟩));(try(rcases hm with rfl|rfl|rfl<;>exact⟨_,_,rfl,DF.v hF,by simp⟩));(try(rcases hm with rfl|rfl<;>exact⟨_,_,rfl,DF.v hF,by simp⟩))));clear f K h k m)
 (refine DF.op hF rfl rfl (by decide) ?_;clear hF;intro _ hF K f;have h:=cell_of (DF.o hF) 0;have k:=cell_of (DF.o hF) 1;have m:=cell_of (DF.o hF) 2;simp at h k m;(try simp only[ptr,kQ]);go_simp;refine f _ (fun e hm=>?_) ?_;(focus(clear f;simp[go_sem,ptr,kQ, *]at hm;(try(subst hm;exact⟨_,_,rfl,DF.v hF,by simp⟩));(try(rcases hm with rfl|rfl|rfl<;>exact⟨_,_,rfl,DF.v hF,by simp⟩));(try(rcases hm with rfl|rfl<;>exact⟨_,_,rfl,DF.v hF,by simp⟩))));clear f K h k m)
 (refine DF.op hF rfl rfl (by decide) ?_;clear hF;intro _ hF K f;have h:=cell_of (DF.o hF) 0;have k:=cell_of (DF.o hF) 1;have m:=cell_of (DF.o hF) 2;simp at h k m;(try simp only[ptr,kQ]);go_simp;refine f _ (fun e hm=>?_) ?_;(focus(clear f;simp[go_sem,ptr,kQ, *]at hm;(try(subst hm;exact⟨_,_,rfl,DF.v hF,by simp⟩));(try(rcases hm with rfl|rfl|rfl<;>exact⟨_,_,rfl,DF.v hF,by simp⟩));(try(rcases hm with rfl|rfl<;>exact⟨_,_,rfl,DF.v hF,by simp⟩))));clear f K h k m)
 (refine DF.op hF rfl rfl (by decide) ?_;clear hF;intro _ hF K f;have h:=cell_of (DF.o hF) 0;have k:=cell_of (DF.o hF) 1;have m:=cell_of (DF.o hF) 2;simp at h k m;(try simp only[ptr,kQ]);go_simp;refine f _ (fun e hm=>?_) ?_;(focus(clear f;simp[go_sem,ptr,kQ, *]at hm;(try(subst hm;exact⟨_,_,rfl,DF.v hF,by simp⟩));(try(rcases hm with rfl|rfl|rfl<;>exact⟨_,_,rfl,DF.v hF,by simp⟩));(try(rcases hm with rfl|rfl<;>exact⟨_,_,rfl,DF.v hF,by simp⟩))));clear f K h k m)
 (refine DF.op hF rfl rfl (by decide) ?_;clear hF;intro _ hF K f;have h:=cell_of (DF.o hF) 0;have k:=cell_of (DF.o hF) 1;have m:=cell_of (DF.o hF) 2;simp at h k m;(try simp only[ptr,kQ]);go_simp;refine f _ (fun e hm=>?_) ?_;(focus(clear f;simp[go_sem,ptr,kQ, *]at hm;(try(subst hm;exact⟨_,_,rfl,DF.v hF,by simp⟩));(try(rcases hm with rfl|rfl|rfl<;>exact⟨_,_,rfl,DF.v hF,by simp⟩));(try(rcases hm with rfl|rfl<;>exact⟨_,_,rfl,DF.v hF,by simp⟩))));clear f K h k m)
 (refine DF.op hF rfl rfl (by decide) ?_;clear hF;intro _ hF K f;have h:=cell_of (DF.o hF) 0;have k:=cell_of (DF.o hF) 1;have m:=cell_of (DF.o hF) 2;simp at h k m;(try simp only[ptr,kQ]);go_simp;refine f _ (fun e hm=>?_) ?_;(focus(clear f;simp[go_sem,ptr,kQ, *]at hm;(try(subst hm;exact⟨_,_,rfl,DF.v hF,by simp⟩));(try(rcases hm with rfl|rfl|rfl<;>exact⟨_,_,rfl,DF.v hF,by simp⟩));(try(rcases hm with rfl|rfl<;>exact⟨_,_,rfl,DF.v hF,by simp⟩))));clear f K h k m);exact fQ fun w₁ q=>⟨hF.keep q.keep,rfl⟩
theorem Lu{k:Nat}{rep:Array Value}(C:i<p.xl)(D:k<2147483647)(hsz:rep.size=p.xl*2)(hW:W RB)(hF:DF V RB (.cells rep 140) w):Goes Tryz.prog true (RK Tryz.link.tWg B.Wg V) (DM V W) (fun g w=>DF V RB (.cells (lay rep i sa sl sc sb) 140) w∧g=mK (GD p B RB v8 v15 v18 v19 v20 v21 v22 v23 v24 v9 v25 v26 (.int .i64 (k+1:Nat)) lQ ml v30 lH lI lJ lK (.agg #[.slice sa sl sc,.bool sb]) (.pointer (some ⟨RB,i*2,none⟩)) (.int .i64 (k+1:Nat))) (.code ou::qH) us) 16
   (mK (GD p B RB v8 v15 v18 v19 v20 v21 v22 v23 v24 v9 v25 v26 (.int .i64 k) lQ ml v30 lH lI lJ lK (.agg #[.slice sa sl sc,.bool sb]) (.pointer (some ⟨RB,i*2,none⟩)) lL) (.inRegion vR [6]::.inBlock 4::.code vT::qH) us) w:=by
 simp only[mK,GD,vR,vT,qH,ou,pt,su,oG,oh,nn,pr,pq,Tryz.f63,eE]
 (refine gx rfl (fun _ f=>?_);replace hF:=DF.keep hF (RK.keep f);clear f);refine gC rfl rfl (by decide) (fun K h=>?_);have q:=(cell_of hF.o (i*2)).trans (dw (by omega));have u:=(cell_of hF.o (i*2+1)).trans (dw (by omega));have y:=rF hF.o (i*2);have z1:=rF hF.o (i*2+1);go_simp;refine h _ _ ⟨⟨fun b hb=>?_,by simp[World.setCell],rfl,fun e he=>?_⟩,?_⟩
 ·have m:RB≠b:=fun e=>hb (e▸hW)
  rw[oW m,oW m]
 ·clear h;have hm:=gz he;simp[go_sem,yy,yz,storedEv, *]at hm;rcases hm with rfl|rfl<;>exact⟨_,_,rfl,hF.v,fun _=>hW⟩
 clear h K q u y z1;have hF:=(⟨hF.v,rG (rG hF.o (i*2) (.slice sa sl sc)) (i*2+1) (.bool sb)⟩:DF V RB _ _)
 (refine DF.cl hF rfl (fun _=>stepG_region_end) ?_;clear hF;intro _ hF)
 (refine DF.cl hF rfl (fun _=>stepG_inBlock) ?_;clear hF;intro _ hF)
 (refine DF.cl hF rfl (fun _=>fy) ?_;clear hF;intro _ hF;simp only[gF,gG,gH,Nat.reduceAdd,dG,List.range,List.range.loop]);have hb:IntKind.i64.wrap ((k:Int)+1)=((k+1:Nat):Int):=by rw[iC];omega
 (refine DF.op hF rfl rfl (by decide) ?_;clear hF;intro _ hF K h;(try simp only[ptr,kQ]);go_simp;refine h _ (fun e hm=>?_) ?_;(focus(clear h;simp[go_sem,ptr,kQ, *]at hm));clear h K)
 (refine DF.op hF rfl rfl (by decide) ?_;clear hF;intro _ hF K h;(try simp only[ptr,kQ]);go_simp;refine h _ (fun e hm=>?_) ?_;(focus(clear h;simp[go_sem,ptr,kQ, *]at hm));clear h K)
 (refine DF.cl hF rfl (fun _=>stepG_region_end) ?_;clear hF;intro _ hF)
 (refine DF.cl hF rfl (fun _=>stepG_inLoop) ?_;clear hF;intro _ hF);exact fQ fun w₁ f=>⟨hF.keep f.keep,rfl⟩
end
def AD (v:Value):Prop:=∃sa sl sc sb,v=.agg #[.slice sa sl sc,.bool sb]
structure tV (p:WI) (rep:Array Value) (v:Nat→Value) (l:List Nat):Prop where
 size:rep.size=p.xl*2
 at_:∀k∈l,k<p.xl∧∃sa sl sc sb,v k=.agg #[.slice sa sl sc,.bool sb]∧rep[k*2]?=some (.slice sa sl sc)∧rep[k*2+1]?=some (.bool sb)
theorem tV.lay{p:WI}{rep:Array Value}{v:Nat→Value}{l:List Nat}(h:tV p rep v l){i:Nat}(m:i<p.xl){sa:Option Addr}{sl sc:Nat}{sb:Bool}(q:v i=.agg #[.slice sa sl sc,.bool sb]):tV p (lay rep i sa sl sc sb) v (l++[i]):=by
 have hsz:=h.size;refine⟨DD.trans h.size,fun k f=>?_⟩
 by_cases e:k=i
 ·subst e;obtain⟨u,y⟩:=DG (rep:=rep) (i:=k) (sa:=sa) (sl:=sl) (sc:=sc) (sb:=sb) (by omega);exact⟨m,sa,sl,sc,sb,q,u,y⟩
 ·rw[gV,iE]at f;obtain⟨b1,xa,xl,xc,xb,b2,C,D⟩:=h.at_ k (f.resolve_right e);exact⟨b1,xa,xl,xc,xb,b2,(yA (by omega)).trans C,(yA (by omega)).trans D⟩
structure tj (CB RB:Nat) (wo w:World):Prop where
 size:wo.heap.size≤w.heap.size
 os:w.os=wo.os
 heap:∀b,b<wo.heap.size→b≠CB→b≠RB→w.heap[b]?=wo.heap[b]?
section
variable {p:WI} {B:WB} {Shun:Loc→Prop} {us:List Frame} {RB:Nat} {wo:World} {v8 v15 v18 v19 v20 v21 v22 v23 v24 v25:Value} {Q:Goroutine→World→Prop} {msg v:Nat→Value} {cap sent N:Nat}
theorem Lv(hN:N<2147483647)(hS:∀b,b=RB∨wo.heap.size≤b→∀l,lq b l→¬Shun l)(H:RB≠B.CB)(am:RB<wo.heap.size)(an:B.CB<wo.heap.size):∀(wait l:List Nat)(k:Nat){w:World}{rep:Array Value}{r:Nat} {v9 lQ ml v30 lH lI lJ lK lR lS lL:Value},k+wait.length=N →
  w.heap[B.CB]?=some (.chan cap (wait.map msg).toArray false sent r false)→w.heap[RB]?=some (.cells rep 140)→tV p rep v l →
  (∀i∈wait,i<p.xl∧AD (v i)∧msg i=.agg (#[.int .i64 i]++(v i).cells))→tj B.CB RB wo w →
  (∀w' f v9 lQ ml v30 lH lI lJ lK lR lS lL,w'.heap[RB]?=some (.cells f 140)→tV p f v (l++wait)→tj B.CB RB wo w'→kv Tryz.prog Any Shun Q (mK (GD p B RB v8 v15 v18 v19 v20 v21 v22 v23 v24 v9 v25 (.int .i64 N) (.int .i64 N) lQ ml v30 lH lI lJ lK lR lS lL) (.code pt::oG) us) w') →
  kv Tryz.prog Any Shun Q (mK (GD p B RB v8 v15 v18 v19 v20 v21 v22 v23 v24 v9 v25 (.int .i64 N) (.int .i64 k) lQ ml v30 lH lI lJ lK lR lS lL) (.code ou::qH) us) w:=by
 intro wait
 induction wait with
 |nil =>
  intro l k w rep r v9 lQ ml v30 lH lI lJ lK lR lS lL hk hC hR hL hA q kk;obtain rfl:k=N:=by simpa using hk
  refine kv.goes (ty:=Tryz.link.tWg) (Wg:=B.Wg) (V:=fun b=>b=RB) (W:=fun _=>False) (fun b hb=>hS b (.inl hb)) (fun b hb=>by have:=q.size;rw[hb];omega) (Lq (B:=B) ⟨rfl,hR⟩) (fun g' w' D hsz E I=>?_);obtain⟨hF,rfl⟩:=D;exact kk w' rep _ _ _ _ _ _ _ _ _ _ _ hF.o (by rw[ij];exact hL) ⟨by rw[hsz];exact q.size,E.trans q.os,fun b h1 h2 h3=>(I b id).trans (q.heap b h1 h2 h3)⟩
 |cons i rest ih =>
  intro l k w rep r v9 lQ ml v30 lH lI lJ lK lR lS lL hk hC hR hL hA q kk;have ab:k<N:=by rw[←hk];simp
  refine kv.goes (ty:=Tryz.link.tWg) (Wg:=B.Wg) (V:=fun b=>b=RB) (W:=fun _=>False) (fun b hb=>hS b (.inl hb)) (fun b hb=>by have:=q.size;rw[hb];omega) (Lp (B:=B) ab ⟨rfl,hR⟩) (fun g1 w1 D hsz E I=>?_);obtain⟨_,rfl⟩:=D;have K:=(I B.CB id).trans hC;have ad:=(I RB id).trans hR;obtain⟨hi,⟨sa,sl,sc,sb,hv⟩,L⟩:=hA i (by simp);refine kv.recv rfl (fun d=>Lr _) K (by simp) (fun d=>?_);have M:((i::rest).map msg).toArray.getD 0 undef=.agg #[.int .i64 i,.slice sa sl sc,.bool sb]:=by
   have:((i::rest).map msg).toArray.getD 0 undef=msg i:=by simp
   rw[this,L,hv];rfl
  rw[M,Ls];have hex:((i::rest).map msg).toArray.extract 1 ((i::rest).map msg).toArray.size=(rest.map msg).toArray:=by
   simp;exact ig (by simp)
  rw[hex];have F:∀b,b≠B.CB→((w1.at d).setChan B.CB cap (rest.map msg).toArray false sent (r+1) false).heap[b]?=w1.heap[b]?:=fun b hb=>by
   simp only[World.setChan,World.at];rw[dO (dJ hb)]
  have O:B.CB<w1.heap.size:=(dv.1 K).1;have h:((w1.at d).setChan B.CB cap (rest.map msg).toArray false sent (r+1) false).heap[B.CB]?=some (.chan cap (rest.map msg).toArray false sent (r+1) false):=by
   simp only[World.setChan,World.at];rw[fj O]
  have R:((w1.at d).setChan B.CB cap (rest.map msg).toArray false sent (r+1) false).heap.size=w1.heap.size:=by simp[World.setChan,World.at]
  have y:((w1.at d).setChan B.CB cap (rest.map msg).toArray false sent (r+1) false).os=w1.os:=rfl;generalize((w1.at d).setChan B.CB cap (rest.map msg).toArray false sent (r+1) false)=w2 at F h R y ⊢;obtain⟨DB,u⟩:∃DB,oe DB w2.heap.size:=⟨_,rfl⟩;refine kv.made (B:=DB) (g':=mK (GD p B RB v8 v15 v18 v19 v20 v21 v22 v23 v24 (ptr DB) v25 (.int .i64 N) (.int .i64 k) (.bool true) (.chan (some B.CB)) (.agg #[.int .i64 i,.slice sa sl sc,.bool sb]) lH lI lJ lK lR lS lL) (.inRegion rJ [3]::th) us) (o:=.cells mh.cells 155) rfl u (fun w₁ S=>?_) (fun d2=>?_)
  ·rw[show DB=w₁.heap.size from u.eq.trans S.symm];unfold mK;rw[yt (b:=mZ) (ops:=rJ) (i:=2) (elem:=155) rfl rfl (by decide) rfl Tryz.zeroValue155 (td (by kernel_rfl))];rfl
  have U:((w2.at d2).alloc (.cells mh.cells 155)).heap.size=w2.heap.size+1:=by show(w2.heap.push _).size=_;simp
  have e:∀b,b<w2.heap.size→((w2.at d2).alloc (.cells mh.cells 155)).heap[b]?=w2.heap[b]?:=fun b hb=>by
   show(w2.heap.push _)[b]?=_;rw[ie hb,dw hb]
  have m:((w2.at d2).alloc (.cells mh.cells 155)).heap[DB]?=some (.cells mh.cells 155):=by
   rw[u.eq];show(w2.heap.push _)[w2.heap.size]?=_;simp
  have C:((w2.at d2).alloc (.cells mh.cells 155)).os=w2.os:=rfl;generalize((w2.at d2).alloc (.cells mh.cells 155))=w3 at U e m C ⊢;have aj:DB=w2.heap.size:=u;have ao:=q.size;refine kv.goes (ty:=Tryz.link.tWg) (Wg:=B.Wg) (V:=fun b=>b=DB) (W:=fun b=>b=DB) (fun b hb=>hS b (.inr (by rw[hb];omega))) (fun b hb=>by rw[hb];omega) (Lt (B:=B) hi rfl ⟨rfl,m⟩) (fun g4 w4 D ak Y G=>?_);obtain⟨_,rfl⟩:=D;have ae:RB≠DB:=by omega
  have af:B.CB≠DB:=by omega
  have ag:w4.heap[RB]?=some (.cells rep 140):=(G RB ae).trans ((e RB (by omega)).trans ((F RB H).trans ad));have ah:w4.heap[B.CB]?=some (.chan cap (rest.map msg).toArray false sent (r+1) false):=(G B.CB af).trans ((e _ (by omega)).trans h);refine kv.goes (ty:=Tryz.link.tWg) (Wg:=B.Wg) (V:=fun b=>b=RB) (W:=fun b=>b=RB) (fun b hb=>hS b (.inl hb)) (fun b hb=>by rw[hb];omega) (Lu (B:=B) (k:=k) hi (by omega) hL.size rfl ⟨rfl,ag⟩) (fun g5 w5 D al Z aa=>?_);obtain⟨ai,rfl⟩:=D;refine ih (l++[i]) (k+1) (r:=r+1) (by rw[←hk];simp;omega) ((aa _ (dJ H)).trans ah) ai.o (hL.lay hi hv) (fun j hj=>hA j (by simp[hj])) ⟨by omega,by rw[Z,Y,C,y,E];exact q.os,fun b h1 h2 h3=>?_⟩ (fun w' f v9 lQ ml v30 lH lI lJ lK lR lS lL a1 a2 a3=>kk w' f _ _ _ _ _ _ _ _ _ _ _ a1 (by rw[iF]at a2;exact a2) a3);exact(aa b h3).trans ((G b (by show b≠DB;omega)).trans ((e b (by omega)).trans ((F b h2).trans ((I b id).trans (q.heap b h1 h2 h3)))))
end
end
section
open Go.Conc Go.ConcN Go.Conc.Lib Go.ConcR.Gen Go.ConcN.Gen Go.Proofs.YtjnkcibpkkjniaaGreat.kx
open Go.ConcR (KK wgBlock WgAt stA smA rd wr mk DC0)
variable [Scope]
section
variable {P:Program} {Shun:Loc→Prop} {Q:Goroutine→World→Prop} {g g':Goroutine} {w:World}
theorem kv.c0(e:g.status=.running)(h:∀w,stepG P true g w=.go g' w #[])(k:∀w',w'.heap=w.heap→w'.os=w.os→kv P Any Shun Q g' w'):kv P Any Shun Q g w :=
 kv.step (fun _ _=>trivial) e fun d=>⟨g',w.at d,#[],h _,by simp,dD _,k _ rfl rfl⟩
end
section
variable {p:WI} {B:WB} {Shun:Loc→Prop} {V W:Nat→Prop} {us cs:List Frame} {w:World} {RB DB:Nat} {o:Obj} {v8 v15 v16 v17 v18 v19 v20 v21 v22 v23 v24 v9 v25 v26 np lQ ml v30 lH lI lJ lK lR lS lL:Value} {Q:Goroutine→World→Prop}
def GE (p:WI) (B:WB) (RB:Nat) (v8 v15 v18 v19 v20 v21 v22 v23 v24:Value) (v9 v25 v26 np lQ ml v30 lH lI lJ lK lR lS lL:Value):Array Value :=
 ((GD p B RB v8 v15 v18 v19 v20 v21 v22 v23 v24 v9 v25 v26 np lQ ml v30 lH lI lJ lK lR lS lL).setIfInBounds 38 (kQ p RB)).setIfInBounds 6 (kQ p RB)
theorem Lw(hF:DF V RB o w):Goes Tryz.prog true (RK Tryz.link.tWg B.Wg V) (DM V W) (fun g w=>DF V RB o w∧g=mK (GE p B RB v8 v15 v18 v19 v20 v21 v22 v23 v24 v9 v25 v26 np lQ ml v30 lH lI lJ lK lR lS lL) (.code .ret::oG) us) 12
   (mK (GD p B RB v8 v15 v18 v19 v20 v21 v22 v23 v24 v9 v25 v26 np lQ ml v30 lH lI lJ lK lR lS lL) (.code pt::oG) us) w:=by
 simp only[mK,GE,GD,pt,su,oG,oh,nn,pr,pq,Tryz.f63,eE]
 (refine DF.cl hF rfl (fun _=>stepG_seq) ?_;clear hF;intro _ hF)
 (refine DF.cl hF rfl (fun _=>fy) ?_;clear hF;intro _ hF;simp only[gF,gG,gH,Nat.reduceAdd,dG,List.range,List.range.loop])
 (refine DF.op hF rfl rfl (by decide) ?_;clear hF;intro _ hF K f;(try simp only[ptr,kQ]);go_simp;refine f _ (fun e hm=>?_) ?_;(focus(clear f;simp[go_sem,ptr,kQ, *]at hm));clear f K)
 (refine DF.op hF rfl rfl (by decide) ?_;clear hF;intro _ hF K f;(try simp only[ptr,kQ]);go_simp;refine f _ (fun e hm=>?_) ?_;(focus(clear f;simp[go_sem,ptr,kQ, *]at hm));clear f K)
 (refine DF.cl hF rfl (fun _=>stepG_region_end) ?_;clear hF;intro _ hF);exact fQ fun w₁ h=>⟨hF.keep h.keep,rfl⟩
variable {c:Frame} {ret:Value}
theorem Lx{A:Array Value}(f:A.getD 6 undef=ret)(k:∀w',w'.heap=w.heap→w'.os=w.os→kv Tryz.prog Any Shun Q (G (c.finish ret) cs) w'):kv Tryz.prog Any Shun Q (mK A (.code .ret::oG) (c::cs)) w:=by
 refine kv.c0 rfl (fun w=>stepG_ret') fun w1 h m=>?_
 refine kv.c0 (g':=G (c.finish ret) cs) rfl (fun w=>?_) fun w2 q u=>k w2 (q.trans h) (u.trans m)
 have e:Tryz.f63.results=#[.tmp 6]:=rfl;have:=stepG_leave (P:=Tryz.prog) (main:=true) (b:=mZ) (a:=⟨A,[]⟩) (todo:=.code .ret::oG) (c:=c) (cs:=cs) (w:=w) (v:=A.getD 6 undef) rfl rfl Tryz.func63 (fB e _ _ _) (fC e _ _);rw[f]at this;exact this
variable {listed:Array Bool} {a:Act}
theorem Ly{o:Oper}(f:kZ[8]?=some o)(hr:8∈Region.ready .any kZ listed)(h:mQ kZ (v10 p B ret) (pN B) 36 listed a):(execOp a.eval o).run Tryz.prog w=.ok (.value (v10 p B ret 8)) w∧∀e∈(execOp a.eval o).events Tryz.prog w #[],False:=by
 have hd:=dep h f hr;clear hr;simp only[kZ,oF,ra,po,Tryz.f35]at f hd;simp only[fV,gB,fW,dW]at f hd;subst f;simp[Region.binds,v10]at hd;refine⟨?_,?_⟩
 all_goals unfold execOp
 all_goals simp only[Act.eval,v10,dA,hd,eE]
 ·go_simp
 ·intro e he;simp[go_sem]at he
theorem Lz:∃o,kZ[8]?=some o∧o.dst=some 4:=⟨_,rfl,rfl⟩
theorem LA{V0:Nat→Prop}{fuel t:Nat}(hV:∀b,V0 b→∀l,lq b l→¬Shun l)(F:∀b,V0 b→b<w.heap.size)(hF:MF p B V0 w)(m:mQ kZ (v10 p B undef) (pN B) 36 listed a)(hr:7∈Region.ready .any kZ listed)(h8:listed.getD 8 false=false)(hu:mY kZ listed≤fuel+1)(k:∀w',w'.heap=w.heap→w'.os=w.os→kv Tryz.prog Any Shun Q (G (c.finish ret) cs) w'):kv Tryz.prog Any Shun Q (G ((wf.at a (.inRegion kZ (7::Region.linearise.go .any kZ fuel t (listed.setIfInBounds 7 true) [])::[.code .ret])).finish ret) (c::cs)) w:=by
 obtain⟨o,ab,C,od,ad,og⟩:=Aw;rw[ft,C];have h7:listed.getD 7 false=false:=ym m.kR hr;have hT:mQ kZ (v10 p B ret) (pN B) 36 (listed.setIfInBounds 7 true) (a.put o.dst ret):=m.put Av C hr rfl fun j y=>by
  have e7:j≠7:=fun e=>by rw[e,h7]at y;cases y
  have e8:j≠8:=fun e=>by rw[e,h8]at y;cases y
  unfold v10;split<;>first|rfl|exact absurd rfl e7|exact absurd rfl e8
 have H:7<listed.size:=by rw[m.kR,te];decide
 have ae:=rz (ops:=kZ) (listed:=listed) (i:=7) (by rw[te];decide) m.kR h7;have hw:=wV (P:=Tryz.prog) (mn:=true) (R:=RK Tryz.link.tWg B.Wg V0) (S:=V0) (ops:=kZ) (val:=v10 p B ret) (fix:=pN B) (T:=36) (sp:=fun i=>i == 7) (L0:=fun _=>true) (Sok:=MF p B V0) (b:=wf) (k:=[.code .ret]) (cs:=c::cs)
  RK.trans (fun w w₁ h hF=>hF.keep h.keep) Av (by decide) (fun i o listed a w C hr kp m hF=>by
   by_cases e:i=8
   ·subst e;obtain⟨I,K⟩:=Ly (w:=w) C hr m;exact⟨I,fun e he=>(K e he).elim⟩
   ·exact Dw i o listed a w C hr (by simp only[yw]at *;simp at kp ⊢;exact⟨kp,e⟩) m hF) fuel t _ _ w hT (fun j y=>by
    obtain rfl:j=7:=by simpa using y
    rw[mX _ _ _ H,dr rfl]) hF (by omega)
 refine kv.goes (W:=fun _=>False) hV F (Goes.vI (fun _ _ _ h=>DM.Dx h) hw) fun g' w' hs hsz L hh=>?_
 obtain⟨af,M,D,q,O,⟨i,U,t2,hi,Y,ag,rfl⟩|⟨E,rfl⟩⟩:=hs
 ·have:=ym q.kR Y;rw[O i hi]at this
  cases this
 ·have u:w'.heap=w.heap:=by
   apply dP;intro i;exact hh i id
  refine kv.c0 rfl (fun w=>stepG_region_end) fun w1 I o1=>?_
  refine kv.c0 rfl (fun w=>stepG_ret') fun w2 K o2=>?_
  refine kv.c0 (g':=G (c.finish ret) cs) rfl (fun w=>?_) fun w3 h3 o3=>k w3 (h3.trans (K.trans (I.trans u))) (o3.trans (o2.trans (o1.trans L)))
  have f:Tryz.f35.results=#[.tmp 4]:=rfl;obtain⟨o8,Z,aa⟩:=Lz;have h4:M.tmps.getD 4 undef=ret:=by
   have:=q.val 8 o8 4 Z (E 8 (by rw[te];decide)) aa;rw[dA,this];rfl
  have:=stepG_leave (P:=Tryz.prog) (main:=true) (b:=wf) (a:=M) (todo:=[.code .ret]) (c:=c) (cs:=cs) (w:=w) (v:=M.tmps.getD 4 undef) rfl q.defers Tryz.func35 (fB f _ _ _) (fC f _ _);rw[h4]at this;exact this
end
end
section
open Go.Conc Go.ConcN Go.Conc.Lib Go.ConcR.Gen Go.ConcN.Gen Go.Proofs.YtjnkcibpkkjniaaGreat.kx
open Go.ConcR (KK wgBlock WgAt stA smA rd wr mk DC0)
variable [Scope]
section
variable {p:WI} {B:WB} {Shun:Loc→Prop} {V0:Nat→Prop} {us cs:List Frame} {c:Frame} {wo:World} {RB:Nat} {rep:Array Value} {v8 v15 v16 v17 v18 v19 v20 v21 v22 v23 v24:Value} {Q:Goroutine→World→Prop} {msg v:Nat→Value} {cap sent r:Nat} {wait got:List Nat}
theorem MF.old{w:World}(hF:MF p B V0 wo)(f:tj B.CB RB wo w)(e:∀b,V0 b→b<wo.heap.size∧b≠B.CB∧b≠RB):MF p B V0 w :=
 hF.keep fun b hb=>f.heap b (e b hb).1 (e b hb).2.1 (e b hb).2.2
theorem LB(hS:∀b,V0 b∨b=RB∨wo.heap.size≤b→∀l,lq b l→¬Shun l)(hV:∀b,V0 b→b<wo.heap.size∧b≠B.CB∧b≠RB)(O:RB≠B.CB)(hF:MF p B V0 wo)(hU:Az p B (c::cs) us)(hC:wo.heap[B.CB]?=some (.chan cap (wait.map msg).toArray false sent r false))(hR:wo.heap[RB]?=some (.cells rep 140))(hL:tV p rep v got)(hN:wait.length<2147483647)(hA:∀i∈wait,i<p.xl∧AD (v i)∧msg i=.agg (#[.int .i64 i]++(v i).cells))(kk:∀w' e,w'.heap[RB]?=some (.cells e 140)→tV p e v (got++wait)→tj B.CB RB wo w'→kv Tryz.prog Any Shun Q (G (c.finish (kQ p RB)) cs) w'):kv Tryz.prog Any Shun Q (G (mZ.at ⟨GT p B RB v8 (.chan (some B.CB)) (.chan (some B.CF)) (.tuple #[.int .i64 1,.bool false,mh,ot]) v15 v16 v17 v18 v19 v20 v21 v22 v23 v24,[]⟩ [.inRegion rI [1,2,3],.code oh,.inBlock 1,.inLoop nn,.inBlock 0]) us) wo:=by
 have D:RB<wo.heap.size:=(dv.1 hR).1;have R:B.CB<wo.heap.size:=(dv.1 hC).1;have k:∀b,b=RB→∀l,lq b l→¬Shun l:=fun b hb=>hS b (.inr (.inl hb))
 refine kv.goes (ty:=Tryz.link.tWg) (Wg:=B.Wg) (V:=fun b=>b=RB) (W:=fun _=>False) k (fun b hb=>by rw[hb];exact D) (Ll (B:=B) ⟨rfl,hR⟩) (fun g1 w1 E hsz S hh=>?_);obtain⟨U,rfl⟩:=E;have m:tj B.CB RB wo w1:=⟨Nat.le_of_eq hsz.symm,S,fun b _ _ _=>hh b id⟩;have F:=(hh B.CB id).trans hC;refine Ln F fun d=>?_
 have Y:((wait.map msg).toArray.size:Int)=((wait.length:Nat):Int):=by simp
 rw[Y];refine kv.goes (ty:=Tryz.link.tWg) (Wg:=B.Wg) (V:=fun b=>b=RB) (W:=fun _=>False) k (fun b hb=>by rw[hb];show RB<w1.heap.size;omega) (Lo (B:=B) (w:=w1.at d) ⟨rfl,U.o⟩) (fun g2 w2 E H I K=>?_);obtain⟨Z,rfl⟩:=E;have aa:tj B.CB RB wo w2:=⟨by rw[H];exact m.size,I.trans m.os,fun b q u y=>(K b id).trans (m.heap b q u y)⟩;have ab:=(K B.CB id).trans (show(w1.at d).heap[B.CB]?=_ from F);refine Lv (wo:=wo) hN (fun b hb=>hS b (.inr hb)) O D R wait got 0 (by omega) ab Z.o hL hA aa fun w3 e v9 lQ ml v30 lH lI lJ lK lR lS lL ad ae h=>?_
 refine kv.goes (ty:=Tryz.link.tWg) (Wg:=B.Wg) (V:=fun b=>b=RB) (W:=fun _=>False) k (fun b hb=>by have:=h.size;rw[hb];omega) (Lw (B:=B) ⟨rfl,ad⟩) (fun g4 w4 E L M af=>?_);obtain⟨ag,rfl⟩:=E;have C:tj B.CB RB wo w4:=⟨by rw[L];exact h.size,M.trans h.os,fun b q u y=>(af b id).trans (h.heap b q u y)⟩;obtain⟨a,listed,fuel,t,ht,hr,h8,hu,rfl⟩:=hU;unfold yx;refine Lx (ret:=kQ p RB) (by simp[GE,GD]) fun w5 h5 o5=>?_
 have f:tj B.CB RB wo w5:=⟨by rw[h5];exact C.size,o5.trans C.os,fun b q u y=>by rw[h5];exact C.heap b q u y⟩;refine LA (V0:=V0) (fun b hb=>hS b (.inl hb)) (fun b hb=>dF (hV b hb).1 f.size) (hF.old f hV) ht hr h8 hu fun w6 h6 o6=>?_
 exact kk w6 e (by rw[h6,h5];exact ag.o) ae ⟨by rw[h6];exact f.size,o6.trans f.os,fun b q u y=>by rw[h6];exact f.heap b q u y⟩
end
end
end Go.Proofs.YtjnkcibpkkjniaaGreat.kN
namespace Go.Proofs.YtjnkcibpkkjniaaGreat.kx
inductive Nm:Value→Nat→Prop
 |ptr (a:Addr):Nm (.pointer (some a)) a.block
 |slice (a:Addr) (l c:Nat):Nm (.slice (some a) l c) a.block
 |map (r:Nat):Nm (.map (some r)) r
 |caps {f:Fn} {xs ys:Array Value} {i:Nat} {v:Value} {b:Nat}:xs[i]?=some v→Nm v b→Nm (.func f xs ys) b
 |DJ {f:Fn} {xs ys:Array Value} {i:Nat} {v:Value} {b:Nat}:ys[i]?=some v→Nm v b→Nm (.func f xs ys) b
 |iface {t:TypeId} {v:Value} {b:Nat}:Nm v b→Nm (.iface t v) b
 |agg {xs:Array Value} {i:Nat} {v:Value} {b:Nat}:xs[i]?=some v→Nm v b→Nm (.agg xs) b
 |tuple {xs:Array Value} {i:Nat} {v:Value} {b:Nat}:xs[i]?=some v→Nm v b→Nm (.tuple xs) b
inductive rK (w:World) (A:Array Value):Nat→Prop
 |arg {i:Nat} {v:Value} {b:Nat}:A[i]?=some v→Nm v b→rK w A b
 |cell {b b':Nat} {c:Array Value} {e:TypeId} {fr:Nat×Nat} {i:Nat} {v:Value}:rK w A b→w.heap[b]?=some (.cells c e fr)→c[i]?=some v→Nm v b'→rK w A b'
 |num {b:Nat} {ad:Addr} {lost:Bool}:rK w A b→w.heap[b]?=some (.number ad lost)→rK w A ad.block
 |key {b b':Nat} {es:Array MapEntry} {clk:Nat} {i:Nat} {x:MapEntry}:rK w A b→w.heap[b]?=some (.map es clk)→es[i]?=some x→(Nm x.key b'∨Nm x.val b')→rK w A b'
section
variable [Scope]
theorem VR.named{ρ:j7}{v v':Value}{b:Nat}(e:Nm v b):VR ρ v v'→∃p,ρ b=some p:=by
 intro h
 induction h generalizing b with
 |ptr y=>cases e;obtain⟨_,p,hp,_⟩:=y;exact⟨p,hp⟩
 |slice l c y=>cases e;obtain⟨_,p,hp,_⟩:=y;exact⟨p,hp⟩
 |map hr=>cases e;exact⟨_,hr⟩
 |func _ q _ F _ C D =>
  cases e with
  |caps f e=>obtain⟨v',m⟩:=oS q f;exact C _ _ _ f m e
  |DJ f e=>obtain⟨v',m⟩:=oS F f;exact D _ _ _ f m e
 |iface _ u=>cases e with|iface e=>exact u e
 |agg q _ u=>cases e with|agg f e=>obtain⟨v',m⟩:=oS q f;exact u _ _ _ f m e
 |tuple q _ u=>cases e with|tuple f e=>obtain⟨v',m⟩:=oS q f;exact u _ _ _ f m e
 |bool b=>cases e
 |int k n=>cases e
 |string s=>cases e
 |o4=>cases e
 |mI l c=>cases e
 |qS=>cases e
 |rr=>cases e
 |nilFunc=>cases e
 |nilIface=>cases e
 |nD _ E=>cases e;obtain⟨b,x,E⟩:=E;exact⟨_,E⟩
 |hole _ _=>cases e
 |o7 _ =>
  cases e with
  | @caps _ _ _ i _ _ f e =>
   match i,f with
   |0,f=>simp at f;subst f;cases e with|iface e=>cases e
   |i+1,f=>simp at f
  |DJ f e=>simp at f
theorem ki.named{ρ:j7}{xs ys:Array Value}(h:ki ρ xs ys){i:Nat}{v:Value}{b:Nat}(f:xs[i]?=some v)(k:Nm v b):∃p,ρ b=some p:=by
 obtain⟨v',e⟩:=oS h.size f;exact VR.named k (h.get i v v' f e)
theorem HR.reached{ρ:j7}{w w':World}(h:HR ρ w w')(hw:∀b p,ρ b=some p→p.part=none∨∃ty,p.part=some ⟨0,0,ty⟩){A H:Array Value}(I:ki ρ A H){b:Nat}(hr:rK w A b):∃p,ρ b=some p:=by
 induction hr with
 |arg q k=>exact I.named q k
 |cell _ hb q k C =>
  obtain⟨p,hp⟩:=C;obtain⟨o,o',u,_,f⟩:=h.obj _ p hp;unfold mD at f;rw[hb]at u
  cases u
  rcases hw _ p hp with e|⟨ty,e⟩
  ·rw[e]at f
   cases f with
   |cells D=>exact D.named q k
  ·rw[e]at f;rcases f with⟨_,_,_,c1,E,F,_,m,_,D⟩|⟨c1,E,m,_,_,hr⟩
   ·cases m;exact D.named q k
   ·cases m
    have:=(dv.1 q).1;have R:=hr.size;omega
 |num _ hb C =>
  obtain⟨p,hp⟩:=C;obtain⟨o,o',u,_,f⟩:=h.obj _ p hp;unfold mD at f;rw[hb]at u
  cases u
  rcases hw _ p hp with e|⟨ty,e⟩
  rotate_left
  ·rw[e]at f;rcases f with⟨_,_,_,c1,E,F,_,m,_,D⟩|⟨c1,E,m,_,_,hr⟩<;>cases m
  rw[e]at f
  cases f with
  |number K=>obtain⟨_,p2,G,_⟩:=K;exact⟨p2,G⟩
 |key _ hb q k C =>
  obtain⟨p,hp⟩:=C;obtain⟨o,o',u,_,f⟩:=h.obj _ p hp;unfold mD at f;rw[hb]at u
  cases u
  rcases hw _ p hp with e|⟨ty,e⟩
  rotate_left
  ·rw[e]at f;rcases f with⟨_,_,_,c1,E,F,_,m,_,D⟩|⟨c1,E,m,_,_,hr⟩<;>cases m
  rw[e]at f
  cases f with
  | @map es ES clk L M =>
   obtain⟨y,O⟩:∃y,ES[_]?=some y:=⟨_,dw (by rw[←L];exact(dv.1 q).1)⟩;obtain⟨k1,k2,_⟩:=M _ _ _ q O;rcases k with k|k
   ·exact VR.named k k1
   ·exact VR.named k k2
theorem ki.diag{ρ:j7}{xs:Array Value}(h:∀(i:Nat) v,xs[i]?=some v→VR ρ v v):ki ρ xs xs:=⟨rfl,fun i v v' a b=>by rw[a]at b;cases b;exact h i v a⟩
end
section
open Go Go.Proofs
def isChan (P:Program) (t:TypeId):Bool:=match P.underlying t with|some (.chan _ _)=>true|_=>false
theorem DK:((Tryz.prog.info? 0).map fun i=>(i.methods.find? (·.name == "")).isNone)=some true:=by kernel_rfl
theorem DL:Tryz.prog.types.all pM=true:=by kernel_rfl
def xq:List FuncId:=[38,41,60,79,116,117,118,119,140,141,142,143,144,145,146,147,148,149,154,155,156,157,158,164,165,166,167,168,169,170,171,172,173,174,175,176,177,178,179]
@[reducible] noncomputable def kl:Scope:={ ok:=fun f=>xq.contains f,base:=Tryz.prog.globals.size,cells:=fun t=>Tryz.prog.cellsOf t,sync:=false,chans:=isChan Tryz.prog }
theorem LC:@kj kl Tryz.prog 38=true:=by kernel_rfl
theorem LD:@kj kl Tryz.prog 41=true:=by kernel_rfl
theorem LF:@kj kl Tryz.prog 60=true:=by kernel_rfl
theorem LG:@kj kl Tryz.prog 79=true:=by kernel_rfl
theorem LH:@kj kl Tryz.prog 116=true:=by kernel_rfl
theorem LI:@kj kl Tryz.prog 117=true:=by kernel_rfl
theorem LJ:@kj kl Tryz.prog 118=true:=by kernel_rfl
theorem LK:@kj kl Tryz.prog 119=true:=by kernel_rfl
theorem LL:@kj kl Tryz.prog 140=true:=by kernel_rfl
theorem LM:@kj kl Tryz.prog 141=true:=by kernel_rfl
theorem LN:@kj kl Tryz.prog 142=true:=by kernel_rfl
theorem LO:@kj kl Tryz.prog 143=true:=by kernel_rfl
theorem LP:@kj kl Tryz.prog 144=true:=by kernel_rfl
theorem LQ:@kj kl Tryz.prog 145=true:=by kernel_rfl
theorem LR:@kj kl Tryz.prog 146=true:=by kernel_rfl
theorem LS:@kj kl Tryz.prog 147=true:=by kernel_rfl
theorem LU:@kj kl Tryz.prog 148=true:=by kernel_rfl
theorem LV:@kj kl Tryz.prog 149=true:=by kernel_rfl
theorem LW:@kj kl Tryz.prog 154=true:=by kernel_rfl
theorem LX:@kj kl Tryz.prog 155=true:=by kernel_rfl
theorem LY:@kj kl Tryz.prog 156=true:=by kernel_rfl
theorem LZ:@kj kl Tryz.prog 157=true:=by kernel_rfl
theorem L1:@kj kl Tryz.prog 158=true:=by kernel_rfl
theorem L2:@kj kl Tryz.prog 164=true:=by kernel_rfl
theorem L3:@kj kl Tryz.prog 165=true:=by kernel_rfl
theorem L4:@kj kl Tryz.prog 166=true:=by kernel_rfl
theorem L5:@kj kl Tryz.prog 167=true:=by kernel_rfl
theorem L6:@kj kl Tryz.prog 168=true:=by kernel_rfl
theorem L8:@kj kl Tryz.prog 169=true:=by kernel_rfl
theorem L9:@kj kl Tryz.prog 170=true:=by kernel_rfl
theorem Ma:@kj kl Tryz.prog 171=true:=by kernel_rfl
theorem Mb:@kj kl Tryz.prog 172=true:=by kernel_rfl
theorem Mc:@kj kl Tryz.prog 173=true:=by kernel_rfl
theorem Md:@kj kl Tryz.prog 174=true:=by kernel_rfl
theorem Me:@kj kl Tryz.prog 175=true:=by kernel_rfl
theorem Mf:@kj kl Tryz.prog 176=true:=by kernel_rfl
theorem Mg:@kj kl Tryz.prog 177=true:=by kernel_rfl
theorem Mh:@kj kl Tryz.prog 178=true:=by kernel_rfl
theorem Mi:@kj kl Tryz.prog 179=true:=by kernel_rfl
theorem Mj:xq.all (@kj kl Tryz.prog)=true:=by
 simp only[xq,eD,List.all_nil,Bool.and_true,LC,LD,LF,LG,LH,LI,LJ,LK,LL,LM,LN,LO,LP,LQ,LR,LS,LU,LV,LW,LX,LY,LZ,L1,L2,L3,L4,L5,L6,L8,L9,Ma,Mb,Mc,Md,Me,Mf,Mg,Mh,Mi]
theorem DN:@lV kl Tryz.prog:=@CP kl Tryz.prog xq (fun f e=>iG.1 e) Mj
theorem DO:@kD kl Tryz.prog:=@CO kl Tryz.prog DL (dD _) (fun _=>rfl) DK (fun t d e h=>by show isChan Tryz.prog t=true;unfold isChan;rw[h])
def xr:List FuncId:=[12,13,15,16,18,19,20,22,23,24,26,27,28,29,30,31,32,33,34,36,37,38,39,40,41,43,44,45,47,48,49,50,51,52,53,54,55,56,57,60,64,65,66,67,68,69,70,71,72,73,74,79,90,91,92,93,94,95,96,97,98,99,100,101,102,103,104,105,106,107,116,117,118,119,122,123,124,125,126,127,128,129,130,131,132,133,134,135,136,140,141,142,143,144,145,146,147,148,149,150,151,152,153,154,155,156,157,158,159,160,161,162,163,164,165,166,167,168,169,170,171,172,173,174,175,176,177,178,179]
@[reducible] noncomputable def j9:Scope:={ ok:=fun f=>xr.contains f,base:=Tryz.prog.globals.size,cells:=fun t=>Tryz.prog.cellsOf t,sync:=true,chans:=isChan Tryz.prog }
theorem Mk:@kj j9 Tryz.prog 12=true:=by kernel_rfl
theorem Ml:@kj j9 Tryz.prog 13=true:=by kernel_rfl
theorem Mm:@kj j9 Tryz.prog 15=true:=by kernel_rfl
theorem Mn:@kj j9 Tryz.prog 16=true:=by kernel_rfl
theorem Mo:@kj j9 Tryz.prog 18=true:=by kernel_rfl
theorem Mp:@kj j9 Tryz.prog 19=true:=by kernel_rfl
theorem Mq:@kj j9 Tryz.prog 20=true:=by kernel_rfl
theorem Mr:@kj j9 Tryz.prog 22=true:=by kernel_rfl
theorem Ms:@kj j9 Tryz.prog 23=true:=by kernel_rfl
theorem Mt:@kj j9 Tryz.prog 24=true:=by kernel_rfl
theorem Mu:@kj j9 Tryz.prog 26=true:=by kernel_rfl
theorem Mv:@kj j9 Tryz.prog 27=true:=by kernel_rfl
theorem Mw:@kj j9 Tryz.prog 28=true:=by kernel_rfl
theorem Mx:@kj j9 Tryz.prog 29=true:=by kernel_rfl
theorem My:@kj j9 Tryz.prog 30=true:=by kernel_rfl
theorem Mz:@kj j9 Tryz.prog 31=true:=by kernel_rfl
theorem MA:@kj j9 Tryz.prog 32=true:=by kernel_rfl
theorem MB:@kj j9 Tryz.prog 33=true:=by kernel_rfl
theorem MC:@kj j9 Tryz.prog 34=true:=by kernel_rfl
theorem MD:@kj j9 Tryz.prog 36=true:=by kernel_rfl
theorem ME:@kj j9 Tryz.prog 37=true:=by kernel_rfl
theorem MG:@kj j9 Tryz.prog 38=true:=by kernel_rfl
theorem MH:@kj j9 Tryz.prog 39=true:=by kernel_rfl
theorem MI:@kj j9 Tryz.prog 40=true:=by kernel_rfl
theorem MJ:@kj j9 Tryz.prog 41=true:=by kernel_rfl
theorem MK:@kj j9 Tryz.prog 43=true:=by kernel_rfl
theorem ML:@kj j9 Tryz.prog 44=true:=by kernel_rfl
theorem MM:@kj j9 Tryz.prog 45=true:=by kernel_rfl
theorem MN:@kj j9 Tryz.prog 47=true:=by kernel_rfl
theorem MO:@kj j9 Tryz.prog 48=true:=by kernel_rfl
theorem MP:@kj j9 Tryz.prog 49=true:=by kernel_rfl
theorem MQ:@kj j9 Tryz.prog 50=true:=by kernel_rfl
theorem MS:@kj j9 Tryz.prog 51=true:=by kernel_rfl
theorem MT:@kj j9 Tryz.prog 52=true:=by kernel_rfl
theorem MU:@kj j9 Tryz.prog 53=true:=by kernel_rfl
theorem MV:@kj j9 Tryz.prog 54=true:=by kernel_rfl
theorem MW:@kj j9 Tryz.prog 55=true:=by kernel_rfl
theorem MX:@kj j9 Tryz.prog 56=true:=by kernel_rfl
theorem MY:@kj j9 Tryz.prog 57=true:=by kernel_rfl
theorem MZ:@kj j9 Tryz.prog 60=true:=by kernel_rfl
theorem M0:@kj j9 Tryz.prog 64=true:=by kernel_rfl
theorem M1:@kj j9 Tryz.prog 65=true:=by kernel_rfl
theorem M3:@kj j9 Tryz.prog 66=true:=by kernel_rfl
theorem M4:@kj j9 Tryz.prog 67=true:=by kernel_rfl
theorem M5:@kj j9 Tryz.prog 68=true:=by kernel_rfl
theorem M6:@kj j9 Tryz.prog 69=true:=by kernel_rfl
theorem M7:@kj j9 Tryz.prog 70=true:=by kernel_rfl
theorem M8:@kj j9 Tryz.prog 71=true:=by kernel_rfl
theorem M9:@kj j9 Tryz.prog 72=true:=by kernel_rfl
theorem Na:@kj j9 Tryz.prog 73=true:=by kernel_rfl
theorem Nc:@kj j9 Tryz.prog 74=true:=by kernel_rfl
theorem Nd:@kj j9 Tryz.prog 79=true:=by kernel_rfl
theorem Nf:@kj j9 Tryz.prog 90=true:=by kernel_rfl
theorem Ng:@kj j9 Tryz.prog 91=true:=by kernel_rfl
theorem Nh:@kj j9 Tryz.prog 92=true:=by kernel_rfl
theorem Ni:@kj j9 Tryz.prog 93=true:=by kernel_rfl
theorem Nj:@kj j9 Tryz.prog 94=true:=by kernel_rfl
theorem Nk:@kj j9 Tryz.prog 95=true:=by kernel_rfl
theorem Nl:@kj j9 Tryz.prog 96=true:=by kernel_rfl
theorem Np:@kj j9 Tryz.prog 97=true:=by kernel_rfl
theorem Nq:@kj j9 Tryz.prog 98=true:=by kernel_rfl
theorem Nr:@kj j9 Tryz.prog 99=true:=by kernel_rfl
theorem Ns:@kj j9 Tryz.prog 100=true:=by kernel_rfl
theorem Nt:@kj j9 Tryz.prog 101=true:=by kernel_rfl
theorem Nu:@kj j9 Tryz.prog 102=true:=by kernel_rfl
theorem Nv:@kj j9 Tryz.prog 103=true:=by kernel_rfl
theorem Nw:@kj j9 Tryz.prog 104=true:=by kernel_rfl
theorem Ny:@kj j9 Tryz.prog 105=true:=by kernel_rfl
theorem Nz:@kj j9 Tryz.prog 106=true:=by kernel_rfl
theorem NA:@kj j9 Tryz.prog 107=true:=by kernel_rfl
theorem NB:@kj j9 Tryz.prog 116=true:=by kernel_rfl
theorem NC:@kj j9 Tryz.prog 117=true:=by kernel_rfl
theorem ND:@kj j9 Tryz.prog 118=true:=by kernel_rfl
theorem NF:@kj j9 Tryz.prog 119=true:=by kernel_rfl
theorem NG:@kj j9 Tryz.prog 122=true:=by kernel_rfl
theorem NH:@kj j9 Tryz.prog 123=true:=by kernel_rfl
theorem NJ:@kj j9 Tryz.prog 124=true:=by kernel_rfl
theorem NK:@kj j9 Tryz.prog 125=true:=by kernel_rfl
theorem NL:@kj j9 Tryz.prog 126=true:=by kernel_rfl
theorem NM:@kj j9 Tryz.prog 127=true:=by kernel_rfl
theorem NN:@kj j9 Tryz.prog 128=true:=by kernel_rfl
theorem NO:@kj j9 Tryz.prog 129=true:=by kernel_rfl
theorem NP:@kj j9 Tryz.prog 130=true:=by kernel_rfl
theorem NQ:@kj j9 Tryz.prog 131=true:=by kernel_rfl
theorem NS:@kj j9 Tryz.prog 132=true:=by kernel_rfl
theorem NT:@kj j9 Tryz.prog 133=true:=by kernel_rfl
theorem NU:@kj j9 Tryz.prog 134=true:=by kernel_rfl
theorem NV:@kj j9 Tryz.prog 135=true:=by kernel_rfl
theorem NW:@kj j9 Tryz.prog 136=true:=by kernel_rfl
theorem NX:@kj j9 Tryz.prog 140=true:=by kernel_rfl
theorem NY:@kj j9 Tryz.prog 141=true:=by kernel_rfl
theorem NZ:@kj j9 Tryz.prog 142=true:=by kernel_rfl
theorem N5:@kj j9 Tryz.prog 143=true:=by kernel_rfl
theorem N6:@kj j9 Tryz.prog 144=true:=by kernel_rfl
theorem N7:@kj j9 Tryz.prog 145=true:=by kernel_rfl
theorem N8:@kj j9 Tryz.prog 146=true:=by kernel_rfl
theorem N9:@kj j9 Tryz.prog 147=true:=by kernel_rfl
theorem Oa:@kj j9 Tryz.prog 148=true:=by kernel_rfl
theorem Ob:@kj j9 Tryz.prog 149=true:=by kernel_rfl
theorem Oc:@kj j9 Tryz.prog 150=true:=by kernel_rfl
theorem Od:@kj j9 Tryz.prog 151=true:=by kernel_rfl
theorem Oe:@kj j9 Tryz.prog 152=true:=by kernel_rfl
theorem Of:@kj j9 Tryz.prog 153=true:=by kernel_rfl
theorem Og:@kj j9 Tryz.prog 154=true:=by kernel_rfl
theorem Oh:@kj j9 Tryz.prog 155=true:=by kernel_rfl
theorem Oi:@kj j9 Tryz.prog 156=true:=by kernel_rfl
theorem Oj:@kj j9 Tryz.prog 157=true:=by kernel_rfl
theorem Ok:@kj j9 Tryz.prog 158=true:=by kernel_rfl
theorem Ol:@kj j9 Tryz.prog 159=true:=by kernel_rfl
theorem Om:@kj j9 Tryz.prog 160=true:=by kernel_rfl
theorem On:@kj j9 Tryz.prog 161=true:=by kernel_rfl
theorem Oo:@kj j9 Tryz.prog 162=true:=by kernel_rfl
theorem Oq:@kj j9 Tryz.prog 163=true:=by kernel_rfl
theorem Ot:@kj j9 Tryz.prog 164=true:=by kernel_rfl
theorem Ou:@kj j9 Tryz.prog 165=true:=by kernel_rfl
theorem Ov:@kj j9 Tryz.prog 166=true:=by kernel_rfl
theorem Ow:@kj j9 Tryz.prog 167=true:=by kernel_rfl
theorem Ox:@kj j9 Tryz.prog 168=true:=by kernel_rfl
theorem Oy:@kj j9 Tryz.prog 169=true:=by kernel_rfl
theorem Oz:@kj j9 Tryz.prog 170=true:=by kernel_rfl
theorem OA:@kj j9 Tryz.prog 171=true:=by kernel_rfl
theorem OB:@kj j9 Tryz.prog 172=true:=by kernel_rfl
theorem OC:@kj j9 Tryz.prog 173=true:=by kernel_rfl
theorem OD:@kj j9 Tryz.prog 174=true:=by kernel_rfl
theorem OE:@kj j9 Tryz.prog 175=true:=by kernel_rfl
theorem OG:@kj j9 Tryz.prog 176=true:=by kernel_rfl
theorem OH:@kj j9 Tryz.prog 177=true:=by kernel_rfl
theorem OI:@kj j9 Tryz.prog 178=true:=by kernel_rfl
theorem OJ:@kj j9 Tryz.prog 179=true:=by kernel_rfl
theorem OK:xr.all (@kj j9 Tryz.prog)=true:=by
 simp only[xr,eD,List.all_nil,Bool.and_true,Mk,Ml,Mm,Mn,Mo,Mp,Mq,Mr,Ms,Mt,Mu,Mv,Mw,Mx,My,Mz,MA,MB,MC,MD,ME,MG,MH,MI,MJ,MK,ML,MM,MN,MO,MP,MQ,MS,MT,MU,MV,MW,MX,MY,MZ,M0,M1,M3,M4,M5,M6,M7,M8,M9,Na,Nc,Nd,Nf,Ng,Nh,Ni,Nj,Nk,Nl,Np,Nq,Nr,Ns,Nt,Nu,Nv,Nw,Ny,Nz,NA,NB,NC,ND,NF,NG,NH,NJ,NK,NL,NM,NN,NO,NP,NQ,NS,NT,NU,NV,NW,NX,NY,NZ,N5,N6,N7,N8,N9,Oa,Ob,Oc,Od,Oe,Of,Og,Oh,Oi,Oj,Ok,Ol,Om,On,Oo,Oq,Ot,Ou,Ov,Ow,Ox,Oy,Oz,OA,OB,OC,OD,OE,OG,OH,OI,OJ]
theorem AE:@lV j9 Tryz.prog:=@CP j9 Tryz.prog xr (fun f e=>iG.1 e) OK
theorem AF:@kD j9 Tryz.prog:=@CO j9 Tryz.prog DL (dD _) (fun _=>rfl) DK (fun t d e h=>by show isChan Tryz.prog t=true;unfold isChan;rw[h])
end
end Go.Proofs.YtjnkcibpkkjniaaGreat.kx
namespace Go.Proofs.YtjnkcibpkkjniaaGreat.kN
section
open Go.Conc Go.ConcN Go.Conc.Lib Go.ConcR.Gen Go.ConcN.Gen Go.Proofs.YtjnkcibpkkjniaaGreat.kx
open Go.ConcR (KK wgBlock WgAt stA smA rd wr mk DC0)
section
variable [Scope]
theorem lD.OL{S:Loc→Prop}{w:World}{ρ:j7}{a b:Frame}(k:lD S ρ w a b)(hm:∀(i:Nat) v v',a.tmps[i]?=some v→lu v=false∧(VR ρ v v'→v'=v)):b=a:=by
 have G:=k.fn;have H:=tL k.tmps.size fun i v v' x y=>(hm i v v' x).2 ((k.tmps.get i v v' x y).vr (hm i v v' x).1)
 have I:=k.todo;have f:=k.defers;have K:=k.mode.1;have h:=k.kind;have m:=k.round;obtain⟨fn,tmps,R,defers,mode,kind,ro⟩:=a;obtain⟨L,q,M,e,u,C,O⟩:=b;simp only at G H I f K h m;obtain⟨f,D⟩:=f;obtain⟨h,E⟩:=h;obtain⟨m,F⟩:=m;subst G H I f D K h E m F;rfl
def uW (x:Frame) (b:Nat):Prop:=∃(j:Nat)(v:Value),x.tmps[j]?=some v∧lu v=false∧Nm v b
theorem lD.named{S:Loc→Prop}{w:World}{ρ:j7}{a b:Frame}(k:lD S ρ w a b){r:Nat}(h:uW a r):∃pl,ρ r=some pl:=by
 obtain⟨j,v,f,m,q⟩:=h;obtain⟨v',e,u⟩:=k.tmps.at_ f;exact VR.named q (u.vr m)
theorem qU.mem{S:Loc→Prop}{w:World}{ρ:j7}{a b:List Frame}(k:qU S ρ w a b){x:Frame}(hx:x∈a):∃y,lD S ρ w x y:=by
 induction k with
 |nil=>cases hx
 |cons e _ f =>
  rcases fN.1 hx with rfl|hx
  ·exact⟨_,e⟩
  ·exact f hx
end
noncomputable def rL (p:WI):Frame:=wf.at ⟨#[p.s,p.nQ]++Array.replicate 34 undef,[]⟩ [.code (Tryz.f35.body.getD .skip)]
theorem OM(a b:Value)(f:lu a=false)(hb:lu b=false)(n:Nat):∀(i:Nat) v,(#[a,b]++Array.replicate n undef)[i]?=some v→lu v=false:=by
 intro i v e;rw[du]at e;split at e
 ·match i,e with
  |0,e=>simp at e;rw[←e];exact f
  |1,e=>simp at e;rw[←e];exact hb
  |i+2,e=>simp at e
 ·rw[dz]at e;split at e
  ·cases e;rfl
  ·cases e
theorem ON(p:WI):∀(i:Nat) v,(rL p).tmps[i]?=some v→lu v=false:=OM p.s p.nQ rfl rfl 34
theorem DT:∀f,kl.ok f=true→j9.ok f=true:=by
 intro f e;have h:(xq.all fun f=>xr.contains f)=true:=by kernel_rfl
 have:=eu.1 h f (iG.1 e);exact this
theorem AR.self{SM:Scope}{S:Nat→Prop}{b o:Nat}(h:S b)(hb:SM.base≤b):@AR SM (oE S) ⟨b,o,none⟩ ⟨b,o,none⟩:=⟨hb,⟨b,none⟩,yg h,rfl,by simp[Place.shift],rfl⟩
end
end Go.Proofs.YtjnkcibpkkjniaaGreat.kN
namespace Go.Proofs.YtjnkcibpkkjniaaGreat.kx
section
variable {SW SM:Scope}
theorem AR.rM{ρ:j7}{S:Nat→Prop}(hb:SM.base=0)(hS:∀y pl,ρ y=some pl→S pl.block){a a':Addr}(h:@AR SW ρ a a'):@AR SM (oE S) a' a':=by
 obtain⟨f,p,hp,e,k,m⟩:=h;exact⟨by rw[hb];exact eP _,⟨a'.block,none⟩,yg (by rw[e];exact hS _ _ hp),rfl,by simp[Place.shift],rfl⟩
theorem VR.rM{ρ:j7}{S:Nat→Prop}(e:SW.sync=false)(hb:SM.base=0)(u:∀f,SW.ok f=true→SM.ok f=true)(hS:∀y pl,ρ y=some pl→S pl.block){v v':Value}(h:@VR SW ρ v v'):@VR SM (oE S) v' v':=by
 induction h with
 |bool b=>exact .bool b
 |int k n=>exact .int k n
 |string s=>exact .string s
 |o4=>exact .o4
 |ptr C=>exact .ptr (AR.rM hb hS C)
 |mI l c=>exact .mI l c
 |slice l c C=>exact .slice l c (AR.rM hb hS C)
 |qS=>exact .qS
 |map hr=>exact .map (yg (hS _ _ hr))
 |rr=>exact .rr
 |func F m _ G _ D E =>
  refine .func (u _ F) rfl (fun i v v' a b=>?_) rfl (fun i v v' a b=>?_)
  ·obtain⟨x,hx⟩:=oS m.symm a;rw[a]at b;cases b
   exact D i x _ hx a
  ·obtain⟨x,hx⟩:=oS G.symm a;rw[a]at b;cases b
   exact E i x _ hx a
 |nilFunc=>exact .nilFunc
 |iface _ q=>exact .iface q
 |nilIface=>exact .nilIface
 |agg m _ q =>
  refine .agg rfl (fun i v v' a b=>?_);obtain⟨x,hx⟩:=oS m.symm a;rw[a]at b;cases b
  exact q i x _ hx a
 |tuple m _ q =>
  refine .tuple rfl (fun i v v' a b=>?_);obtain⟨x,hx⟩:=oS m.symm a;rw[a]at b;cases b
  exact q i x _ hx a
 |nD j _=>rw[e]at j;cases j
 |hole j _=>rw[e]at j;cases j
 |o7 j=>rw[e]at j;cases j
theorem OR.rM{ρ:j7}{S:Nat→Prop}(k:SW.sync=false)(hb:SM.base=0)(m:∀f,SW.ok f=true→SM.ok f=true)(hS:∀y pl,ρ y=some pl→S pl.block){o o':Obj}(h:@OR SW ρ o o'):@OR SM (oE S) o' o':=by
 cases h with
 | @cells c C e fr q =>
  refine .cells (@ki.diag SM _ _ fun i v u=>?_);have D:c.size=C.size:=@ki.size SW _ _ _ q;obtain⟨x,hx⟩:=oS D.symm u;exact VR.rM k hb m hS (@ki.get SW _ _ _ q i x v hx u)
 | @map es ES clk D E =>
  refine .map rfl fun i x y a b=>?_
  rw[a]at b;cases b
  have G:=(dv.1 a).1;obtain⟨k1,k2,H⟩:=E i es[i] x (dw (by omega)) a;exact⟨VR.rM k hb m hS k1,VR.rM k hb m hS k2,rfl⟩
 |number F=>exact .number (AR.rM hb hS F)
end
end Go.Proofs.YtjnkcibpkkjniaaGreat.kx
namespace Go.Proofs.YtjnkcibpkkjniaaGreat.kN
open Go.Conc Go.ConcN Go.Conc.Lib Go.ConcR.Gen Go.ConcN.Gen Go.Proofs.YtjnkcibpkkjniaaGreat.kx
open Go.ConcR (KK wgBlock WgAt stA smA rd wr mk DC0)
theorem DU:Tryz.prog.globals.size=0:=by kernel_rfl
theorem OO:kl.base=0:=DU
theorem sw:j9.base=0:=DU
structure yB (n:Nat) (ρ:Nat→j7):Prop where
 apart:∀i i',i<n→i'<n→i≠i'→qD (ρ i) (ρ i')
 cover:∀i,i<n→∀b pl s l ty,ρ i b=some pl→pl.part=some ⟨s,l,ty⟩→∀j,j<ty.2→∃i',i'<n∧∃b' qz s' l' pK,ρ i' b'=some qz∧qz.block=pl.block∧qz.part=some ⟨s',l',pK⟩∧s'≤j∧j<s'+l'
structure yC (p:WI) (m:Nat→Value) (ρj:Nat→j7) (wj:Nat→World) (args:Nat→Array Value) (R:Nat→Value→World→Prop) (wS:World):Prop where
 hF:yu p wS
 nl:p.xl≤p.nl
 hm:∀i,i<p.xl→wS.cell? ⟨p.nb,p.no+i,none⟩=some (m i)
 qE:yB p.xl ρj
 hr:∀i,i<p.xl→@HR kl (ρj i) (wj i) wS
 reach:∀i,i<p.xl→∀b pl,ρj i b=some pl→rK wS #[p.s,p.nQ] pl.block
 apart:∀i,i<p.xl→∀b pl,ρj i b=some pl→pl.block≠p.sp∧pl.block≠p.nb
 rel:∀i,i<p.xl→@ki kl (ρj i) (args i) #[.pointer (some ⟨p.xb,p.xo+i*14,none⟩),.int .i64 p.id,m i]
 calls:∀i,i<p.xl→∀t,Calls Tryz.prog 60 (args i) { wj i with tape:=t,drawn:=0 } fun e w'=>∃v,e=.returned v∧R i v w'
 shape:∀i,i<p.xl→∀v w ρ v',R i v w→@VR kl ρ v v'→AD v'
 DV:∃C E,wS.heap[p.nb]?=some (.cells C E (0,0))
 own:∀i,i<p.xl→∀b pl,ρj i b=some pl→∃C E,wS.heap[pl.block]?=some (.cells C E (0,0))
theorem OP:∀(n:Nat)(l:List Nat),l.Nodup→(∀i∈l,i<n)→l.length≤n:=by
 intro n
 induction n with
 |zero =>
  intro l _ h
  cases l with
  |nil=>simp
  |cons a r=>exact absurd (h a (by simp)) (ik _)
 |succ n m =>
  intro l k h
  by_cases q:n∈l
  ·have u:=m (l.erase n) (k.erase n) fun i f=>by
    have y:=h i (List.mem_of_mem_erase f);have C:i≠n:=fun e=>by subst e;exact(List.Nodup.not_mem_erase k) f
    omega
   rw[List.length_erase_of_mem q]at u;omega
  ·have:=m l k fun i f=>by
    have y:=h i f;have C:i≠n:=fun e=>q (e▸f)
    omega
   omega
def qI (n:Nat) (ρ:Nat→j7) (b:Nat):Prop:=∃i,i<n∧∃y pl,ρ i y=some pl∧pl.block=b
def yD (n:Nat) (rep:Array Value) (v:Nat→Value):Prop:=rep.size=n*2∧∀i,i<n→∃sa sl sc sb,v i=.agg #[.slice sa sl sc,.bool sb]∧rep[i*2]?=some (.slice sa sl sc)∧rep[i*2+1]?=some (.bool sb)
def AG (p:WI) (ρj:Nat→j7) (R:Nat→Value→World→Prop) (v:Nat→Value) (w':World) (I:Nat→Prop):Prop :=
 ∃(ρ':Nat→j7),yB p.xl ρ'∧(∀b,I b↔qI p.xl ρ' b)∧∀i,i<p.xl→(ρj i).le (ρ' i)∧(∀b q,ρ' i b=some q→ρj i b=some q∨q.part=none)∧∃vS wE,R i vS wE∧@HR kl (ρ' i) wE w'∧@VR kl (ρ' i) vS (v i)
theorem OS(a b:Value)(n:Nat):∀(i:Nat) v,(#[a,b]++Array.replicate n undef)[i]?=some v→v=a∨v=b∨v=undef:=by
 intro i v e;rw[du]at e;split at e
 ·match i,e with
  |0,e=>simp at e;exact .inl e.symm
  |1,e=>simp at e;exact .inr (.inl e.symm)
  |i+2,e=>simp at e
 ·rw[dz]at e;split at e
  ·cases e;exact .inr (.inr rfl)
  ·cases e
theorem OT[Scope]{ρ:j7}(f:oD ρ){a:Addr}{pl:kx.Place}{l c:Nat}(e:ρ a.block=some pl)(hp:pl.part=none){v':Value}(h:VR ρ (.slice (some a) l c) v'):v'=.slice (some a) l c:=by
 cases h with
 |slice l c m=>rw[f.addr m]
 |nD _ k =>
  obtain⟨b,x,hx⟩:=k;rw[e]at hx
  cases hx
  cases hp
theorem OU[Scope]{ρ:j7}{a:Addr}{l c:Nat}{v':Value}(h:VR ρ (.slice (some a) l c) v'):∃pl,ρ a.block=some pl:=by
 cases h with
 |slice l c e=>obtain⟨_,p,hp,_⟩:=e;exact⟨p,hp⟩
 |nD _ k=>obtain⟨b,x,hx⟩:=k;exact⟨_,hx⟩
theorem OV{p:WI}{m:Nat→Value}{ρj:Nat→j7}{wj:Nat→World}{args:Nat→Array Value}{R:Nat→Value→World→Prop}{wS:World}(hI:yC p m ρj wj args R wS)(dc:∀i,i<p.xl→∀v w',R i v w'→w'.os=wS.os){cs x2:List Frame}{c bc:Frame}{ac:Act}{ops:Array Oper}{i:Nat}{l:List Nat}{kk:List Item}(hc:c=bc.at ac (.inRegion ops (i::l)::kk)){Q:Frame→List Frame→World→Prop}(k:∀w' RB rep v (I:Nat→Prop),AG p ρj R v w' I→(∀b,I b→∃o,w'.heap[b]?=some o∧@OR kl (oE I) o o)→(∀x∈rL p::c::x2,∀b,uW x b→¬qI p.xl ρj b→¬I b)→yD p.xl rep v→w'.heap[RB]?=some (.cells rep 140)→¬I RB→(∀x∈rL p::c::x2,∀b,uW x b→¬qI p.xl ρj b→b≠RB∧w'.heap[b]?=wS.heap[b]?)→wS.heap.size≤w'.heap.size→(∀b,b<wS.heap.size→¬qI p.xl ρj b→¬I b∧b≠RB∧w'.heap[b]?=wS.heap[b]?) →
   @ku Tryz.prog j9 cs Q (c.finish (kQ p RB)) x2 w'):@ku Tryz.prog j9 cs Q (rL p) (c::x2) wS:=by
 intro Shun ρ gs w sl t q hs;obtain⟨j8,ys,h0,hf,hx⟩:=@pb.main j9 _ _ _ _ _ _ _ _ _ _ _ hs;have hr:=@pb.hr j9 _ _ _ _ _ _ _ _ _ _ _ hs;have aW:=@pb.leave j9 _ _ _ _ _ _ _ _ _ _ _ hs;have ah:=@pb.past j9 _ _ _ _ _ _ _ _ _ _ _ hs;have ao:=@pb.ng j9 _ _ _ _ _ _ _ _ _ _ _ hs;obtain⟨hsz,hid⟩:=@HR.sync j9 _ _ _ hr rfl;have hid:oD ρ:=hid;have bi:∀{b pl},ρ b=some pl→pl.block=b:=fun h=>oD.block hid h
 have cr:=hx;have bN:=hf;have ct:=ON p;obtain⟨bO,dd⟩:(∀v',@VR j9 ρ p.nQ v'→v'=p.nQ)∧(∀v',@VR j9 ρ p.nQ v'→ρ p.nb=some ⟨p.nb,none⟩):=by
  have bP:∀v',@VR j9 ρ p.nQ v'→ρ p.nb=some ⟨p.nb,none⟩:=fun v' hv=>by
   obtain⟨pl,Y⟩:=@OU j9 _ _ _ _ _ hv;have Y:ρ p.nb=some pl:=Y;rcases hid _ _ Y with rfl|⟨ty,rfl⟩
   ·exact Y
   ·exfalso;obtain⟨o,o',h1,h2,h3⟩:=@HR.obj j9 _ _ _ hr _ _ Y;obtain⟨C,E,hC⟩:=hI.DV;rw[hC]at h1;obtain rfl:=ff h1;rcases h3 with⟨_,_,_,c1,C1,cu,h0,e1,_⟩|⟨c1,C1,_,_,hd,_⟩
    ·have e2:=dI (fun o:Obj=>match o with | .cells _ _ f=>f.2|_=>0) e1;simp only at e2;omega
    ·exact Bool.noConfusion hd.1.1
  exact⟨fun v' hv=>@OT j9 _ hid _ _ _ _ (bP v' hv) rfl _ hv,bP⟩
 obtain rfl:=@lD.OL j9 _ _ _ _ _ hf (fun i v v' hv=>by
  rcases OS _ _ _ i v hv with rfl|rfl|rfl
  ·exact⟨rfl,@zZ j9 _ hid _ _ rfl⟩
  ·exact⟨rfl,bO v'⟩
  ·exact⟨rfl,@zZ j9 _ hid _ _ rfl⟩)
 obtain⟨c',aF,rfl,cv,cw⟩:∃c' aF,ys=c'::aF∧@lD j9 Shun ρ w c c'∧@qU j9 Shun ρ w x2 aF:=by
  cases hx with
  |cons a b=>exact⟨_,_,rfl,a,b⟩
 let T:Nat→Prop:=qI p.xl ρj
 have aX:∀b pl,ρ b=some pl→pl.part=none∨∃ty,pl.part=some ⟨0,0,ty⟩:=fun b pl hb=>by
  rcases hid b pl hb with rfl|⟨ty,rfl⟩
  ·exact .inl rfl
  ·exact .inr ⟨ty,rfl⟩
 have aI:∀x∈rL p::c::x2,∀b,uW x b→∃pl,ρ b=some pl:=fun x hx b hb=>by
  rcases fN.1 hx with rfl|hx
  ·exact @lD.named j9 _ _ _ _ _ bN _ hb
  ·obtain⟨y,O⟩:=@qU.mem j9 _ _ _ _ _ cr _ hx;exact @lD.named j9 _ _ _ _ _ O _ hb
 have ax:∀b,rK wS #[p.s,p.nQ] b→∃pl,ρ b=some pl:=fun b hb=>by
  have hA:@ki j9 ρ #[p.s,p.nQ] #[p.s,p.nQ]:=by
   have h1:=@lD.tmps j9 _ _ _ _ _ bN;refine @ki.mk j9 _ _ _ rfl fun i v v' a b=>?_
   have F:i<2:=(dv.1 a).1;have e:∀(j:Nat),j<2→(rL p).tmps[j]?=(#[p.s,p.nQ]:Array Value)[j]?:=fun j hj=>by
    show(#[p.s,p.nQ]++Array.replicate 34 undef)[j]?=_;rw[gI hj]
   exact @VF.vr j9 _ _ _ _ _ (@mW.get j9 _ _ _ _ _ h1 i v v' ((e i F).trans a) ((e i F).trans b)) (ct i v ((e i F).trans a))
  exact @HR.reached j9 _ _ _ hr aX _ _ hA _ hb
 have bj:∃pl,ρ p.sp=some pl:=ax _ (.arg (i:=0) rfl (.ptr _));have bk:∃pl,ρ p.nb=some pl:=ax _ (.arg (i:=1) rfl (.slice _ _ _));have K:∀b,(∃pl,ρ b=some pl)→b<w.heap.size∧∀l,lq b l→¬Shun l:=fun b ⟨pl,hb⟩=>by
  have bl:=bi hb;subst bl;refine⟨(@HR.lt j9 _ _ _ hr _ _ hb).2,fun l H=>?_⟩
  cases l with
  |cell a=>exact @sf.cell _ _ _ ao _ _ a hb H
  |obj r=>obtain rfl:r=pl.block:=H;exact @sf.obj _ _ _ ao _ _ hb
  |_=>exact H.elim
 have bQ:∀b,T b→∃pl,ρ b=some pl:=fun b ⟨i,F,y,pl,O,e⟩=>ax b (e▸hI.reach i F y pl O)
 have bR:∀b,T b→b≠p.sp∧b≠p.nb:=fun b ⟨i,F,y,pl,O,e⟩=>e▸hI.apart i F y pl O
 have aJ:∀b,T b→ρ b=some ⟨b,none⟩:=fun b hb=>by
  obtain⟨pl,Y⟩:=bQ b hb;obtain⟨i,F,y,q,O,rfl⟩:=hb;obtain⟨C,E,hC⟩:=hI.own i F y q O;rcases hid _ _ Y with rfl|⟨ty,rfl⟩
  ·exact Y
  ·exfalso;obtain⟨o,o',h1,h2,h3⟩:=@HR.obj j9 _ _ _ hr _ _ Y;rw[hC]at h1;obtain rfl:=ff h1;rcases h3 with⟨_,_,_,c1,C1,cu,h0,e1,_⟩|⟨c1,C1,_,_,hd,_⟩
   ·have e2:=dI (fun o:Obj=>match o with | .cells _ _ f=>f.2|_=>0) e1;simp only at e2;omega
   ·exact Bool.noConfusion hd.1.1
 have aK:∀i,i<p.xl→∀y pl,ρj i y=some pl→ρ pl.block=some ⟨pl.block,none⟩:=fun i F y pl O=>aJ _ ⟨i,F,y,pl,O,rfl⟩
 have aY:∀b,T b→w.heap[b]?=wS.heap[b]?:=fun b hb=>by
  have bS:=aJ b hb;obtain⟨o,o',h1,h2,h3⟩:=@HR.obj j9 _ _ _ hr _ _ bS;have h3:@OR j9 ρ o o':=h3;rw[h2,h1];obtain⟨i,F,y,pl,O,rfl⟩:=hb;obtain⟨u,u',k1,k2,k3⟩:=@HR.obj kl _ _ _ (hI.hr i F) y pl O;rw[h1]at k2
  cases k2
  cases hp:pl.part with
  |none =>
   unfold mD at k3;rw[hp]at k3;rw[@JB kl j9 (ρj i) ρ rfl hid (aK i F) _ _ _ k3 h3]
  |some x =>
   obtain⟨s,l,ty,aL⟩:=x;unfold mD at k3;rw[hp]at k3;rcases k3 with⟨j1,_⟩|⟨cc,CC,rfl,rfl,bm,_⟩
   ·exact Bool.noConfusion j1
   cases h3 with
   | @cells _ C' _ _ hc =>
    rw[tL (@ki.size j9 _ _ _ hc) fun j v v' hj cx=>by
     have bn:j<aL:=by
      have:=(dv.1 hj).1;have:=bm.2;simp only at this;omega
     obtain⟨i',Z,b',qz,s',l',pK,q1,q2,q3,q4,q5⟩:=hI.qE.cover i F y pl s l (ty,aL) O hp j bn;obtain⟨z,z',m1,m2,m3⟩:=@HR.obj kl _ _ _ (hI.hr i' Z) b' qz q1;rw[q2,h1]at m2
     cases m2
     unfold mD at m3;rw[q3]at m3;rcases m3 with⟨j1,_⟩|⟨c2,C2,rfl,e2,_,aM⟩
     ·exact Bool.noConfusion j1
     cases e2
     have bo:j-s'<c2.size:=by rw[@sU.size kl _ _ _ _ _ aM];omega
     obtain⟨v1,n4,n5⟩:=@sU.get kl _ _ _ _ _ aM (j-s') _ (dw bo);rw[show s'+(j-s')=j by omega,hj]at n4
     cases n4
     exact @wQ kl j9 (ρj i') ρ rfl hid (aK i' Z) _ _ _ n5 (@ki.get j9 _ _ _ hc j v v' hj cx)]
 let V0:Nat→Prop:=fun b=>b<w.heap.size∧¬T b∧∀l,lq b l→¬Shun l
 let L:Loc→Prop:=fun l=>Shun l∧l.isMemory=true
 let d:@JD:=⟨m,ρj,args,wj,R⟩
 have hF:yu p w:=by
  obtain⟨pl,Y⟩:=bj;refine⟨@HR.CS j9 _ _ _ hr hid _ _ Y _ rfl (by rw[sw];exact eP _) hI.hF.hid,@HR.CS j9 _ _ _ hr hid _ _ Y _ ?_ (by rw[sw];exact eP _) hI.hF.hx,by rw[←hsz];exact hI.hF.ls,hI.hF.qF⟩;unfold WI.xa;split
  ·rfl
  ·rename_i h;show(!(p.xl == 0&&p.xc == 0))=true;have:(p.xl == 0)=false:=by simp;omega
   rw[this];rfl
 have bp:j9.base≤wS.heap.size:=@HR.base j9 _ _ _ hr;have cy:w.os=wS.os:=@HR.os j9 _ _ _ hr;have cz:Past L w.heap.size t:=⟨ah.clean,fun i a ha hm=>(ah.known i a ha hm).imp id fun⟨h1,h2⟩=>⟨⟨h1,hm⟩,h2⟩,ah.over,ah.hears,ah.seen⟩;have hO:@AB kl p L V0 w:=@AB.mk kl _ _ _ _ (fun b hb=>⟨hb.1,fun l H k=>hb.2.2 l H k.1⟩) ⟨(K _ bj).1,fun U=>(bR _ U).1 rfl,(K _ bj).2⟩ ⟨(K _ bk).1,fun U=>(bR _ U).2 rfl,(K _ bk).2⟩ (fun l H=>H.2)
  (fun l b H hb=>by
   have:=@sf.low _ _ _ ao l H.1
   cases l with
   |cell a=>obtain rfl:a.block=b:=hb;exact this
   |obj r=>obtain rfl:r=b:=hb;exact this
   |_=>exact hb.elim) (by rw[←hsz];exact bp)
 have bq:∀i,i<p.xl→@HR kl (ρj i) (wj i) w:=fun i F=>@HR.leaves kl _ _ _ _ rfl (hI.hr i F) (@Leaves.block kl (ρj i) wS w fun b pl hb=>aY _ ⟨i,F,b,pl,hb,rfl⟩) cy
 have hJ:@AA kl p d L V0 w:=by
  refine @AA.mk kl _ _ _ _ _ (fun i F B S=>?_) bq (fun i F b pl hb=>?_) hI.qE.apart (fun i F=>?_)
  ·exact @me.Good.mk kl _ _ (by show kl.ok _=true;kernel_rfl) (by
    have:=hI.rel i F;simp only[uU,me.kX,Wk.vJ,tS];exact this) (hI.calls i F) (hI.shape i F)
  ·have U:T pl.block:=⟨i,F,b,pl,hb,rfl⟩;have:=K _ (bQ _ U);exact⟨this.1,fun hv=>hv.2.1 U,fun l H k=>this.2 l H k.1⟩
  ·obtain⟨pl,Y⟩:=bk;have ha:@AR j9 ρ ⟨p.nb,p.no+i,none⟩ ⟨p.nb,p.no+i,none⟩:=⟨by rw[sw];exact eP _,pl,Y,(bi Y).symm,by
    rcases hid _ _ Y with rfl|⟨ty,rfl⟩<;>simp[Place.shift],rfl⟩
   obtain⟨v',e1,e2,_⟩:=@HR.cell j9 _ _ _ hr _ _ ha _ (hI.hm i F);have cA:=@ki.get kl _ _ _ (hI.rel i F) 2;obtain⟨am,cB⟩:=oS (@ki.size kl _ _ _ (hI.rel i F)).symm (show(#[.pointer (some ⟨p.xb,p.xo+i*14,none⟩),.int .i64 p.id,m i]:Array Value)[2]?=some (m i) from rfl);have:=@wQ kl j9 (ρj i) ρ rfl hid (aK i F) _ _ _ (cA am (m i) cB rfl) e2;exact e1.trans (dI some this)
 obtain⟨N0,pc,J,RB,us,s1,w1,s',wo,rep,b8,cC,cD,cE,cF,cG,cH,cI,cJ,cK,cL,br,bs,hd,hU,aZ,a0,cM,bT,cN,aN,aO,bU,bV,cO⟩:=@Lj kl DO DN rfl p d L V0 w (c'::(aF++cs)) gs sl t q h0 aW cz hF hI.nl hO hJ;obtain⟨⟨N1,bt,bu,t2,q2,bv,cP,cQ,cR⟩,ay,cS,aC,bw,bx,bX,df,bY,bZ,ap,co,b0⟩:=cO;obtain⟨cT,a8,bz,zv,dg,dh,di,bA,b1⟩:=bx
 let B:WB:=WB.from w.heap.size
 let Nn:nj:=⟨pc.B0,p.xl,w.heap.size+6,w.heap.size+2,w.heap.size+4,Tryz.link.tWg,.tuple #[]⟩
 let ab:Nat→j7:=fun i=>(s'.D i).ρ
 have af:∀i,i<p.xl→∀b pl,ab i b=some pl→pl.block<wo.heap.size∧¬s1.V pl.block∧pl.block≠w.heap.size+6∧pl.block≠w.heap.size+2∧pl.block≠w.heap.size+4:=fun i F b pl hb=>by
  have:=cT i F b pl hb;rw[bX]at this;exact this
 have eS:∀l,pc.Shun l↔L l:=fun l=>by rw[bs]
 have be:∀i,i<p.xl→∀b pl l,ab i b=some pl→lq pl.block l→¬L l:=fun i F b pl l hb H k=>bz i F b pl l hb H ((eS l).2 k)
 have aG:∀b,s1.V b→b<wo.heap.size∧b≠w.heap.size+6∧b≠w.heap.size+2∧b≠w.heap.size+4∧∀l,lq b l→¬L l:=fun b hb=>by
  have:=zv b (by rw[bX];exact hb);exact⟨this.1,this.2.1,this.2.2.1,this.2.2.2.1,fun l H k=>this.2.2.2.2 l H ((eS l).2 k)⟩
 have cp:w.heap.size+6<wo.heap.size:=bA.1;have bB:∀l b,L l→lq b l→b<wo.heap.size:=fun l b H hb=>b1 l b ((eS l).2 H) hb
 let M:Loc→Prop:=fun l=>pc.Shun l∨oq Nn l
 have b2:Past M wo.heap.size t2:=cR;have ai:∀b l,lq b l→b≠w.heap.size+6→b≠w.heap.size+2→b≠w.heap.size+4→¬L l→¬M l:=fun b l hb n1 n2 n3 hn k=>by
  rcases k with k|k
  ·exact hn ((eS l).1 k)
  ·rcases @oq.block kl _ _ k with k|k|k
   ·exact n1 (hb.uniq k)
   ·exact n2 (hb.uniq k)
   ·exact n3 (hb.uniq k)
 let val:Nat→Value:=fun i=>(s'.D i).v
 have aa:=aG RB a0
 let Q1:Goroutine→World→Prop:=fun g w2=>g=G (c'.finish (kQ p RB)) (aF++cs)∧∃aj,w2.heap[RB]?=some (.cells aj 140)∧tV p aj val (s'.got++s'.wait)∧tj (w.heap.size+2) RB wo w2
 have bC:kv Tryz.prog Any M Q1 _ wo:=@LB kl p B M (fun b=>s1.V b∧b≠RB) us (aF++cs) c' wo RB rep b8 cC cD cE cF cG cH cI cJ cK cL Q1 (fun i=>(J i).msg (s'.D i).v) val _ _ _ s'.wait s'.got
  (fun b hb l H=>by
   rcases hb with⟨hb,_⟩|rfl|hb
   ·have:=aG b hb;exact ai b l H this.2.1 this.2.2.1 this.2.2.2.1 (this.2.2.2.2 l H)
   ·exact ai _ l H aa.2.1 aa.2.2.1 aa.2.2.2.1 (aa.2.2.2.2 l H)
   ·exact ai b l H (by omega) (by omega) (by omega) fun k=>by have:=bB l b k H;omega)
  (fun b hb=>⟨(aG b hb.1).1,(aG b hb.1).2.2.1,hb.2⟩) aa.2.2.1
  (by
   have:=cN.keep ap;exact⟨this.s,this.n,this.c,this.g,this.id,this.x,⟨this.vs.1,dJ aN.1⟩,⟨this.vs.2.1,dJ aN.2.1⟩,⟨this.vs.2.2.1,dJ aN.2.2.1⟩,⟨this.vs.2.2.2.1,dJ aN.2.2.2.1⟩,⟨this.vs.2.2.2.2,dJ aN.2.2.2.2⟩⟩)
  hU bw ((ap RB a0).trans cM)
  ⟨bT.size,fun k hk=>by
   have b3:k∈s1.got:=by rw[←bY];exact hk
   obtain⟨a1,a2,a3,a4,a5,a6,a7⟩:=bT.at_ k b3;exact⟨a1,a2,a3,a4,a5,(bZ k b3).trans a6,a7⟩⟩
  (by
   have:=OP p.xl s'.wait (gU.1 cS).2.1 fun i F=>aC i (gP _ F)
   have:=hI.hF.qF;omega)
  (fun i F=>by
   have Z:i<p.xl:=aC i (gP _ F);obtain⟨S,eJ⟩:=hd i Z;have aP:=(ay i Z).1.1;refine⟨Z,?_,?_⟩
   ·have aP:(J i).ok (s'.D i).v:=aP;rw[eJ]at aP;exact aP
   ·show(J i).msg _=_;rw[eJ];rfl)
  (fun w' aj e1 e2 e3=>kv.done ⟨rfl,aj,e1,e2,e3⟩)
 obtain⟨N3,b4,g3,w3,cU,t3,q3,bD,_,cV,cW,cX,_,rfl,aj,b5,b6,aq⟩:=bC bt bu t2 q2 cP cQ b2 (Clean.any _);have ak:∀i,i<p.xl→∃vS wE,R i vS wE∧@HR kl (ab i) wE w3∧@VR kl (ab i) vS (val i)∧(ρj i).le (ab i)∧(∀b q,ab i b=some q→ρj i b=some q∨q.part=none):=fun i F=>by
  obtain⟨⟨aP,⟨hle,bE⟩,vS,wE,al,an,aQ⟩,de⟩:=ay i F;obtain⟨S0,eJ⟩:=hd i F;have b7:((PX p B pc J).J i).ρ=ρj i:=by show(J i).ρ=_;rw[eJ];rfl
  have b9:R i vS wE:=by
   have h1:(J i).R vS wE:=aQ;rw[eJ]at h1;exact h1
  refine⟨vS,wE,b9,@HR.leaves kl _ _ _ _ rfl al (@Leaves.block kl (ab i) wo w3 fun b pl hb=>aq.heap _ (af i F b pl hb).1 (af i F b pl hb).2.2.2.1 fun e=>(af i F b pl hb).2.1 (e▸a0)) aq.os,an,by rw[←b7];exact hle,fun b q hb=>?_⟩;rcases bE b q hb with h|⟨h1,_⟩
  ·have h:((PX p B pc J).J i).ρ b=some q:=h;rw[b7]at h;exact .inl h
  ·exact .inr h1
 have az:yD p.xl aj val:=⟨b6.size,fun i F=>(b6.at_ i (ay i F).2).2⟩
 let I:Nat→Prop:=qI p.xl ab
 have cY:∀b,T b→I b:=fun b ⟨i,F,y,pl,O,e⟩=>by
  obtain⟨_,_,_,_,_,hle,_⟩:=ak i F;exact⟨i,F,y,pl,hle _ _ O,e⟩
 have aR:yB p.xl ab:=by
  refine⟨fun i i' F Z aA=>a8 i i' F Z aA,fun i F b pl s l ty hb hp j hj=>?_⟩;obtain⟨_,_,_,_,_,_,ag⟩:=ak i F;rcases ag b pl hb with h|h
  ·obtain⟨i',Z,b',qz,s',l',pK,e1,e2⟩:=hI.qE.cover i F b pl s l ty h hp j hj;obtain⟨_,_,_,_,_,ca,_⟩:=ak i' Z;exact⟨i',Z,b',qz,s',l',pK,ca _ _ e1,e2⟩
  ·rw[h]at hp;cases hp
 have cb:∀(SM:Scope),SM.base=0→(∀f,kl.ok f=true→SM.ok f=true)→∀(S:Nat→Prop),(∀b,I b→S b)→∀b,I b→∃o,w3.heap[b]?=some o∧@OR SM (oE S) o o:=fun SM cd bf S cZ b hb=>by
  obtain⟨i,F,y,pl,O,rfl⟩:=hb;have hS:∀i',i'<p.xl→∀y pl,ab i' y=some pl→S pl.block:=fun i' Z y pl O=>cZ _ ⟨i',Z,y,pl,O,rfl⟩
  obtain⟨vS,wE,aQ,al,an,hle,ag⟩:=ak i F;obtain⟨o,o',h1,h2,h3⟩:=@HR.obj kl _ _ _ al y pl O;refine⟨o',h2,?_⟩
  cases hp:pl.part with
  |none =>
   unfold mD at h3;rw[hp]at h3;exact @OR.rM kl SM (ab i) S rfl cd bf (hS i F) _ _ h3
  |some x =>
   obtain⟨s,l,ty,aL⟩:=x;unfold mD at h3;rw[hp]at h3;rcases h3 with⟨j1,_⟩|⟨cc,CC,rfl,rfl,bm,_⟩
   ·exact Bool.noConfusion j1
   refine @OR.cells SM _ _ _ _ _ (@ki.diag SM _ _ fun j v hj=>?_);have bn:j<aL:=by
    have:=(dv.1 hj).1;have:=bm.2;simp only at this;omega
   obtain⟨i',Z,b',qz,s',l',pK,q1,q2,q3,q4,q5⟩:=aR.cover i F y pl s l (ty,aL) O hp j bn;obtain⟨dj,dk,_,bH,_,_,_⟩:=ak i' Z;obtain⟨u,u',k1,k2,k3⟩:=@HR.obj kl _ _ _ bH b' qz q1;rw[q2,h2]at k2
   cases k2
   unfold mD at k3;rw[q3]at k3;rcases k3 with⟨j1,_⟩|⟨c2,C2,rfl,e2,_,aM⟩
   ·exact Bool.noConfusion j1
   cases e2
   have bo:j-s'<c2.size:=by rw[@sU.size kl _ _ _ _ _ aM];omega
   obtain⟨v',k4,k5⟩:=@sU.get kl _ _ _ _ _ aM (j-s') _ (dw bo);rw[show s'+(j-s')=j by omega,hj]at k4
   cases k4
   exact @VR.rM kl SM (ab i') S rfl cd bf (hS i' Z) _ _ k5
 have c0:∀b,I b→∃o,w3.heap[b]?=some o∧@OR kl (oE I) o o:=cb kl OO (fun _ h=>h) I fun _ h=>h
 have hIn:∀b,(∃pl,ρ b=some pl)→¬T b→¬I b:=fun b hb U ⟨i,F,y,pl,O,e⟩=>(af i F y pl O).2.1 (by rw[e];exact(aZ b ⟨(K b hb).1,U,(K b hb).2⟩).1)
 have ce:¬I RB:=fun⟨i,F,y,pl,O,e⟩=>(af i F y pl O).2.1 (by rw[e];exact a0)
 have aD:∀b,(∃pl,ρ b=some pl)→¬T b→b≠RB∧w3.heap[b]?=w.heap[b]?:=fun b hb U=>by
  have hv:V0 b:=⟨(K b hb).1,U,(K b hb).2⟩;have aA:b≠RB:=fun e=>aO (e▸hv)
  obtain⟨k1,k2⟩:=aZ b hv;have k3:=aG b k1;exact⟨aA,(aq.heap b k3.1 k3.2.2.1 aA).trans ((ap b k1).trans k2)⟩
 have ar:∀b,b<w.heap.size→¬T b→¬I b∧b≠RB:=fun b hb U=>by
  by_cases aH:∀l,lq b l→¬L l
  ·have hv:V0 b:=⟨hb,U,fun l H k=>aH l H ⟨k,H.mem⟩⟩;exact⟨fun⟨i,F,y,pl,O,e⟩=>(af i F y pl O).2.1 (by rw[e];exact(aZ b hv).1),fun e=>aO (e▸hv)⟩
  ·refine⟨fun⟨i,F,y,pl,O,e⟩=>aH fun l H=>be i F y pl l O (by rw[e];exact H),fun e=>aH fun l H=>aa.2.2.2.2 l (e▸H)⟩
 let ae:Nat→Prop:=fun b=>b<w.heap.size∧¬T b
 let w4:World:=patch ae wS w3
 have cf:w.heap.size≤w3.heap.size:=by have:=aq.size;omega
 have aS:∀b,ae b→w4.heap[b]?=wS.heap[b]?:=fun b hb=>JC hb (dF hb.1 cf) (by rw[hsz];exact hb.1)
 have au:∀b,¬ae b→w4.heap[b]?=w3.heap[b]?:=fun b hb=>JE hb
 have a9:∀b,I b→¬ae b:=fun b hI hk=>(ar b hk.1 hk.2).1 hI
 have bJ:¬ae RB:=fun hk=>(ar RB hk.1 hk.2).2 rfl
 have bK:∀b,(∃pl,ρ b=some pl)→¬T b→b≠RB∧w4.heap[b]?=wS.heap[b]?:=fun b hb U=>⟨(aD b hb U).1,aS b ⟨(K b hb).1,U⟩⟩
 let S2:Nat→Prop:=fun b=>I b∨b=RB
 let ad:j7:=fun b=>match ρ b with
  |some p=>some p
  |none=>oE S2 b
 have aB:∀{b p},ρ b=some p→ad b=some p:=fun {b p} h=>by show(match ρ b with|some p=>some p|none=>oE S2 b)=_;rw[h]
 have aT:∀{b},ρ b=none→ad b=oE S2 b:=fun {b} h=>by show(match ρ b with|some p=>some p|none=>oE S2 b)=_;rw[h]
 have av:∀{b p},ad b=some p→ρ b=some p∨(ρ b=none∧S2 b∧p=⟨b,none⟩):=fun {b p} h=>by
  cases e:ρ b with
  |some q=>rw[aB e]at h;exact .inl h
  |none=>rw[aT e]at h;obtain⟨h1,h2⟩:=@CQ j9 _ _ _ h;exact .inr ⟨rfl,h1,h2⟩
 have aE:ρ.le ad:=fun b pl hb=>aB hb
 have cg:∀b,S2 b→ad b=some ⟨b,none⟩:=fun b hb=>by
  cases e:ρ b with
  |none=>rw[aT e];exact @yg j9 _ _ hb
  |some q =>
   rw[aB e];have hK:¬ae b:=by
    rcases hb with hb|rfl
    ·exact a9 b hb
    ·exact bJ
   have U:T b:=gn fun h=>hK ⟨(K b ⟨q,e⟩).1,h⟩
   rw[aJ b U]at e;exact e.symm
 have aw:oD ad:=fun b p hb=>by
  rcases av hb with h|⟨_,_,h⟩
  ·exact hid b p h
  ·exact .inl h
 have aU:(@oE S2).le ad:=fun b p hb=>by
  obtain⟨h1,rfl⟩:=@CQ j9 _ _ _ hb;exact cg b h1
 have c3:∀i,i<p.xl→@VR j9 (oE S2) (val i) (val i):=fun i F=>by
  obtain⟨vS,wE,aQ,al,an,hle,ag⟩:=ak i F;exact @VR.rM kl j9 (ab i) S2 rfl sw DT (fun y pl O=>.inl ⟨i,F,y,pl,O,rfl⟩) _ _ an
 have aV:∀b,S2 b→∃o,w3.heap[b]?=some o∧@OR j9 (oE S2) o o:=fun b hb=>by
  by_cases ch:I b
  ·exact cb j9 sw DT S2 (fun _ h=>.inl h) b ch
  ·obtain rfl:b=RB:=hb.resolve_left ch;refine⟨_,b5,@OR.cells j9 _ _ _ _ _ (@ki.diag j9 _ _ fun j v hj=>?_)⟩;have dl:j<p.xl*2:=by rw[←az.1];exact(dv.1 hj).1
   obtain⟨sa,kn,sc,sb,e1,e2,e3⟩:=az.2 (j / 2) (by omega);have ci:=c3 (j / 2) (by omega);rw[e1]at ci
   cases ci with
   |agg _ hg =>
    rcases(show j=j / 2*2∨j=j / 2*2+1 by omega)with e|e
    ·rw[←e,hj]at e2
     cases e2
     exact hg 0 _ _ rfl rfl
    ·rw[←e,hj]at e3
     cases e3
     exact hg 1 _ _ rfl rfl
 have cq:j9.base≤w3.heap.size:=by rw[sw];exact eP _
 have bq:@HR j9 ad w4 w3:=by
  refine @HR.mk j9 _ _ _ (fun b q hb=>?_) (fun b b' q q' hb bl e=>?_) (by rw[sw];exact eP _) rfl fun _=>⟨CU _ _ _,aw⟩
  ·have ag:S2 b→∃o o',w4.heap[b]?=some o∧w3.heap[b]?=some o'∧@OR j9 ad o o':=fun hS=>by
    obtain⟨o,h1,h2⟩:=aV b hS;have hK:¬ae b:=by
     rcases hS with hS|rfl
     ·exact a9 b hS
     ·exact bJ
    exact⟨o,o,(au b hK).trans h1,h1,@OR.mono j9 _ _ _ _ h2 aU⟩
   rcases av hb with h|⟨_,hS,rfl⟩
   ·by_cases U:T b
    ·have:=aJ b U;rw[h]at this
     cases this
     exact ag (.inl (cY b U))
    ·obtain⟨o,o',h1,h2,h3⟩:=@HR.obj j9 _ _ _ hr b q h;have hq:=bi h;refine⟨o,o',(aS b ⟨(K b ⟨q,h⟩).1,U⟩).trans h1,?_,@mD.mono j9 _ _ _ _ _ h3 aE⟩;rw[hq]at h2 ⊢;exact(aD b ⟨q,h⟩ U).2.trans h2
   ·exact ag hS
  ·rw[oD.block aw hb,oD.block aw bl]at e;exact e
 have bg:∀b,(∃pl,ad b=some pl)→∀l,lq b l→¬M l:=fun b hb l H=>by
  rcases hb with⟨pl,hb⟩;rcases av hb with hb|⟨_,⟨i,F,y,pl,O,rfl⟩|rfl,_⟩
  ·have:=(K b ⟨_,hb⟩).1;exact ai b l H (by omega) (by omega) (by omega) fun k=>(K b ⟨_,hb⟩).2 l H k.1
  ·have:=af i F y _ O;exact ai _ l H this.2.2.1 this.2.2.2.1 this.2.2.2.2 (be i F y _ l O H)
  ·exact ai _ l H aa.2.1 aa.2.2.1 aa.2.2.2.1 (aa.2.2.2.2 l H)
 have ba:sf M ad w3:=by
  refine⟨fun b pl a hb ha=>?_,fun b pl hb=>?_,fun l H=>?_,fun k=>?_⟩
  ·have:=oD.block aw hb;exact bg b ⟨_,hb⟩ _ (ha.trans this)
  ·have:=oD.block aw hb;exact bg b ⟨_,hb⟩ _ this
  ·have h3:=aq.size;rcases H with k|k
   ·exact Loc.low_mono (by omega) (ao.low l ((eS l).1 k).1)
   ·rcases k with⟨a,rfl,ha⟩|rfl|rfl
    ·show a.block<_;rw[ha];show w.heap.size+6<_;omega
    ·show w.heap.size+2<_;omega
    ·show w.heap.size+4<_;omega
  ·rcases k with k|k
   ·exact absurd ((eS _).1 k).2 (by simp[Loc.isMemory])
   ·rcases k with⟨a,k,_⟩|k|k<;>cases k
 have cj:@VR j9 ad (kQ p RB) (kQ p RB):=@VR.mono j9 _ _ _ _ (@VR.slice j9 _ _ _ _ _ (AR.self (S:=S2) (.inr rfl) bU)) aU;have bL:lG Shun ρ w M ad w3:=by
  refine⟨aq.os.trans (b0.trans bV),by have:=aq.size;omega,fun b hb hn aH=>?_⟩;have bh:∀l,lq b l→¬Shun l:=fun l H=>by
   cases l with
   |cell a=>exact aH.1 a H
   |obj r=>obtain rfl:r=b:=H;exact aH.2
   |_=>exact H.elim
  have U:¬T b:=fun U=>by
   obtain⟨ty,e⟩:=hn b _ (aJ b U) rfl
   cases e
  have hv:V0 b:=⟨hb,U,bh⟩;have aA:b≠RB:=fun e=>aO (e▸hv)
  obtain⟨k1,k2⟩:=aZ b hv;have k3:=aG b k1;have ck:∀l,lq b l→¬M l:=fun l H=>ai b l H (by omega) (by omega) (by omega) fun k=>bh l H k.1
  refine⟨(aq.heap b k3.1 k3.2.2.1 aA).trans ((ap b k1).trans k2),fun y pl O e=>?_,fun a ha=>ck (.cell a) ha,ck (.obj b) rfl⟩;rcases av O with h|⟨_,hS,rfl⟩
  ·exact h
  ·exfalso;have e:y=b:=e;subst e;rcases hS with⟨i,F,z,pz,hz,e⟩|rfl
   ·exact(af i F z _ hz).2.1 (by rw[e];exact k1)
   ·exact aA rfl
 have bb:@pb j9 Tryz.prog M ad cs (c.finish (kQ p RB)) x2 w4 b4 w3 t3 q3:=by
  refine @pb.mk j9 _ _ _ _ _ _ _ _ _ _ _ ⟨_,_,cV,?_,@qU.nd j9 _ _ _ _ _ _ _ _ cw aE bL⟩ bq cW cX ba;have h1:=@lD.nd j9 _ _ _ _ _ _ _ _ cv aE bL;subst hc;exact @lD.finish j9 _ _ _ _ _ _ _ _ _ _ h1 _ _ cj
 obtain⟨N4,c4,w5,c5,t4,q4,c6,c7,c8,c9,da,bM,cl,cm,db,cn⟩:=k w4 RB aj val I ⟨ab,aR,fun b=>Iff.rfl,fun i F=>by
   obtain⟨vS,wE,aQ,al,an,hle,ag⟩:=ak i F;exact⟨hle,ag,vS,wE,aQ,@HR.leaves kl _ _ _ _ rfl al (@Leaves.block kl (ab i) w3 w4 fun y pl O=>au _ (a9 _ ⟨i,F,y,pl,O,rfl⟩)) rfl,an⟩⟩ (fun b hb=>by rw[au b (a9 b hb)];exact c0 b hb) (fun x hx b hb U=>hIn b (aI x hx b hb) U) az ((au RB bJ).trans b5) ce (fun x hx b hb U=>bK b (aI x hx b hb) U) (by have h1:=CU ae wS w3;have h2:=aq.size;show wS.heap.size≤(patch ae wS w3).heap.size;omega) (fun b hb U=>⟨(ar b (hsz▸hb) U).1,(ar b (hsz▸hb) U).2,aS b ⟨hsz▸hb,U⟩⟩) M ad b4 w3 cU t3 q3 bb
 refine⟨N0+(N1+(N3+N4)),c4,w5,c5,t4,q4,c6,c7,c8,c9,da,?_,@j7.le_trans j9 _ _ _ aE cl,cm,db,@lG.trans j9 _ _ _ _ _ _ _ _ _ bL cn⟩;rw[eQ,br];show runNT Tryz.prog (N1+(N3+N4)) pc.m0 pc.t0=_;have bd:runNT Tryz.prog N1 pc.m0 pc.t0=(.next (crowd bt wo bu),t2):=bv;rw[eQ,bd];show runNT Tryz.prog (N3+N4) (crowd bt wo bu) t2=_;rw[eQ,bD];exact bM
end Go.Proofs.YtjnkcibpkkjniaaGreat.kN
namespace Go.Proofs.YtjnkcibpkkjniaaGreat.kN
section
open Go
structure nu (D:List Deferred) (ops:Array Oper) (val:Nat→Value→World→Prop) (fix:List (Nat×Value)) (T:Nat) (listed:Array Bool) (a:Act) (w:World):Prop where
 defers:a.defers=D
 size:a.tmps.size=T
 fix:∀x∈fix,a.tmps[x.1]?=some x.2
 val:∀(i:Nat) o (d:Nat),ops[i]?=some o→listed.getD i false=true→o.dst=some d→∃v,a.tmps[d]?=some v∧val i v w
 kR:listed.size=ops.size
 qC:∀(i:Nat) o,ops[i]?=some o→listed.getD i false=true→∀e∈o.after,Region.binds .any e=true→listed.getD e.on false=true
theorem nu.put{D:List Deferred}{ops:Array Oper}{val:Nat→Value→World→Prop}{fix:List (Nat×Value)}{T:Nat}(C:lh ops (fix.map (·.1)) T=true){listed:Array Bool}{a:Act}{w w':World}(h:nu D ops val fix T listed a w){i:Nat}{o:Oper}(E:ops[i]?=some o){v:Value}(hr:i∈Region.ready .any ops listed)(K:val i v w')(q:∀j u,listed.getD j false=true→val j u w→val j u w'):nu D ops val fix T (listed.setIfInBounds i true) (a.put o.dst v) w':=by
 have I:i<ops.size:=(dv.1 E).1;obtain⟨F,_,_⟩:=tM C E;have tm:(a.put o.dst v).tmps=match o.dst with|some d=>a.tmps.setIfInBounds d v|none=>a.tmps:=by cases hd:o.dst<;>rfl
 have L:(a.put o.dst v).defers=a.defers:=by cases hd:o.dst<;>rfl
 refine⟨L.trans h.defers,?_,fun x G=>?_,fun j o' d k f hd=>?_,by simpa using h.kR,fun j o' k f e he hb=>?_⟩
 ·rw[tm];cases o.dst<;>simp[h.size]
 ·rw[tm]
  cases hd:o.dst with
  |none=>exact h.fix x G
  |some d =>
   have m:d≠x.1:=fun e=>(F d hd).1 (by rw[e];exact List.mem_map_of_mem G)
   simp only;rw[dO m];exact h.fix x G
 ·rw[mX _ _ _ (by rw[h.kR];exact I)]at f;rw[tm]
  by_cases e:j=i
  ·subst e;rw[E]at k;obtain rfl:=ff k;rw[hd];simp only;rw[fj (by rw[h.size];exact(F d hd).2.1)];exact⟨v,rfl,K⟩
  ·rw[dt e]at f
   cases H:o.dst with
   |none =>
    obtain⟨u,k1,k2⟩:=h.val j o' d k f hd;exact⟨u,k1,q j u f k2⟩
   |some d' =>
    simp only;have m:d'≠d:=fun y=>by
     subst y;exact e ((F d' H).2.2 j o' k hd)
    rw[dO m];obtain⟨u,k1,k2⟩:=h.val j o' d k f hd;exact⟨u,k1,q j u f k2⟩
 ·rw[mX _ _ _ (by rw[h.kR];exact I)]at f ⊢;split
  ·rfl
  by_cases y:j=i
  ·subst y;obtain⟨_,M,k1,k2⟩:=gh.1 hr;rw[k]at k1;obtain rfl:=ff k1;exact k2 e he hb
  ·rw[dt y]at f;exact h.qC j o' k f e he hb
abbrev pw (ops:Array Oper) (val:Nat→Value→World→Prop) (fix:List (Nat×Value)) (T:Nat) (listed:Array Bool) (a:Act) (w:World):Prop:=nu [] ops val fix T listed a w
theorem nu.dep{D:List Deferred}{ops:Array Oper}{val:Nat→Value→World→Prop}{fix:List (Nat×Value)}{T:Nat}{listed:Array Bool}{a:Act}{w:World}(f:nu D ops val fix T listed a w){i:Nat}{o:Oper}(h:ops[i]?=some o)(hr:i∈Region.ready .any ops listed){j:Nat}{o':Oper}{d:Nat}(k:ops[j]?=some o')(hd:o'.dst=some d)(he:∃e∈o.after,e.on=j∧Region.binds .any e=true):∃v,a.tmps[d]?=some v∧val j v w:=by
 obtain⟨e,m,q,u⟩:=he;obtain⟨_,y,k1,k2⟩:=gh.1 hr;rw[h]at k1;obtain rfl:=ff k1;subst q;exact f.val e.on o' d k (k2 e m u) hd
section
variable {P:Program} {ops:Array Oper} {Q:Exit→Act→World→Prop} {val:Nat→Value→World→Prop} {fix:List (Nat×Value)} {T:Nat} {Sok:Array Bool→World→Prop}
theorem OW(k:lh ops (fix.map (·.1)) T=true)(H:∀(i:Nat)(o:Oper)(listed:Array Bool)(a:Act)(w:World),ops[i]?=some o→i∈Region.ready .any ops listed→pw ops val fix T listed a w→Sok listed w →
   ∀K:Act→World→Prop,(∀v w',val i v w'→(∀j u,listed.getD j false=true→val j u w→val j u w')→Sok (listed.setIfInBounds i true) w'→K (a.put o.dst v) w')→o.wp P a w K Q)(f:∀(listed:Array Bool)(a:Act)(w:World),pw ops val fix T listed a w→(∀i,i<ops.size→listed.getD i false=true)→Sok listed w→Q .normal a w):∀(fuel:Nat)(listed:Array Bool)(a:Act)(w:World),pw ops val fix T listed a w→Sok listed w→mY ops listed≤fuel→wpAny P .any ops Q fuel listed a w:=by
 intro fuel
 induction fuel with
 |zero =>
  intro listed a w e F hu;have h:=uI (ops:=ops) (listed:=listed) (by omega);refine⟨?_,f listed a w e h F⟩
  cases hr:Region.ready .any ops listed with
  |nil=>rfl
  |cons x xs =>
   have hx:x∈Region.ready .any ops listed:=by rw[hr];simp
   obtain⟨G,o,m,_⟩:=gh.1 hx;have q:x<listed.size:=by rw[e.kR];exact(dv.1 m).1
   have:=h x (by rw[←e.kR];exact q);rw[dA,dw q]at G this;simp at G this;rw[this]at G
   cases G
 |succ fuel M =>
  intro listed a w e F hu;refine⟨fun y=>f listed a w e (uJ k e.kR y) F,fun i I=>?_⟩;obtain⟨C,o,m,_⟩:=gh.1 I;have D:i<ops.size:=(dv.1 m).1;have E:listed.getD i false=false:=by
   have hsz:i<listed.size:=by rw[e.kR];exact D
   rw[dA,dw hsz]at C ⊢;simpa using C
  unfold wpOp;rw[m];have O:=(tM k m).2.2;have hw:Region.wanted o (yielded ops a.tmps)=true:=by simp[Region.wanted,O]
  simp only[hw,dn];refine .inl (H i o listed a w m I e F _ fun v w' R hm L=>?_);have:=rz D e.kR E;exact M _ _ _ (e.put k m I R hm) L (by omega)
theorem yE{id:Nat}{a:Act}{w:World}(hm:P.follows .mixedOrders=true)(h:lh ops (fix.map (·.1)) T=true)(k:∀(i:Nat)(o:Oper)(listed:Array Bool)(a:Act)(w:World),ops[i]?=some o→i∈Region.ready .any ops listed→pw ops val fix T listed a w→Sok listed w →
   ∀K:Act→World→Prop,(∀v w',val i v w'→(∀j u,listed.getD j false=true→val j u w→val j u w')→Sok (listed.setIfInBounds i true) w'→K (a.put o.dst v) w')→o.wp P a w K Q)(f:∀(listed:Array Bool)(a:Act)(w:World),pw ops val fix T listed a w→(∀i,i<ops.size→listed.getD i false=true)→Sok listed w→Q .normal a w)(hd:a.defers=[])(m:a.tmps.size=T)(q:∀x∈fix,a.tmps[x.1]?=some x.2)(y:Sok (Array.replicate ops.size false) { w with drawn:=w.drawn+1 }):(Code.region id ops true).wp P Q a w:=by
 refine iH hm (OW h k f ops.size _ a _ ⟨hd,m,q,fun i o d _ e=>?_,by simp,fun i o _ e=>?_⟩ y ?_)
 ·simp[dA,dz]at e;split at e<;>simp at e
 ·simp[dA,dz]at e;split at e<;>simp at e
 ·unfold mY;exact dE (gj _ _) (by simp)
end
end
end Go.Proofs.YtjnkcibpkkjniaaGreat.kN
