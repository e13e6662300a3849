import Derived.Test.YtjnkcibpkkjniaaGreatA28
import Derived.Test.YtjnkcibpkkjniaaGreatA05
import Derived.Conc.TokenWalk
import Derived.Test.YtjnkcibpkkjniaaGreatA27
import Derived.Test.YtjnkcibpkkjniaaGreatA14
set_option linter.unusedVariables false
set_option linter.unusedSimpArgs false
set_option linter.unusedSectionVars false
namespace Go.Proofs.YtjnkcibpkkjniaaGreat.Pool
open Go.Conc Go.ConcN Go.Proofs.YtjnkcibpkkjniaaGreat.Sim
open Go.ConcR (KK wgBlock WgAt stA smA rd wr DC0)
variable [Scope]
section
variable {P:Program} {gs:Array Goroutine} {w w₁:World} {sl:Option (Nat×Nat)} {g g₂:Goroutine} {es:Array Event} {c c' cap cap' s s' r r':Nat} {buf:Array Value} {tm tm' closed:Bool} {z z':Value}
theorem sel_both (hi:gs[0]? = some g) (h:stepG P (0 == 0) g w=.comm g₂ #[rcase c z,rcase c' z'] true .select w₁ es)
  (hc:w₁.heap[c]? = some (.chan cap buf closed s r tm)) (hsome:0 < buf.size) (hc':w₁.heap[c']? = some (.chan cap' #[] true s' r' tm'))
  (hp:partners (gs.setIfInBounds 0 ph) c true=[]) (hp':partners (gs.setIfInBounds 0 ph) c' true=[]) :
  ∃ d,runT P (crowd gs w sl) 0=(.next (crowd (gs.setIfInBounds 0 (g₂.finishComm P #[rcase c z,rcase c' z'] .select (0:Nat) (buf.getD 0 undef) true)) ((w₁.at d).setChan c cap (buf.extract 1 buf.size) closed s (r+1) tm) sl),
    MemOp.ofEvents 0 g.frame.fn g.frame.place es++#[{ g:=0,fn:=g₂.frame.fn,pos:=g₂.frame.place,act:=.recv c r cap },{ g:=0,fn:=g₂.frame.fn,pos:=g₂.frame.place,act:=.recvDone c r }]) ∨
   runT P (crowd gs w sl) 0=(.next (crowd (gs.setIfInBounds 0 (g₂.finishComm P #[rcase c z,rcase c' z'] .select (1:Nat) z' false)) (w₁.at d) sl),
    MemOp.ofEvents 0 g.frame.fn g.frame.place es++#[{ g:=0,fn:=g₂.frame.fn,pos:=g₂.frame.place,act:=.recvClosed c' }]):=by
 have hw:ways w₁ (gs.setIfInBounds 0 ph) (rcase c z)=[.buffer]:=by simp [ways,rcase,hc,hsome]
 have hw':ways w₁ (gs.setIfInBounds 0 ph) (rcase c' z')=[.closed]:=by simp [ways,rcase,hc',hp']
 have hready:(((#[rcase c z,rcase c' z']:Array CommCase).zipIdx.toList.map fun (c,k)=>(k,c,ways w₁ (gs.setIfInBounds 0 ph) c)).filter fun (_,_,ws)=>!ws.isEmpty)=[(0,rcase c z,[.buffer]),(1,rcase c' z',[.closed])]:=by
  simp [hw,hw']
 have hill:(#[rcase c z,rcase c' z']:Array CommCase).any (illMade w₁)=false:=any_ill fun cc hcc=>by
  simp at hcc
  rcases hcc with rfl | rfl
  ·exact made_recv z hc
  ·exact made_recv z' hc'
 rw [runT_crowd_comm hi h]
 have hnf:(Question.select 2).forced=false:=rfl
 have hcut:(Question.select 2).cut (w₁.tape w₁.drawn (.select 2))=0∨(Question.select 2).cut (w₁.tape w₁.drawn (.select 2))=1:=by
  have:(Question.select 2).cut (w₁.tape w₁.drawn (.select 2)) < 2:=by
   simp only [Question.cut]
   exact Nat.mod_lt _ (by omega)
  omega
 refine ⟨w₁.drawn+1,?_⟩
 have hdr:w₁.drew.heap[c]? = some (.chan cap buf closed s r tm):=hc
 rcases hcut with h0 | h0
 ·refine .inl ?_
  unfold communicate
  simp only [hready]
  rw [if_neg]
  ·simp [choose,Sem.run,hnf,h0,bind,Sem.bind,pure,rcase,hdr,hp,World.setChan,crowd,Question.forced]
   try first | exact ⟨rfl,rfl,rfl,rfl,rfl⟩ | rfl
  ·rw [Bool.not_eq_true];exact hill
 ·refine .inr ?_
  unfold communicate
  simp only [hready]
  rw [if_neg]
  ·simp [choose,Sem.run,hnf,h0,bind,Sem.bind,pure,rcase,hdr,hp,World.setChan,crowd,Question.forced]
   try first | exact ⟨rfl,rfl,rfl,rfl,rfl⟩ | rfl
  ·rw [Bool.not_eq_true];exact hill
end
section
variable {X:Ctx} {s:St} {n:Nat} {gs:Array Goroutine} {w:World} {sl:Option (Nat×Nat)} {t:Trace} {a:Goroutine} {z1 z2:Value}
structure Took (s s':St) (i:Nat) (w w':World):Prop where
 j:s'.j=s.j
 p:s'.p=s.p
 d0:s'.d0=s.d0
 V:s'.V=s.V
 W:s'.W=s.W
 sp:s'.tag=.sp↔s.tag=.sp
 got:s'.got=s.got++[i]
 new:i ∉ s.got
 val:∀ i∈s.got,(s'.D i).v=(s.D i).v
 heap:∀ b,s.V b→w'.heap[b]? = w.heap[b]?
structure Over (X:Ctx) (s s':St) (w:World) (a':Goroutine) (w':World):Prop where
 run:∃ N gs' sl' t' q',runNT X.P N X.m0 X.t0=(.next (crowd gs' w' sl'),t')∧gs'[0]? = some a'∧Leavers X.P t' gs' q'∧Past (fun l=>X.Shun l∨ShP X.N l) w'.heap.size t'
 done:∀ i,i < X.N.n→Done (X.J i) (s'.D i).ρ (s'.D i).v w'∧i∈s'.got++s'.wait
 nodup:(s'.got++s'.wait).Nodup
 range:∀ i∈s'.got++s'.wait,i < X.N.n
 back:w'.heap[X.N.CB]? = some (.chan X.N.n (s'.wait.map fun i=>(X.J i).msg (s'.D i).v).toArray false (s'.got.length+s'.wait.length) s'.got.length false)
 zone:Zone X s' w'
 V:s'.V=s.V
 W:s'.W=s.W
 got:s'.got=s.got
 val:∀ i∈s.got,(s'.D i).v=(s.D i).v
 heap:∀ b,s.V b→w'.heap[b]? = w.heap[b]?
 base:Scope.base≤w'.heap.size
def SelOut (X:Ctx) (s:St) (w:World) (a:Goroutine) (z1 z2:Value):Prop :=
 (∃ i s' w',At X s' w' (a.finishComm X.P (cases2 X z1 z2) .select (0:Nat) ((X.J i).msg (s'.D i).v) true)∧i < X.N.n∧Took s s' i w w') ∨
 ∃ s' w',Over X s s' w (a.finishComm X.P (cases2 X z1 z2) .select (1:Nat) z2 false) w'
theorem Keeps.took {s s' s'':St} {i:Nat} {w w' w'':World} (h:Keeps s s' w w') (k:Took s' s'' i w' w''):Took s s'' i w w'' :=
 ⟨k.j.trans h.j,k.p.trans h.p,k.d0.trans h.d0,k.V.trans h.V,k.W.trans h.W,k.sp.trans h.sp,by rw [k.got,h.got],by have:=k.new;rw [h.got] at this;exact this,fun i hi=>(k.val i (h.got▸hi)).trans (h.val i hi),fun b hb=>(k.heap b (h.V▸hb)).trans (h.heap b hb)⟩
theorem Keeps.over {s s' s'':St} {w w' w'':World} {a':Goroutine} (h:Keeps s s' w w') (k:Over X s' s'' w' a' w''):Over X s s'' w a' w'' :=
 ⟨k.run,k.done,k.nodup,k.range,k.back,k.zone,k.V.trans h.V,k.W.trans h.W,k.got.trans h.got,fun i hi=>(k.val i (h.got▸hi)).trans (h.val i hi),fun b hb=>(k.heap b (h.V▸hb)).trans (h.heap b hb),k.base⟩
theorem SelOut.keeps {s s':St} {w w':World} (h:Keeps s s' w w') (k:SelOut X s' w' a z1 z2):SelOut X s w a z1 z2:=by
 rcases k with ⟨i,s2,w2,k1,k2,k3⟩ | ⟨s2,w2,k1⟩
 ·exact .inl ⟨i,s2,w2,k1,k2,h.took k3⟩
 ·exact .inr ⟨s2,w2,h.over k1⟩
theorem Same0.keeps (hc:Crew X s n gs w t) {s':St} {w':World} (h:Same0 s s') (hg:s'.got=s.got) (hh:∀ b,s.V b→w'.heap[b]? = w.heap[b]?):Keeps s s' w w' :=
 ⟨h.j,h.p,h.d0,h.V,h.W,h.sp,hg,fun i hi=>by have:=(hc.list i).1 (List.mem_append_left _ hi);exact h.val i this.1 this.2,hh⟩
theorem Crew.select [Zeros X.P] [Codes X.P] (hX:X.Good) (h:Now X s n gs w sl t a) {d:Nat} {sl':Option (Nat×Nat)} {a0:Goroutine} (hst:stepT X.P (crowd gs w sl)=runT X.P (crowd gs (w.at d) sl') 0) (hc:Crew X s n gs (w.at d) t)
  (hn:∀ i,i < X.N.n→sums (segOf X.P X.pk (X.N.B+i) X.m0 X.t0) (n+1)=sums (segOf X.P X.pk (X.N.B+i) X.m0 X.t0) n) (hr:a.status=.running) (hsp:s.tag≠.sp) (hd0:s.d0=0)
  (hsel:stepG X.P true a (w.at d)=.comm a0 (cases2 X z1 z2) true .select (w.at d) #[]) :
  SelOut X s (w.at d) a0 z1 z2∨∃ gs',Now X s (n+1) gs' (w.at d) sl' t (parked a0 (cases2 X z1 z2) .select)∧s.wait=[]∧s.tag≠.qt:=by
 have hnone:∀ (r:Nat) (b:Bool),partners (gs.setIfInBounds 0 ph) r b=[]:=fun r b=>partners_nil fun k g hg=>by
  by_cases hk:k=0
  ·subst hk
   rcases getElem?_stand gs 0 0 g hg with ⟨_,rfl⟩ | ⟨k,_⟩
   ·exact offersAt_ph r b
   ·exact absurd rfl k
  ·exact hc.offers hX hk hg r b
 have h0:0 < gs.size:=(Array.getElem?_eq_some_iff.1 h.main).1
 have hgs:∀ (x:Goroutine) k,0 < k→(gs.setIfInBounds 0 x)[k]? = gs[k]?:=fun x k hk=>Array.getElem?_setIfInBounds_ne (by omega)
 have hset:∀ x:Goroutine,(gs.setIfInBounds 0 x)[0]? = some x:=fun x=>Array.getElem?_setIfInBounds_self_of_lt h0
 have take:∀ (d' i:Nat) (rest:List Nat) (u:Trace),s.wait=i::rest→runT X.P (crowd gs (w.at d) sl') 0=(.next (crowd (gs.setIfInBounds 0 (a0.finishComm X.P (cases2 X z1 z2) .select (0:Nat) (((s.wait.map fun i=>(X.J i).msg (s.D i).v).toArray).getD 0 undef) true)) (((w.at d).at d').setChan X.N.CB X.N.n ((s.wait.map fun i=>(X.J i).msg (s.D i).v).toArray.extract 1 (s.wait.map fun i=>(X.J i).msg (s.D i).v).toArray.size) false (s.got.length+s.wait.length) (s.got.length+1) false) sl'),u) →
   u=MemOp.ofEvents 0 a.frame.fn a.frame.place #[]++#[{ g:=0,fn:=a0.frame.fn,pos:=a0.frame.place,act:=.recv X.N.CB s.got.length X.N.n },{ g:=0,fn:=a0.frame.fn,pos:=a0.frame.place,act:=.recvDone X.N.CB s.got.length }]→SelOut X s (w.at d) a0 z1 z2:=by
  intro d' i rest u hwait hT hu
  have hin:i < X.N.n:=by
   have:=((hc.list i).1 (by rw [hwait];simp)).1
   have:=hc.jn
   omega
  have hmem:∀ op∈u,op=({ g:=0,fn:=a0.frame.fn,pos:=a0.frame.place,act:=.recv X.N.CB s.got.length X.N.n }:MemOp)∨op={ g:=0,fn:=a0.frame.fn,pos:=a0.frame.place,act:=.recvDone X.N.CB s.got.length }:=fun op hop=>by
   rw [hu] at hop;simpa [ofEvents_eq] using hop
  have hnotin:i ∉ s.got:=fun k=>by
   have:=hc.nodup
   rw [hwait,List.nodup_append] at this
   exact this.2.2 i k i (by simp) rfl
  have hne:∀ b,b≠X.N.CB→(((w.at d).at d').setChan X.N.CB X.N.n ((s.wait.map fun i=>(X.J i).msg (s.D i).v).toArray.extract 1 (s.wait.map fun i=>(X.J i).msg (s.D i).v).toArray.size) false (s.got.length+s.wait.length) (s.got.length+1) false).heap[b]? = (w.at d).heap[b]?:=fun b hb=>by
   rw [setChan_get,if_neg (fun e=>hb e.1.symm)];rfl
  have hC:=hc.taken hX (gs':=gs.setIfInBounds 0 (a0.finishComm X.P (cases2 X z1 z2) .select (0:Nat) (((s.wait.map fun i=>(X.J i).msg (s.D i).v).toArray).getD 0 undef) true)) (n':=n+1) (u:=u) (by simp) (hgs _) hn (got':=s.got++[i]) (wait':=rest) (by rw [hwait];simp)
   (by
    rw [setChan_get,if_pos ⟨rfl,hc.zone.nums.2.1⟩,hwait]
    simp [Nat.add_assoc,Nat.add_comm]
    refine ⟨by rw [List.take_of_length_le (by simp)],by omega⟩) hne (by simp [World.setChan];rfl) rfl
   (fun op hop=>by rcases hmem op hop with rfl | rfl <;> rfl) (fun op hop=>by rcases hmem op hop with rfl | rfl <;> exact hc.zone.nums.2.1) (fun op hop=>by rcases hmem op hop with rfl | rfl <;> rfl) (fun op hop=>by rcases hmem op hop with rfl | rfl <;> simp) (fun op hop=>by rcases hmem op hop with rfl | rfl <;> simp)
  refine .inl ⟨i,_,_,⟨n+1,_,sl',_,run_next h.run (hst.trans hT),hC,?_⟩,hin,⟨rfl,rfl,rfl,rfl,rfl,Iff.rfl,rfl,hnotin,fun _ _=>rfl,fun b hb=>hne b (hc.zone.v b hb).2.2.1⟩⟩
  rw [hset]
  rw [hwait]
  rfl
 have over:∀ (d':Nat) (u:Trace),s.tag=.qt→runT X.P (crowd gs (w.at d) sl') 0=(.next (crowd (gs.setIfInBounds 0 (a0.finishComm X.P (cases2 X z1 z2) .select (1:Nat) z2 false)) ((w.at d).at d') sl'),u) →
   u=MemOp.ofEvents 0 a.frame.fn a.frame.place #[]++#[{ g:=0,fn:=a0.frame.fn,pos:=a0.frame.place,act:=.recvClosed X.N.CF }]→SelOut X s (w.at d) a0 z1 z2:=by
  intro d' u hq hT hu
  have hu':u=#[{ g:=0,fn:=a0.frame.fn,pos:=a0.frame.place,act:=.recvClosed X.N.CF }]:=by rw [hu];simp [ofEvents_eq]
  subst hu'
  obtain ⟨⟨q,k1⟩,k2,k3⟩:=hc.leave hX hq hd0 (gs':=gs.setIfInBounds 0 (a0.finishComm X.P (cases2 X z1 z2) .select (1:Nat) z2 false)) (by simp) (hgs _) (y:={ g:=0,fn:=a0.frame.fn,pos:=a0.frame.place,act:=.recvClosed X.N.CF }) ⟨rfl,rfl⟩
  have hC:=hc.at hX d' (n':=n) (fun _ _=>rfl)
  exact .inr ⟨s,_,⟨n+1,_,sl',_,q,run_next h.run (hst.trans hT),hset _,k1,k2⟩,fun i hi=>⟨((k3 i hi).1).leaves hX.sync (Leaves.of_heap rfl) rfl,(k3 i hi).2⟩,hc.nodup,fun i hi=>by have:=((hc.list i).1 hi).1;have:=hc.jn;omega,hC.back,hC.zone,rfl,rfl,rfl,fun _ _=>rfl,fun _ _=>rfl,hC.base⟩
 have hback:=hc.back
 have hfin:=hc.fin
 have hne2:X.N.CB≠X.N.CF:=hX.nums.2.2
 cases hw:s.wait with
 | nil =>
  rw [hw] at hback
  have hno:NoWays (w.at d) (gs.setIfInBounds 0 ph) (rcase X.N.CB z1):=ways_recv_none hback (hnone _ _)
  by_cases hq:s.tag=.qt
  ·rw [hq] at hfin
   have hT:=crowd_sel_recv_closed (P:=X.P) (sl:=sl') (k:=1) (z:=z2) h.main (by exact hsel) rfl (fun m c' hm hc'=>by
    match m,hm,hc' with
    | 0,_,hc'=>simp [cases2] at hc';subst hc';exact hno
    | 1,hm,_=>exact absurd rfl hm
    | m+2,_,hc'=>simp [cases2] at hc') hfin (hnone _ _)
   exact .inl (over (w.at d).drawn _ hq hT rfl)
  ·rw [isQt_false hq] at hfin
   have hno2:NoWays (w.at d) (gs.setIfInBounds 0 ph) (rcase X.N.CF z2):=ways_recv_none hfin (hnone _ _)
   have hT:=crowd_waits (P:=X.P) (sl:=sl') h.main (by exact hsel) (fun cc hcc=>by
    simp [cases2] at hcc
    rcases hcc with rfl | rfl
    ·exact hno
    ·exact hno2)
   refine .inr ⟨_,⟨run_next h.run (hst.trans hT),?_,hset _⟩,by first | exact hw | rfl,hq⟩
   have:=hc.taken hX (gs':=gs.setIfInBounds 0 (parked a0 (cases2 X z1 z2) .select)) (n':=n+1) (w':=w.at d) (u:=MemOp.ofEvents 0 a.frame.fn a.frame.place #[]) (by simp) (hgs _) hn (got':=s.got) (wait':=s.wait) rfl (by rw [hw];exact hback) (fun _ _=>rfl) rfl rfl
    (by simp [ofEvents_eq]) (by simp [ofEvents_eq]) (by simp [ofEvents_eq]) (by simp [ofEvents_eq]) (by simp [ofEvents_eq])
   simpa [ofEvents_eq] using this
 | cons i rest =>
  rw [hw] at hback
  have hsome:0 < ((i::rest).map fun i=>(X.J i).msg (s.D i).v).toArray.size:=by simp
  rw [←hw] at hback hsome
  by_cases hq:s.tag=.qt
  ·rw [hq] at hfin
   obtain ⟨d',hT⟩:=sel_both (P:=X.P) (sl:=sl') h.main (by exact hsel) hback hsome hfin (hnone _ _) (hnone _ _)
   rcases hT with hT | hT
   ·exact .inl (take d' i rest _ hw hT rfl)
   ·exact .inl (over d' _ hq hT rfl)
  ·rw [isQt_false hq] at hfin
   have hno2:NoWays (w.at d) (gs.setIfInBounds 0 ph) (rcase X.N.CF z2):=ways_recv_none hfin (hnone _ _)
   have hT:=crowd_sel_recv_buf (P:=X.P) (sl:=sl') (k:=0) (z:=z1) h.main (by exact hsel) rfl (fun m c' hm hc'=>by
    match m,hm,hc' with
    | 0,hm,_=>exact absurd rfl hm
    | 1,_,hc'=>simp [cases2] at hc';subst hc';exact hno2
    | m+2,_,hc'=>simp [cases2] at hc') hback hsome (hnone _ _)
   exact .inl (take (w.at d).drawn i rest _ hw hT rfl)
theorem At.select [Zeros X.P] [Codes X.P] (hX:X.Good) (h:At X s w a) (hr:a.status=.running) (hsp:s.tag≠.sp) (hd0:s.d0=0)
  (hsel:∀ w₁,RK X.N.ty X.N.Wg s.V w w₁→stepG X.P true a w₁=.comm a (cases2 X z1 z2) true .select w₁ #[]):SelOut X s w a z1 z2:=by
 have wf:WellFounded Lt2:=Prod.lex Nat.lt_wfRel Nat.lt_wfRel |>.wf
 have triesR:∀ w₁,stepG X.P true { parked a (cases2 X z1 z2) .select with status:=.running } w₁=stepG X.P true a w₁:=fun w₁=>by
  rw [stepG_tries]
  congr 1
  obtain ⟨fr,cs,st,dy,off⟩:=a
  simp only at hr
  subst hr
  rfl
 suffices key:∀ μ (s1:St),meas X s1=μ→∀ n gs w1 sl t a1,Now X s1 n gs w1 sl t a1→Keeps s s1 w w1 →
   ((a1.status=.running∧(∀ w₁,stepG X.P true a1 w₁=stepG X.P true a w₁))∨(a1=parked a (cases2 X z1 z2) .select∧s1.wait=[]∧s1.tag≠.qt))→SelOut X s w a z1 z2 by
  obtain ⟨n,gs,sl,t,hn⟩:=h
  exact key _ s rfl n gs w sl t a hn (Keeps.refl s w) (.inl ⟨hr,fun _=>rfl⟩)
 intro μ
 induction μ using wf.induction with
 | _ μ ih =>
  have park:∀ (s1:St),meas X s1=μ→∀ n gs w1 sl t,Now X s1 n gs w1 sl t (parked a (cases2 X z1 z2) .select)→Keeps s s1 w w1→s1.wait=[]→s1.tag≠.qt→SelOut X s w a z1 z2:=by
   intro s1 hμ n gs w1 sl t hn hk hw0 hq
   have hsp1:s1.tag≠.sp:=fun e=>hsp (hk.sp.1 e)
   rcases hn.env hX (.park a z1 z2 rfl hw0 hq hsp1) with ⟨d,sl',hr',_⟩ | ⟨s2,gs2,w2,sl2,t2,a2,h1,h2,h3,h4,h5,h6⟩
   ·cases hr'
   ·cases h5 with
    | same e1 e2 =>
     subst e1
     have hk2:=hk.trans (h3.keeps hn.crew e2 h4)
     cases h6 with
     | run hr'=>cases hr'
     | park gm y1 y2 e3 e4 e5 e6=>exact ih (meas X s2) (hμ▸h2) s2 rfl _ _ _ _ _ _ h1 hk2 (.inr ⟨rfl,e4,e5⟩)
    | served i gm y1 y2 e1 e2 e3 e4 e5 =>
     have he:gm={ a with status:=gm.status,offers:=gm.offers }∧cases2 X z1 z2=cases2 X y1 y2:=by
      obtain ⟨fr,cs,st,dy,off⟩:=a
      obtain ⟨fr',cs',st',dy',off'⟩:=gm
      simp only [parked,Goroutine.mk.injEq,Option.some.injEq,Prod.mk.injEq] at e1
      obtain ⟨rfl,rfl,_,rfl,ec,_⟩:=e1
      exact ⟨rfl,ec⟩
     have hf:gm.finishComm X.P (cases2 X y1 y2) .select (0:Nat) ((X.J i).msg (s2.D i).v) true=a.finishComm X.P (cases2 X z1 z2) .select (0:Nat) ((X.J i).msg (s2.D i).v) true:=by
      rw [he.1,←he.2];rfl
     have hnotin:i ∉ s1.got:=fun k=>by
      have hnd:=h1.crew.nodup
      rw [e3,e4,List.append_nil,List.nodup_append] at hnd
      exact hnd.2.2 i k i (by simp) rfl
     have hjn:=hn.crew.jn
     refine .inl ⟨i,s2,w2,?_,by omega,hk.took ⟨h3.j,h3.p,h3.d0,h3.V,h3.W,h3.sp,e3,hnotin,fun i' hi'=>?_,h4⟩⟩
     ·rw [←hf]
      exact ⟨_,_,_,_,by rw [e2] at h1;exact h1⟩
     ·have:=(hn.crew.list i').1 (List.mem_append_left _ hi')
      exact h3.val i' this.1 this.2
    | woken gm y1 y2 e1 e2 e3 =>
     have hk2:=hk.trans (h3.keeps hn.crew e3 h4)
     subst e2
     exact ih (meas X s2) (hμ▸h2) s2 rfl _ _ _ _ _ _ h1 hk2 (.inl ⟨rfl,triesR⟩)
  intro s1 hμ n gs w1 sl t a1 hn hk hmode
  rcases hmode with ⟨hr1,hst1⟩ | ⟨e1,e2,e3⟩
  ·rcases hn.env hX (.run hr1) with ⟨d,sl',_,k1,k2,k3⟩ | ⟨s2,gs2,w2,sl2,t2,a2,h1,h2,h3,h4,h5,h6⟩
   ·have hkd:Keeps s s1 w (w1.at d):=hk.trans (Keeps.at s1 w1 d)
    have hsel':stepG X.P true a1 (w1.at d)=.comm a (cases2 X z1 z2) true .select (w1.at d) #[]:=by
     rw [hst1]
     exact hsel _ (k2.rk hkd)
    rcases Crew.select hX hn k1 k2 k3 hr1 (fun e=>hsp (hk.sp.1 e)) (hk.d0.trans hd0) hsel' with k | ⟨gs',l1,l2,l3⟩
    ·exact k.keeps hkd
    ·exact park s1 hμ _ _ _ _ _ l1 hkd l2 l3
   ·cases h5 with
    | same e1 e2 =>
     subst e1
     exact ih (meas X s2) (hμ▸h2) s2 rfl _ _ _ _ _ _ h1 (hk.trans (h3.keeps hn.crew e2 h4)) (.inl ⟨hr1,hst1⟩)
    | served i gm y1 y2 e1=>rw [e1] at hr1;cases hr1
    | woken gm y1 y2 e1=>rw [e1] at hr1;cases hr1
  ·subst e1
   exact park s1 hμ _ _ _ _ _ hn hk e2 e3
end
end Go.Proofs.YtjnkcibpkkjniaaGreat.Pool
namespace Go.Proofs.YtjnkcibpkkjniaaGreat.Pool
open Go.Conc Go.ConcN Go.Proofs.YtjnkcibpkkjniaaGreat.Sim
open Go.ConcR (KK wgBlock WgAt stA smA rd wr DC0)
def Clean (A:MemAct→Prop) (t:Trace):Prop:=∀ op∈t,A op.act
theorem Clean.app {A:MemAct→Prop} {t:Trace} (h:Clean A t) {g:Nat} {fn:FuncId} {pos:String} {es:Array Event} (hes:∀ e∈es,A (.ofEvent e)):Clean A (t++MemOp.ofEvents g fn pos es):=by
 intro op hop
 rcases Array.mem_append.1 hop with k | k
 ·exact h op k
 ·obtain ⟨e,he,rfl⟩:=Go.Conc.mem_ofEvents k
  exact hes e he
section
variable {P:Program} {m0:Machine} {t0:Trace} {Shun:Loc→Prop} {pk:Machine→Nat×Nat×Option (Nat×Nat)}
theorem turnA {A:MemAct→Prop} (hA:∀ e:Event,e.mute=true→A (.ofEvent e)) (hpk:∀ gs w sl,(∀ g∈gs,awake g)→(∃ (i:Nat) (g:Goroutine),gs[i]? = some g∧g.status=.running) →
  ∃ g,gs[(pk (crowd gs w sl)).1]? = some g∧g.status=.running∧stepT P (crowd gs w sl)=runT P (crowd gs (w.at (pk (crowd gs w sl)).2.1) (pk (crowd gs w sl)).2.2) (pk (crowd gs w sl)).1)
  {n:Nat} {gs:Array Goroutine} {w:World} {sl:Option (Nat×Nat)} {t:Trace} {q:Nat→Nat} {g:Goroutine} (h:Beside P m0 t0 Shun n gs w sl t q g) (hc:Clean A t) (hg:g.status=.running) :
  ∃ d sl',(∃ gs' t' q',Beside P m0 t0 Shun (n+1) gs' (w.at d) sl' t' q' g∧Clean A t'∧gs'.size=gs.size∧sumTo gs.size q' < sumTo gs.size q∧segOf P pk 0 m0 t0 n=(0,0)) ∨
   (segOf P pk 0 m0 t0 n=(d,(wof (stepG P true g (w.at d))).drawn)∧∀ g' w' es,stepG P true g (w.at d)=.go g' w' es→(∀ e∈es,EvL Shun w'.heap.size e∧A (.ofEvent e))→w.heap.size≤w'.heap.size →
    ∃ gs' t',Beside P m0 t0 Shun (n+1) gs' w' sl' t' q g'∧Clean A t'∧gs'.size=gs.size):=by
 have haw:∀ x∈gs,awake x:=by
  intro x hx
  obtain ⟨i,hi,rfl⟩:=Array.mem_iff_getElem.1 hx
  rcases Nat.eq_zero_or_pos i with rfl | hpos
  ·have:gs[0]=g:=by simpa [Array.getElem?_eq_getElem hi] using h.main
   rw [this];exact awake_of (.inl hg)
  ·exact awake_of ((h.leave.old i _ hpos (Array.getElem?_eq_getElem hi)).status.elim .inl fun x=>.inr (.inr x))
 obtain ⟨x,hx,hxr,hst⟩:=hpk gs w sl haw ⟨0,g,h.main,hg⟩
 have hown:=segOf_own (P:=P) (pk:=pk) (i0:=0) h.run h.main
 have hoth:=segOf_other (P:=P) (pk:=pk) (i0:=0) h.run
 generalize pk (crowd gs w sl)=y at hx hst hown hoth
 obtain ⟨i,d,sl'⟩:=y
 simp only at hx hst hown hoth
 refine ⟨d,sl',?_⟩
 rcases Nat.eq_zero_or_pos i with rfl | hpos
 ·refine .inr ⟨hown rfl,fun g' w' es hgo hes hsz=>?_⟩
  obtain rfl:x=g:=by rw [h.main] at hx;exact (Option.some.inj hx).symm
  have hrun:=runT_crowd_go (P:=P) (sl:=sl') (i:=0) h.main (show stepG P (0 == 0) x (w.at d)=_ from hgo)
  have hlt:0 < gs.size:=(Array.getElem?_eq_some_iff.1 h.main).1
  refine ⟨_,_,⟨run_next h.run (hst.trans hrun),by simp [hlt],leavers_other h.leave h.main _ _ _,(h.past.mono hsz).own fun e he=>(hes e he).1⟩,hc.app fun e he=>(hes e he).2,by simp⟩
 ·refine .inl ?_
  have hq:=h.leave.old i x hpos hx
  have hlt:i < gs.size:=(Array.getElem?_eq_some_iff.1 hx).1
  have hi0:(i == 0)=false:=by simp;omega
  cases hqi:q i with
  | zero=>rw [hqi] at hq;rw [hq.1] at hxr;cases hxr
  | succ k =>
   rw [hqi] at hq
   rcases hq with ⟨hf,_⟩ | ⟨_,g',es,hm,hstp,hq'⟩
   ·rw [hf] at hxr;cases hxr
   have hrun:=runT_crowd_go (P:=P) (sl:=sl') (i:=i) hx (by rw [hi0];exact hstp (w.at d))
   have hsum:sumTo gs.size (upd q i k)+(k+1)=sumTo gs.size q+k:=by
    have:=sumTo_upd q k id hlt
    simpa [hqi] using this
   refine ⟨_,_,upd q i k,⟨run_next h.run (hst.trans hrun),?_,⟨fun j z hj hz=>?_,fun j hj=>?_⟩,h.past.mute (show i≠0 by omega) hm⟩,hc.app fun e he=>hA e (hm e he),by simp,by omega,hoth (show i≠0 by omega)⟩
   ·rw [Array.getElem?_setIfInBounds_ne (show i≠0 by omega),Array.getElem?_map,h.main]
    simp [woken_run hg]
   ·by_cases hji:i=j
    ·subst hji
     rw [Array.getElem?_setIfInBounds_self_of_lt (by simpa using hlt)] at hz
     obtain rfl:=Option.some.inj hz
     rw [upd_same,Deaf_own]
     exact hq'
    ·rw [Array.getElem?_setIfInBounds_ne hji,Array.getElem?_map] at hz
     obtain ⟨y,hy,rfl⟩:=Option.map_eq_some_iff.1 hz
     have hqj:=h.leave.old j y hj hy
     rw [woken_quitsD hqj,upd_ne q k (Ne.symm hji),Deaf_other t hji _ (fun op hop=>by obtain ⟨e,_,rfl⟩:=Go.Conc.mem_ofEvents hop;rfl)]
     exact hqj
   ·have hj':gs.size≤j:=by simpa using hj
    rw [Deaf_other t (g':=i) (show i≠j by omega) _ (fun op hop=>by obtain ⟨e,_,rfl⟩:=Go.Conc.mem_ofEvents hop;rfl)]
    exact h.leave.above j hj'
end
section
variable {P:Program}
theorem main_stepA {A:MemAct→Prop} (hA:∀ e:Event,e.mute=true→A (.ofEvent e)) {Shun:Loc→Prop} {Post:Goroutine→World→Prop} {g:Goroutine} {w:World} (hg:g.status=.running)
  (h:∀ d,∃ g' w' es,stepG P true g (w.at d)=.go g' w' es∧(∀ e∈es,EvL Shun w'.heap.size e∧A (.ofEvent e))∧w.heap.size≤w'.heap.size∧Post g' w') :
  ∀ (gs:Array Goroutine) (sl:Option (Nat×Nat)) (t:Trace) (q:Nat→Nat),gs[0]? = some g→Leavers P t gs q→Past Shun w.heap.size t→Clean A t →
   ∃ N gs' g' w' sl' t' q',runNT P N (crowd gs w sl) t=(.next (crowd gs' w' sl'),t')∧gs'.size=gs.size∧gs'[0]? = some g'∧Leavers P t' gs' q'∧Past Shun w'.heap.size t'∧Clean A t'∧Post g' w':=by
 obtain ⟨pk,hpk⟩:=picks P
 suffices key:∀ (μ:Nat) (w1:World),(∃ d,w1=w.at d)∨w1=w→∀ (gs:Array Goroutine) (sl:Option (Nat×Nat)) (t:Trace) (q:Nat→Nat),sumTo gs.size q=μ→gs[0]? = some g→Leavers P t gs q→Past Shun w.heap.size t→Clean A t →
   ∃ N gs' g' w' sl' t' q',runNT P N (crowd gs w1 sl) t=(.next (crowd gs' w' sl'),t')∧gs'.size=gs.size∧gs'[0]? = some g'∧Leavers P t' gs' q'∧Past Shun w'.heap.size t'∧Clean A t'∧Post g' w' from
  fun gs sl t q h0 hL hP hC=>key _ w (.inr rfl) gs sl t q rfl h0 hL hP hC
 intro μ
 induction μ using Nat.strongRecOn with
 | _ μ ih =>
  intro w1 hw1 gs sl t q hμ h0 hL hP hC
  have hat:∀ d,w1.at d=w.at d:=by
   intro d
   rcases hw1 with ⟨d',rfl⟩ | rfl <;> rfl
  have hsz:w1.heap.size=w.heap.size:=by rcases hw1 with ⟨d',rfl⟩ | rfl <;> rfl
  have hb:Beside P (crowd gs w1 sl) t Shun 0 gs w1 sl t q g:=⟨rfl,h0,hL,by rw [hsz];exact hP⟩
  obtain ⟨d,sl',hturn⟩:=turnA (pk:=pk) hA hpk hb hC hg
  rcases hturn with ⟨gs2,t2,q2,hb2,hC2,hs2,hlt,_⟩ | ⟨_,hgo⟩
  ·obtain ⟨N,gs',g',w',sl2,t',q',r1,r2,r3⟩:=ih (sumTo gs2.size q2) (by rw [hs2,←hμ];exact hlt) (w1.at d) (.inl ⟨d,hat d⟩) gs2 sl' t2 q2 rfl hb2.main hb2.leave (by have:=hb2.past;rw [hat d] at this;exact this) hC2
   refine ⟨1+N,gs',g',w',sl2,t',q',?_,r2.trans hs2,r3⟩
   rw [runNT_add,show runNT P 1 (crowd gs w1 sl) t=_ from hb2.run]
   exact r1
  ·obtain ⟨g',w',es,e1,e2,e3,e4⟩:=h d
   obtain ⟨gs2,t2,hb2,hC2,hs2⟩:=hgo g' w' es (by rw [hat d];exact e1) e2 (by rw [hsz];exact e3)
   exact ⟨1,gs2,g',w',sl',t2,q,hb2.run,hs2,hb2.main,hb2.leave,hb2.past,hC2,e4⟩
def GetsA (P:Program) (A:MemAct→Prop) (Shun:Loc→Prop) (Q:Goroutine→World→Prop) (g:Goroutine) (w:World):Prop :=
 ∀ gs sl t q,gs[0]? = some g→Leavers P t gs q→Past Shun w.heap.size t→Clean A t →
  ∃ N gs' g' w' sl' t' q',runNT P N (crowd gs w sl) t=(.next (crowd gs' w' sl'),t')∧gs'.size=gs.size∧gs'[0]? = some g'∧Leavers P t' gs' q'∧Past Shun w'.heap.size t'∧Clean A t'∧Q g' w'
variable {A:MemAct→Prop} {Shun:Loc→Prop} {Q:Goroutine→World→Prop} {g:Goroutine} {w:World}
theorem GetsA.done (h:Q g w):GetsA P A Shun Q g w:=fun gs sl t q h0 hL hP hC=>⟨0,gs,g,w,sl,t,q,rfl,rfl,h0,hL,hP,hC,h⟩
theorem GetsA.step (hA:∀ e:Event,e.mute=true→A (.ofEvent e)) (hg:g.status=.running)
  (h:∀ d,∃ g' w' es,stepG P true g (w.at d)=.go g' w' es∧(∀ e∈es,EvL Shun w'.heap.size e∧A (.ofEvent e))∧w.heap.size≤w'.heap.size∧GetsA P A Shun Q g' w'):GetsA P A Shun Q g w:=by
 intro gs sl t q h0 hL hP hC
 obtain ⟨N,gs',g',w',sl',t',q',r1,r2,r3,r4,r5,r6,r7⟩:=main_stepA hA hg h gs sl t q h0 hL hP hC
 obtain ⟨N2,gs2,g2,w2,sl2,t2,q2,k1,k2,k3,k4,k5,k6,k7⟩:=r7 gs' sl' t' q' r3 r4 r5 r6
 exact ⟨N+N2,gs2,g2,w2,sl2,t2,q2,by rw [runNT_add,r1];exact k1,k2.trans r2,k3,k4,k5,k6,k7⟩
end
end Go.Proofs.YtjnkcibpkkjniaaGreat.Pool
namespace Go.Proofs.YtjnkcibpkkjniaaGreat.Pool
open Go.Conc Go.ConcN Go.Proofs.YtjnkcibpkkjniaaGreat.Sim
open Go.ConcR (KK wgBlock WgAt stA smA rd wr DC0)
def Fresh (N:Nums) (x:MemAct):Prop:=(∀ a,x.touch? = some a→¬ ShP N a.loc)∧x≠.mark (.release (stA N.Wg))
theorem Fresh.mute (N:Nums) (e:Event) (he:e.mute=true):Fresh N (.ofEvent e):=by
 obtain ⟨l,wr,sy⟩:=e
 cases l with
 | mark m=>cases m <;> first | (cases he;done) | exact ⟨fun a ha=>by simp [MemAct.ofEvent,MemAct.touch?] at ha,by simp [MemAct.ofEvent]⟩
 | _=>cases he
theorem Fresh.of_low {N:Nums} {B:Nat} {x:MemAct} (h:x.low B) (h1:B≤N.Wg) (h2:B≤N.CB) (h3:B≤N.CF):Fresh N x:=by
 refine ⟨fun a ha hs=>?_,fun e=>?_⟩
 ·have hlow:a.loc.low B:=by
   cases x with
   | access e=>simp only [MemAct.touch?,Option.some.injEq] at ha;subst ha;exact h
   | mark m=>cases m <;> simp [MemAct.touch?] at ha <;> (subst ha;exact h)
   | _=>simp [MemAct.touch?] at ha
  rcases hs with ⟨ad,e,hb⟩ | e | e
  ·rw [e] at hlow
   have:ad.block < B:=hlow
   omega
  ·rw [e] at hlow
   have:N.CB < B:=hlow
   omega
  ·rw [e] at hlow
   have:N.CF < B:=hlow
   omega
 ·subst e
  have:N.Wg < B:=h
  omega
theorem Fresh.cell {N:Nums} {a:Addr} {wr sy:Bool} (h:a.block≠N.Wg):Fresh N (.ofEvent ⟨.cell a,wr,sy⟩):=by
 have e:MemAct.ofEvent ⟨.cell a,wr,sy⟩=.access ⟨.cell a,wr,sy⟩:=by simp [MemAct.ofEvent]
 rw [e]
 refine ⟨fun x hx hs=>?_,fun e=>by cases e⟩
 simp only [MemAct.touch?,Option.some.injEq] at hx
 subst hx
 rcases hs with ⟨ad,e,hb⟩ | e | e
 ·cases e;exact h hb
 ·cases e
 ·cases e
variable [Scope]
def St.start (X:Ctx) (q:Nat→Nat) (V W:Nat→Prop):St:=⟨0,0,fun i=>⟨10,0,0,(X.J i).ρ,undef⟩, .sp,0,0,0,q,V,W,[],[]⟩
theorem Crew.start {X:Ctx} {gs:Array Goroutine} {w:World} {t:Trace} {q:Nat→Nat} {V W:Nat→Prop} {n:Nat} (hX:X.Good) (hB:X.N.B=gs.size) (hL:Leavers X.P t gs q) (hP:Past X.Shun w.heap.size t) (hC:Clean (Fresh X.N) t)
  (hwg:WgAt X.N.ty X.N.Wg w 0 0) (hback:w.heap[X.N.CB]? = some (.chan X.N.n #[] false 0 0 false)) (hfin:w.heap[X.N.CF]? = some (.chan 0 #[] false 0 0 false))
  (hjobs:∀ i,i < X.N.n→HR (X.J i).ρ (X.J i).wS w) (hz:Zone X (St.start X q V W) w) (hb:Scope.base≤w.heap.size):Crew X (St.start X q V W) n gs w t where
 size:=⟨fun _=>hB.symm,fun e=>absurd rfl e⟩
 jn:=Nat.zero_le _
 lv:=fun i g h0 _ hg=>hL.old i g h0 hg
 wk:=fun i hi=>absurd hi (Nat.not_lt_zero i)
 un:=fun i _ h=>⟨rfl,hjobs i h⟩
 cl:=fun e=>absurd rfl e
 hear:=hP.hears
 fresh:=fun j hj=>hL.above j hj
 wg:=⟨0,0,hwg,by
  have:=Mode.opn (j:=0) (p:=0) (D:=(St.start X q V W).D) (tag:=.sp) trivial (fun i hi=>absurd hi (Nat.not_lt_zero i)) (fun vs e=>by cases e)
  have e:(((Vc 0 (St.start X q V W).D+0:Nat):Int) * KK)=0:=by simp [Vc,sumTo]
  rw [e] at this
  exact this⟩
 back:=hback
 nodup:=List.nodup_nil
 list:=fun i=>Iff.intro (fun h=>absurd h (by simp [St.start])) (fun h=>absurd h.1 (Nat.not_lt_zero i))
 fin:=hfin
 tr:=by
  have eK:KP X (St.start X q V W)=fun _=>False:=by
   funext k
   refine propext ⟨fun hk=>?_,fun h=>h.elim⟩
   rcases hk with ⟨a1,a2⟩ | ⟨a1,_⟩
   ·have a2':k < X.N.B+0:=a2
    omega
   ·exact a1 rfl
  rw [eK]
  refine PT.start hP fun i a ha hs=>?_
  obtain ⟨op,hop,hx⟩:=touch_of ha
  exact (hC op (mem_of_getElem? hop)).1 a hx hs
 low:=hP.seen
 norel:=fun i e=>by
  unfold Trace.act? at e
  obtain ⟨op,ho,ea⟩:=Option.map_eq_some_iff.1 e
  exact (hC op (mem_of_getElem? ho)).2 ea
 rel:=fun i hi=>absurd hi (Nat.not_lt_zero i)
 acq:=fun e=>by cases e
 cls:=fun e=>by cases e
 zone:=hz
 base:=hb
end Go.Proofs.YtjnkcibpkkjniaaGreat.Pool
namespace Go.Proofs.YtjnkcibpkkjniaaGreat.Pool
open Go.Conc Go.ConcN Go.Proofs.YtjnkcibpkkjniaaGreat.Sim
open Go.ConcR (KK wgBlock WgAt stA smA rd wr DC0)
section
variable {P:Program} {main:Bool} {b:Frame} {a:Act} {kk:List Item} {cs:List Frame} {w:World} {ops:Array Oper} {i:Nat} {rest:List Nat} {o:Oper}
def ptr (x:Nat):Value:=.pointer (some ⟨x,0,none⟩)
theorem stepG_box {elem:TypeId} {x:Operand} (ho:ops[i]? = some o) (hw:Region.wanted o (yielded ops a.tmps)=true) (hk:b.kind≠.early) (hop:o.op=.box elem x) :
  stepG P main (G (b.at a (.inRegion ops (i::rest)::kk)) cs) w=.go (G (b.at (a.put o.dst (ptr w.heap.size)) (.inRegion ops rest::kk)) cs) (w.alloc (.cells (a.eval x).cells elem)) #[]:=by
 have hr:(execOp a.eval o).run P w=.ok (.value (ptr w.heap.size)) (w.alloc (.cells (a.eval x).cells elem)):=by
  unfold execOp
  simp only [hop]
  simp [go_sem,Instr.box,ptr]
 have he:(execOp a.eval o).events P w #[]=#[]:=by
  unfold execOp
  simp only [hop]
  simp [go_sem,Instr.box]
 rw [stepG_value ho hw hk hr,listed_none he]
theorem stepG_alloc {elem:TypeId} {z:Value} (ho:ops[i]? = some o) (hw:Region.wanted o (yielded ops a.tmps)=true) (hk:b.kind≠.early) (hop:o.op=.alloc elem) (hz:∀ w,(zeroValue elem).run P w=.ok z w) (hze:∀ w es,(zeroValue elem).events P w es=es) :
  stepG P main (G (b.at a (.inRegion ops (i::rest)::kk)) cs) w=.go (G (b.at (a.put o.dst (ptr w.heap.size)) (.inRegion ops rest::kk)) cs) (w.alloc (.cells z.cells elem)) #[]:=by
 have hr:(execOp a.eval o).run P w=.ok (.value (ptr w.heap.size)) (w.alloc (.cells z.cells elem)):=by
  unfold execOp
  simp only [hop]
  simp [go_sem,Instr.alloc,ptr,hz]
 have he:(execOp a.eval o).events P w #[]=#[]:=by
  unfold execOp
  simp only [hop]
  simp [go_sem,Instr.alloc,hz,hze]
 rw [stepG_value ho hw hk hr,listed_none he]
theorem stepG_makeChan {t elem:TypeId} {dir:ChanDir} {ti:TypeInfo} {x:Operand} {n:Nat} (ho:ops[i]? = some o) (hw:Region.wanted o (yielded ops a.tmps)=true) (hk:b.kind≠.early) (hop:o.op=.makeChan t x) (hx:a.eval x=.int .i64 n)
  (ht:P.underlying t=some (.chan dir elem)) (hti:P.info? elem=some ti) (hn:ti.bytes * n≤2 ^ 48 - 112) (hn2:n < 9223372036854775808) :
  stepG P main (G (b.at a (.inRegion ops (i::rest)::kk)) cs) w=.go (G (b.at (a.put o.dst (.chan (some w.heap.size))) (.inRegion ops rest::kk)) cs) (w.alloc (.chan n #[] false 0 0 false)) #[]:=by
 simp only [Act.eval,Array.getD_eq_getD_getElem?] at hx
 have h1:¬ ((n:Int) < 0∨(n:Int) > IntKind.i64.max∨(ti.bytes:Int) * (n:Int) > 2 ^ 48 - 112):=by
  have e:((ti.bytes:Int) * (n:Int))=((ti.bytes * n:Nat):Int):=by simp
  rw [e]
  have:IntKind.i64.max=9223372036854775807:=by decide
  rw [this]
  omega
 have h2:(n:Int)≤9223372036854775807:=by omega
 have h3:(ti.bytes:Int) * (n:Int)≤281474976710544:=by
  have e:((ti.bytes:Int) * (n:Int))=((ti.bytes * n:Nat):Int):=by simp
  rw [e]
  omega
 have hr:(execOp a.eval o).run P w=.ok (.value (.chan (some w.heap.size))) (w.alloc (.chan n #[] false 0 0 false)):=by
  unfold execOp
  simp only [hop]
  simp [go_sem,Instr.makeChan,hx,run_underlying ht,typeInfo,hti,h1,h2,h3]
 have he:(execOp a.eval o).events P w #[]=#[]:=by
  unfold execOp
  simp only [hop]
  simp [go_sem,Instr.makeChan,hx,run_underlying ht,typeInfo,hti,h1,h2,h3]
 rw [stepG_value ho hw hk hr,listed_none he]
theorem stepG_store1 {t:TypeId} {x y:Operand} {ad:Addr} {v u:Value} (ho:ops[i]? = some o) (hw:Region.wanted o (yielded ops a.tmps)=true) (hk:b.kind≠.early) (hop:o.op=.store t x y)
  (hx:a.eval x=.pointer (some ad)) (hy:a.eval y=v) (hv:(∃ c,v=.chan (some c))∨∃ k n,v=.int k n) (hag:∀ w,(isAgg t).run P w=.ok false w) (hsz:∀ w,(sizeOf t).run P w=.ok 1 w) (hc:w.cell? ad=some u) (hz:w.frozen? ad=false) (hq:(P.funcs[b.fn]?).any (·.norace)=false) :
  stepG P main (G (b.at a (.inRegion ops (i::rest)::kk)) cs) w=.go (G (b.at (a.put o.dst undef) (.inRegion ops rest::kk)) cs) (w.setCell ad v) #[⟨.cell ad,true,false⟩]:=by
 simp only [Act.eval,Array.getD_eq_getD_getElem?] at hx hy
 have hr:(execOp a.eval o).run P w=.ok .skip (w.setCell ad v):=by
  unfold execOp
  simp only [hop]
  rcases hv with ⟨c,rfl⟩ | ⟨c,m,rfl⟩ <;> simp [go_sem,stored,hx,hy,hc,hz,hag,hsz]
 have he:(execOp a.eval o).events P w #[]=#[⟨.cell ad,true,false⟩]:=by
  unfold execOp
  simp only [hop]
  rcases hv with ⟨c,rfl⟩ | ⟨c,m,rfl⟩ <;> simp [go_sem,storedEv,hx,hy,hc,hz,hag,hsz]
 rw [stepG_none ho hw hk hr]
 unfold Go.Conc.listed
 rw [he,seen_eq hq (by simp)]
end
structure Ext (w0:World) (l:Array Obj) (w:World):Prop where
 heap:w.heap=w0.heap++l
 os:w.os=w0.os
section
variable {w0 w:World} {l:Array Obj}
theorem Ext.at (h:Ext w0 l w) (d:Nat):Ext w0 l (w.at d):=⟨h.heap,h.os⟩
theorem Ext.size (h:Ext w0 l w):w.heap.size=w0.heap.size+l.size:=by rw [h.heap];simp
theorem Ext.alloc (h:Ext w0 l w) (o:Obj):Ext w0 (l.push o) (w.alloc o):=⟨by show w.heap.push o=_;rw [h.heap];simp,h.os⟩
theorem Ext.old (h:Ext w0 l w) {b:Nat} (hb:b < w0.heap.size):w.heap[b]? = w0.heap[b]?:=by rw [h.heap,Array.getElem?_append_left hb]
theorem Ext.get (h:Ext w0 l w) (i:Nat):w.heap[w0.heap.size+i]? = l[i]?:=by rw [h.heap,Array.getElem?_append_right (by omega)];congr 1;omega
theorem Ext.cellOld (h:Ext w0 l w) {b:Nat} (hb:b < w0.heap.size) (o:Nat):w.cell? ⟨b,o,none⟩=w0.cell? ⟨b,o,none⟩:=Go.ConcN.cell_of_block (h.old hb) o
theorem Ext.cellNew (h:Ext w0 l w) {i:Nat} {c:Array Value} {ty:TypeId} {fr:Nat×Nat} (hi:l[i]? = some (.cells c ty fr)) (o:Nat):w.cell? ⟨w0.heap.size+i,o,none⟩=c[o]?:=by
 have:=(h.get i).trans hi
 simp [World.cell?,this]
theorem Ext.frozenNew (h:Ext w0 l w) {i:Nat} {c:Array Value} {ty:TypeId} (hi:l[i]? = some (.cells c ty (0,0))) (o:Nat):w.frozen? ⟨w0.heap.size+i,o,none⟩=false:=by
 have:=(h.get i).trans hi
 simp [World.frozen?,this]
theorem Ext.cellAt (h:Ext w0 l w) {B i:Nat} (hB:B=w0.heap.size+i) {c:Array Value} {ty:TypeId} {fr:Nat×Nat} (hi:l[i]? = some (.cells c ty fr)) {o:Nat} {v:Value} (hv:c[o]? = some v):w.cell? ⟨B,o,none⟩=some v:=by
 subst hB
 exact (h.cellNew hi o).trans hv
theorem Ext.setCell (h:Ext w0 l w) {i:Nat} {c:Array Value} {ty:TypeId} {fr:Nat×Nat} (hi:l[i]? = some (.cells c ty fr)) (o:Nat) (v:Value):Ext w0 (l.setIfInBounds i (.cells (c.setIfInBounds o v) ty fr)) (w.setCell ⟨w0.heap.size+i,o,none⟩ v):=by
 have hb:=(h.get i).trans hi
 refine ⟨?_,h.os⟩
 apply Array.ext_getElem?
 intro k
 have hil:i < l.size:=(Array.getElem?_eq_some_iff.1 hi).1
 by_cases e:k=w0.heap.size+i
 ·subst e
  rw [Array.getElem?_append_right (by omega),show w0.heap.size+i - w0.heap.size=i by omega,Array.getElem?_setIfInBounds_self_of_lt hil]
  simp only [World.setCell,Array.getElem?_modify,if_true,hb,Option.map_some]
  simp
 ·simp only [World.setCell,Array.getElem?_modify]
  rw [if_neg (Ne.symm e),h.heap]
  rcases Nat.lt_or_ge k w0.heap.size with hk | hk
  ·rw [Array.getElem?_append_left hk,Array.getElem?_append_left hk]
  ·rw [Array.getElem?_append_right hk,Array.getElem?_append_right hk,Array.getElem?_setIfInBounds_ne (by omega)]
end
section
variable {P:Program} {N:Nums} {Shun:Loc→Prop} {Q:Goroutine→World→Prop} {g g':Goroutine} {w0 w:World} {l:Array Obj}
theorem GetsA.ext (hg:g.status=.running) (hE:Ext w0 l w)
  (h:∀ w',Ext w0 l w'→(stepG P true g w').goes fun g' w'' es=>(∀ e∈es,EvL Shun w''.heap.size e∧Fresh N (.ofEvent e))∧w'.heap.size≤w''.heap.size∧GetsA P (Fresh N) Shun Q g' w''):GetsA P (Fresh N) Shun Q g w :=
 GetsA.step (Fresh.mute N) hg fun d=>by
  obtain ⟨a',w',es,e1,e2,e3,e4⟩:=goes_elim (h (w.at d) (hE.at d))
  exact ⟨a',w',es,e1,e2,e3,e4⟩
theorem GetsA.ctl (hg:g.status=.running) (hE:Ext w0 l w) (h:∀ w,stepG P true g w=.go g' w #[]) (k:∀ w',Ext w0 l w'→GetsA P (Fresh N) Shun Q g' w'):GetsA P (Fresh N) Shun Q g w :=
 GetsA.ext hg hE fun w' h'=>by
  rw [h w',goes_go]
  exact ⟨by simp,Nat.le_refl _,k w' h'⟩
section
variable {b:Frame} {a:Act} {kk:List Item} {cs:List Frame} {ops:Array Oper} {i:Nat} {rest:List Nat} {o:Oper}
theorem GetsA.box {elem:TypeId} {x:Operand} {B:Nat} {v:Value} {c:Array Value} (hE:Ext w0 l w) (hB:B=w0.heap.size+l.size) (hx:a.eval x=v) (hc:v.cells=c) (ho:ops[i]? = some o) (hw:Region.wanted o (yielded ops a.tmps)=true) (hk:b.kind≠.early) (hop:o.op=.box elem x)
  (k:∀ w',Ext w0 (l.push (.cells c elem)) w'→GetsA P (Fresh N) Shun Q (G (b.at (a.put o.dst (ptr B)) (.inRegion ops rest::kk)) cs) w') :
  GetsA P (Fresh N) Shun Q (G (b.at a (.inRegion ops (i::rest)::kk)) cs) w :=
 GetsA.ext rfl hE fun w' h'=>by
  rw [stepG_box ho hw hk hop,goes_go,hx,hc,show ptr w'.heap.size=ptr B by rw [hB,h'.size]]
  exact ⟨by simp,by show w'.heap.size≤(w'.heap.push _).size;simp,k _ (h'.alloc _)⟩
theorem GetsA.alloc {elem:TypeId} {z:Value} {B:Nat} {c:Array Value} (hE:Ext w0 l w) (hB:B=w0.heap.size+l.size) (hc:z.cells=c) (ho:ops[i]? = some o) (hw:Region.wanted o (yielded ops a.tmps)=true) (hk:b.kind≠.early) (hop:o.op=.alloc elem) (hz:∀ w,(zeroValue elem).run P w=.ok z w) (hze:∀ w es,(zeroValue elem).events P w es=es)
  (k:∀ w',Ext w0 (l.push (.cells c elem)) w'→GetsA P (Fresh N) Shun Q (G (b.at (a.put o.dst (ptr B)) (.inRegion ops rest::kk)) cs) w') :
  GetsA P (Fresh N) Shun Q (G (b.at a (.inRegion ops (i::rest)::kk)) cs) w :=
 GetsA.ext rfl hE fun w' h'=>by
  rw [stepG_alloc ho hw hk hop hz hze,goes_go,hc,show ptr w'.heap.size=ptr B by rw [hB,h'.size]]
  exact ⟨by simp,by show w'.heap.size≤(w'.heap.push _).size;simp,k _ (h'.alloc _)⟩
theorem GetsA.makeChan {t elem:TypeId} {dir:ChanDir} {ti:TypeInfo} {x:Operand} {n B:Nat} (hE:Ext w0 l w) (hB:B=w0.heap.size+l.size) (ho:ops[i]? = some o) (hw:Region.wanted o (yielded ops a.tmps)=true) (hk:b.kind≠.early) (hop:o.op=.makeChan t x) (hx:a.eval x=.int .i64 n)
  (ht:P.underlying t=some (.chan dir elem)) (hti:P.info? elem=some ti) (hn:ti.bytes * n≤2 ^ 48 - 112) (hn2:n < 9223372036854775808)
  (k:∀ w',Ext w0 (l.push (.chan n #[] false 0 0 false)) w'→GetsA P (Fresh N) Shun Q (G (b.at (a.put o.dst (.chan (some B))) (.inRegion ops rest::kk)) cs) w') :
  GetsA P (Fresh N) Shun Q (G (b.at a (.inRegion ops (i::rest)::kk)) cs) w :=
 GetsA.ext rfl hE fun w' h'=>by
  rw [stepG_makeChan ho hw hk hop hx ht hti hn hn2,goes_go,show (some w'.heap.size)=some B by rw [hB,h'.size]]
  exact ⟨by simp,by show w'.heap.size≤(w'.heap.push _).size;simp,k _ (h'.alloc _)⟩
theorem evl_cell {B:Nat} {ad:Addr} {wr:Bool} (h1:¬ Shun (.cell ad)) (h2:ad.block < B) (h3:ad.block≠N.Wg):EvL Shun B ⟨.cell ad,wr,false⟩∧Fresh N (.ofEvent ⟨.cell ad,wr,false⟩):=by
 refine ⟨⟨fun x hx hs=>?_,by simp,by simp,?_⟩,Fresh.cell h3⟩
 ·have:x.loc=.cell ad:=by cases wr <;> simp [MemAct.ofEvent,MemAct.touch?] at hx <;> (subst hx;rfl)
  rw [this] at hs
  exact absurd hs h1
 ·show ad.block < _
  exact h2
theorem GetsA.store1 {t:TypeId} {x y:Operand} {v u:Value} {j off B:Nat} {c:Array Value} {ty:TypeId} (hE:Ext w0 l w) (hB:B=w0.heap.size+j) (ho:ops[i]? = some o) (hw:Region.wanted o (yielded ops a.tmps)=true) (hk:b.kind≠.early) (hop:o.op=.store t x y)
  (hx:a.eval x=.pointer (some ⟨B,off,none⟩)) (hy:a.eval y=v) (hv:(∃ c,v=.chan (some c))∨∃ k n,v=.int k n) (hag:∀ w,(isAgg t).run P w=.ok false w) (hsz:∀ w,(sizeOf t).run P w=.ok 1 w)
  (hj:l[j]? = some (.cells c ty (0,0))) (hu:c[off]? = some u) (hq:(P.funcs[b.fn]?).any (·.norace)=false) (hS:∀ b,w0.heap.size≤b→∀ l,InBlock b l→¬ Shun l) (hW:w0.heap.size+j≠N.Wg)
  (k:∀ w',Ext w0 (l.setIfInBounds j (.cells (c.setIfInBounds off v) ty (0,0))) w'→GetsA P (Fresh N) Shun Q (G (b.at (a.put o.dst undef) (.inRegion ops rest::kk)) cs) w') :
  GetsA P (Fresh N) Shun Q (G (b.at a (.inRegion ops (i::rest)::kk)) cs) w :=
 GetsA.ext rfl hE fun w' h'=>by
  subst hB
  rw [stepG_store1 ho hw hk hop hx hy hv hag hsz ((h'.cellNew hj off).trans hu) (h'.frozenNew hj off) hq,goes_go]
  have hsz':(w'.setCell ⟨w0.heap.size+j,off,none⟩ v).heap.size=w'.heap.size:=by simp [World.setCell]
  refine ⟨fun e he=>?_,by rw [hsz'];exact Nat.le_refl _,k _ (h'.setCell hj off v)⟩
  rw [Array.mem_singleton] at he
  subst he
  have hjl:j < l.size:=(Array.getElem?_eq_some_iff.1 hj).1
  exact evl_cell (hS _ (by omega) _ (show InBlock (w0.heap.size+j) (.cell ⟨w0.heap.size+j,off,none⟩) from rfl)) (by rw [hsz',h'.size];show w0.heap.size+j < _;omega) hW
end
end
end Go.Proofs.YtjnkcibpkkjniaaGreat.Pool
namespace Go.Proofs.YtjnkcibpkkjniaaGreat.Pool
open Go.Conc Go.ConcN Go.Conc.Lib Go.Proofs.YtjnkcibpkkjniaaGreat.Sim
open Go.ConcR (KK wgBlock WgAt stA smA rd wr DC0)
structure WI where
 sp:Nat
 so:Nat
 id:Int
 xb:Nat
 xo:Nat
 xl:Nat
 xc:Nat
 nb:Nat
 no:Nat
 nl:Nat
 nc:Nat
def WI.s (p:WI):Value:=.pointer (some ⟨p.sp,p.so,none⟩)
def WI.inn (p:WI):Value:=.slice (some ⟨p.nb,p.no,none⟩) p.nl p.nc
structure WIF (p:WI) (w:World):Prop where
 hid:w.cell? ⟨p.sp,p.so,none⟩=some (.int .i64 p.id)
 hx:w.cell? ⟨p.sp,p.so+1,none⟩=some (.slice (some ⟨p.xb,p.xo,none⟩) p.xl p.xc)
 ls:p.sp < w.heap.size
 few:p.xl < 2147483647
noncomputable def wrest:Code:=match Tryz.f35.body with
 | some (.seq _ (.seq _ (.seq _ (.seq _ c))))=>c
 | _=>.skip
def EqN (a b:Nat):Prop:=a=b
theorem EqN.eq {a b:Nat} (h:EqN a b):a=b:=h
structure WB where
 bS:Nat
 bN:Nat
 CB:Nat
 bC:Nat
 CF:Nat
 bG:Nat
 Wg:Nat
def WB.from (n:Nat):WB:=⟨n,n+1,n+2,n+3,n+4,n+5,n+6⟩
theorem ev_zero {P:Program} {t:TypeId} (h:((P.info? t).bind (·.zero)).isSome=true) (w:World) (es:Array Event):(zeroValue t).events P w es=es:=by
 cases hi:P.info? t with
 | none=>rw [hi] at h;cases h
 | some ti =>
  cases hz:ti.zero with
  | none=>rw [hi] at h;simp [hz] at h
  | some z=>simp [zeroValue,typeInfo,hi,hz]
theorem bytes_of {P:Program} {t:TypeId} {n:Nat} (h:((P.info? t).map (·.bytes))=some n):∃ ti,P.info? t=some ti∧ti.bytes=n:=by
 obtain ⟨ti,h1,h2⟩:=Option.map_eq_some_iff.1 h
 exact ⟨ti,h1,h2⟩
section
variable {w0 w:World} {l:Array Obj} {N:Nums} {Shun:Loc→Prop}
theorem evl_new {B i Wg o:Nat} {wr:Bool} (hE:Ext w0 l w) (hB:EqN B (w0.heap.size+i)) (hi:i < l.size) (hS:∀ b,w0.heap.size≤b→∀ l,InBlock b l→¬ Shun l) (hW:N.Wg=Wg) (h6:EqN Wg (w0.heap.size+6)) (h:i≠6) :
  EvL Shun w.heap.size ⟨.cell ⟨B,o,none⟩,wr,false⟩∧Fresh N (.ofEvent ⟨.cell ⟨B,o,none⟩,wr,false⟩):=by
 have e1:B=w0.heap.size+i:=hB
 have e2:Wg=w0.heap.size+6:=h6
 exact evl_cell (hS B (by omega) _ rfl) (by rw [hE.size];show B < _;omega) (by show B≠_;omega)
theorem evl_sp {b Wg o:Nat} {wr:Bool} (hE:Ext w0 l w) (hb:b < w0.heap.size) (hS:∀ l,InBlock b l→¬ Shun l) (hW:N.Wg=Wg) (h6:EqN Wg (w0.heap.size+6)) :
  EvL Shun w.heap.size ⟨.cell ⟨b,o,none⟩,wr,false⟩∧Fresh N (.ofEvent ⟨.cell ⟨b,o,none⟩,wr,false⟩):=by
 have e2:Wg=w0.heap.size+6:=h6
 exact evl_cell (hS _ rfl) (by rw [hE.size];show b < _;omega) (by show b≠_;omega)
end
set_option maxRecDepth 100000 in
set_option maxHeartbeats 8000000 in
theorem pre_work {p:WI} {N:Nums} {Shun:Loc→Prop} {Q:Goroutine→World→Prop} {w0:World} {cs:List Frame} (hF:WIF p w0) {bS bN CB bC CF bG Wg:Nat} (h0:EqN bS (w0.heap.size+0)) (h1:EqN bN (w0.heap.size+1)) (h2:EqN CB (w0.heap.size+2)) (h3:EqN bC (w0.heap.size+3)) (h4:EqN CF (w0.heap.size+4)) (h5:EqN bG (w0.heap.size+5)) (h6:EqN Wg (w0.heap.size+6))
  (hW:N.Wg=Wg) (hS:∀ b,w0.heap.size≤b→∀ l,InBlock b l→¬ Shun l) (hSs:∀ l,InBlock p.sp l→¬ Shun l)
  (hend:∀ w',Ext w0 #[.cells #[p.s] 33, .cells #[p.inn] 47, .chan p.xl #[] false 0 0 false, .cells #[.chan (some CB)] 141, .chan 0 #[] false 0 0 false, .cells #[.chan (some CF)] 142,wgBlock Tryz.link.tWg 0 0] w' →
   GetsA Tryz.prog (Fresh N) Shun Q (G ((base 35).at ⟨#[p.s,p.inn,ptr bS,ptr bN, .slice none 0 0,ptr bC,ptr bG,ptr Wg,undef,p.s,p.s, .pointer (some ⟨p.sp,p.so+1,none⟩), .slice (some ⟨p.xb,p.xo,none⟩) p.xl p.xc, .int .i64 p.xl, .chan (some CB), .chan (some CF),undef,undef,undef,undef,undef,undef,undef,undef,undef,undef,undef,undef,undef,undef,undef,undef,undef,undef,undef,undef],[]⟩ [.code wrest]) cs) w') :
  GetsA Tryz.prog (Fresh N) Shun Q (G ((base 35).at ⟨#[p.s,p.inn]++Array.replicate 34 undef,[]⟩ [.code (Tryz.f35.body.getD .skip)]) cs) w0:=by
 have hE:Ext w0 #[] w0:=⟨by simp,rfl⟩
 have hfew:=hF.few
 simp only [Tryz.f35,Option.getD_some]
 walk_nrm
 (refine GetsA.ctl rfl hE (fun _=>stepG_seq) (fun _ h₁=>?_);clear hE;have hE:=h₁;clear h₁)
 (refine GetsA.ctl rfl hE (fun _=>stepG_region) (fun _ h₁=>?_);clear hE;have hE:=h₁;clear h₁;simp only [List.size_toArray,List.length_cons,List.length_nil,Nat.reduceAdd,Nat.zero_add,List.range,List.range.loop])
 refine GetsA.box (c:=#[p.s]) hE h0.eq rfl rfl rfl rfl (by decide) rfl (fun _ h=>?_)
 (clear hE;have hE:=h;clear h)
 (simp only [List.push_toArray,List.nil_append,List.cons_append,List.setIfInBounds_toArray,List.set_cons_succ,List.set_cons_zero] at hE;walk_nrm)
 refine GetsA.box (c:=#[p.inn]) hE h1.eq rfl rfl rfl rfl (by decide) rfl (fun _ h=>?_)
 (clear hE;have hE:=h;clear h)
 (simp only [List.push_toArray,List.nil_append,List.cons_append,List.setIfInBounds_toArray,List.set_cons_succ,List.set_cons_zero] at hE;walk_nrm)
 (refine GetsA.ext rfl hE (fun w' h₁=>?_);clear hE;have hE:=h₁;clear h₁;refine goes_oper_k rfl rfl (by decide) (fun K hK=>?_);go_simp;refine hK _ _ ⟨fun e he=>?_,Nat.le_refl _,?_⟩;(focus (have hm:=mem_listed he;simp [go_sem] at hm));clear hK K)
 (refine GetsA.ctl rfl hE (fun _=>stepG_region_end) (fun _ h₁=>?_);clear hE;have hE:=h₁;clear h₁)
 (refine GetsA.ctl rfl hE (fun _=>stepG_seq) (fun _ h₁=>?_);clear hE;have hE:=h₁;clear h₁)
 (refine GetsA.ctl rfl hE (fun _=>stepG_region) (fun _ h₁=>?_);clear hE;have hE:=h₁;clear h₁;simp only [List.size_toArray,List.length_cons,List.length_nil,Nat.reduceAdd,Nat.zero_add,List.range,List.range.loop])
 (refine GetsA.ext rfl hE (fun w' h₁=>?_);clear hE;have hE:=h₁;clear h₁;refine goes_oper_k rfl rfl (by decide) (fun K hK=>?_);have e0:=(Ext.cellAt (i:=0) (o:=0) (v:=.pointer (some ⟨p.sp,p.so,none⟩)) hE h0.eq rfl rfl);(try simp only [ptr]);go_simp;refine hK _ _ ⟨fun e he=>?_,Nat.le_refl _,?_⟩;(focus (clear hK hend;have hm:=mem_listed he;simp [go_sem,ptr, *] at hm;subst hm;exact (evl_new hE h0 (by simp) hS hW h6 (by decide))));clear hK K e0)
 (refine GetsA.ext rfl hE (fun w' h₁=>?_);clear hE;have hE:=h₁;clear h₁;refine goes_oper_k rfl rfl (by decide) (fun K hK=>?_);go_simp;refine hK _ _ ⟨fun e he=>?_,Nat.le_refl _,?_⟩;(focus (have hm:=mem_listed he;simp [go_sem] at hm));clear hK K)
 (refine GetsA.ext rfl hE (fun w' h₁=>?_);clear hE;have hE:=h₁;clear h₁;refine goes_oper_k rfl rfl (by decide) (fun K hK=>?_);go_simp;refine hK _ _ ⟨fun e he=>?_,Nat.le_refl _,?_⟩;(focus (have hm:=mem_listed he;simp [go_sem] at hm));clear hK K)
 (refine GetsA.ext rfl hE (fun w' h₁=>?_);clear hE;have hE:=h₁;clear h₁;refine goes_oper_k rfl rfl (by decide) (fun K hK=>?_);have e0:=((Ext.cellOld hE hF.ls (p.so+1)).trans hF.hx);(try simp only [ptr]);go_simp;refine hK _ _ ⟨fun e he=>?_,Nat.le_refl _,?_⟩;(focus (clear hK hend;have hm:=mem_listed he;simp [go_sem,ptr, *] at hm;subst hm;exact (evl_sp hE hF.ls hSs hW h6)));clear hK K e0)
 (refine GetsA.ext rfl hE (fun w' h₁=>?_);clear hE;have hE:=h₁;clear h₁;refine goes_oper_k rfl rfl (by decide) (fun K hK=>?_);go_simp;refine hK _ _ ⟨fun e he=>?_,Nat.le_refl _,?_⟩;(focus (have hm:=mem_listed he;simp [go_sem] at hm));clear hK K)
 obtain ⟨ti,hti,hbytes⟩:=bytes_of (P:=Tryz.prog) (t:=155) (n:=40) (by kernel_rfl)
 refine GetsA.makeChan (n:=p.xl) hE h2.eq rfl rfl (by decide) rfl rfl Tryz.underlying141 hti (by rw [hbytes];omega) (by omega) (fun _ h=>?_)
 (clear hE;have hE:=h;clear h)
 (simp only [List.push_toArray,List.nil_append,List.cons_append,List.setIfInBounds_toArray,List.set_cons_succ,List.set_cons_zero] at hE;walk_nrm)
 refine GetsA.alloc (c:=#[.chan none]) hE h3.eq rfl rfl rfl (by decide) rfl Tryz.zeroValue141 (ev_zero (by kernel_rfl)) (fun _ h=>?_)
 (clear hE;have hE:=h;clear h)
 (simp only [List.push_toArray,List.nil_append,List.cons_append,List.setIfInBounds_toArray,List.set_cons_succ,List.set_cons_zero] at hE;walk_nrm)
 refine GetsA.store1 (j:=3) (v:=.chan (some CB)) (u:=.chan none) hE h3.eq rfl rfl (by decide) rfl rfl rfl (.inl ⟨_,rfl⟩) Tryz.isAgg141 Tryz.sizeOf141 rfl rfl (by kernel_rfl) hS (by have e2:Wg=w0.heap.size+6:=h6;omega) (fun _ h=>?_)
 (clear hE;have hE:=h;clear h)
 (simp only [List.push_toArray,List.nil_append,List.cons_append,List.setIfInBounds_toArray,List.set_cons_succ,List.set_cons_zero] at hE;walk_nrm)
 (refine GetsA.ctl rfl hE (fun _=>stepG_region_end) (fun _ h₁=>?_);clear hE;have hE:=h₁;clear h₁)
 (refine GetsA.ctl rfl hE (fun _=>stepG_seq) (fun _ h₁=>?_);clear hE;have hE:=h₁;clear h₁)
 (refine GetsA.ctl rfl hE (fun _=>stepG_region) (fun _ h₁=>?_);clear hE;have hE:=h₁;clear h₁;simp only [List.size_toArray,List.length_cons,List.length_nil,Nat.reduceAdd,Nat.zero_add,List.range,List.range.loop])
 obtain ⟨ti2,hti2,hbytes2⟩:=bytes_of (P:=Tryz.prog) (t:=143) (n:=0) (by kernel_rfl)
 refine GetsA.makeChan (n:=0) hE h4.eq rfl rfl (by decide) rfl rfl Tryz.underlying142 hti2 (by rw [hbytes2];omega) (by omega) (fun _ h=>?_)
 (clear hE;have hE:=h;clear h)
 (simp only [List.push_toArray,List.nil_append,List.cons_append,List.setIfInBounds_toArray,List.set_cons_succ,List.set_cons_zero] at hE;walk_nrm)
 refine GetsA.alloc (c:=#[.chan none]) hE h5.eq rfl rfl rfl (by decide) rfl Tryz.zeroValue142 (ev_zero (by kernel_rfl)) (fun _ h=>?_)
 (clear hE;have hE:=h;clear h)
 (simp only [List.push_toArray,List.nil_append,List.cons_append,List.setIfInBounds_toArray,List.set_cons_succ,List.set_cons_zero] at hE;walk_nrm)
 refine GetsA.store1 (j:=5) (v:=.chan (some CF)) (u:=.chan none) hE h5.eq rfl rfl (by decide) rfl rfl rfl (.inl ⟨_,rfl⟩) Tryz.isAgg142 Tryz.sizeOf142 rfl rfl (by kernel_rfl) hS (by have e2:Wg=w0.heap.size+6:=h6;omega) (fun _ h=>?_)
 (clear hE;have hE:=h;clear h)
 (simp only [List.push_toArray,List.nil_append,List.cons_append,List.setIfInBounds_toArray,List.set_cons_succ,List.set_cons_zero] at hE;walk_nrm)
 (refine GetsA.ctl rfl hE (fun _=>stepG_region_end) (fun _ h₁=>?_);clear hE;have hE:=h₁;clear h₁)
 (refine GetsA.ctl rfl hE (fun _=>stepG_seq) (fun _ h₁=>?_);clear hE;have hE:=h₁;clear h₁)
 (refine GetsA.ctl rfl hE (fun _=>stepG_region) (fun _ h₁=>?_);clear hE;have hE:=h₁;clear h₁;simp only [List.size_toArray,List.length_cons,List.length_nil,Nat.reduceAdd,Nat.zero_add,List.range,List.range.loop])
 refine GetsA.alloc hE h6.eq rfl rfl rfl (by decide) rfl Tryz.zeroValue151 (ev_zero (by kernel_rfl)) (fun _ h=>?_)
 (clear hE;have hE:=h;clear h)
 (simp only [List.push_toArray,List.nil_append,List.cons_append,List.setIfInBounds_toArray,List.set_cons_succ,List.set_cons_zero] at hE;walk_nrm)
 (refine GetsA.ctl rfl hE (fun _=>stepG_region_end) (fun _ h₁=>?_);clear hE;have hE:=h₁;clear h₁)
 exact hend _ hE
end Go.Proofs.YtjnkcibpkkjniaaGreat.Pool
namespace Go.Proofs.YtjnkcibpkkjniaaGreat.Pool
open Go.Conc Go.ConcN Go.Proofs.YtjnkcibpkkjniaaGreat.Sim
open Go.ConcR (KK wgBlock WgAt stA smA rd wr DC0)
variable [Scope]
structure NewB (s s':St) (B:Nat) (o:Obj) (w w':World):Prop where
 j:s'.j=s.j
 p:s'.p=s.p
 d0:s'.d0=s.d0
 V:s'.V=fun b=>s.V b∨b=B
 W:s'.W=fun b=>s.W b∨b=B
 sp:s'.tag=.sp↔s.tag=.sp
 got:s'.got=s.got
 val:∀ i∈s.got,(s'.D i).v=(s.D i).v
 heap:∀ b,s.V b→w'.heap[b]? = w.heap[b]?
 new:w'.heap[B]? = some o
 out:¬ s.V B
 base:Scope.base≤B
theorem At.new {X:Ctx} [Zeros X.P] [Codes X.P] {s:St} {w:World} {a:Goroutine} (hX:X.Good) (h:At X s w a) (hr:a.status=.running) {o:Obj} {a':Nat→Goroutine}
  (hstep:∀ w₁,stepG X.P true a w₁=.go (a' w₁.heap.size) (w₁.alloc o) #[]):∃ s' w' B,At X s' w' (a' B)∧NewB s s' B o w w':=by
 obtain ⟨s',w',a2,h1,B,rfl,h2⟩:=h.go hX hr (Post:=fun s' w' a2=>∃ B,a2=a' B∧NewB s s' B o w w') fun s1 w1 hk hc=>by
  obtain ⟨n1,gs1,t1,hc⟩:=hc
  have hs:(w1.alloc o).heap.size=w1.heap.size+1:=by show (w1.heap.push o).size=_;simp
  refine ⟨_,_,_,s1.d0,hstep w1,by omega,rfl,fun b hb _=>?_,by simp,rfl,fun tag' fc' ht=>⟨w1.heap.size,rfl,hk.j,hk.p,hk.d0,?_,?_,ht.trans hk.sp,hk.got,hk.val,fun b hb=>?_,?_,fun hv=>?_,hc.base⟩⟩
  ·show (w1.heap.push o)[b]? = _
   rw [Array.getElem?_push_lt hb,Array.getElem?_eq_getElem hb]
  ·funext b
   refine propext ⟨fun h=>h.imp (fun k=>by rw [←hk.V];exact k) fun k=>?_,fun h=>h.imp (fun k=>by rw [hk.V];exact k) fun k=>?_⟩
   ·have:=k.2;omega
   ·subst k;exact ⟨Nat.le_refl _,by omega⟩
  ·funext b
   refine propext ⟨fun h=>h.imp (fun k=>by rw [←hk.W];exact k) fun k=>?_,fun h=>h.imp (fun k=>by rw [hk.W];exact k) fun k=>?_⟩
   ·have:=k.2;omega
   ·subst k;exact ⟨Nat.le_refl _,by omega⟩
  ·have hlt:b < w1.heap.size:=(hc.zone.v b (by rw [hk.V];exact hb)).1
   rw [←hk.heap b hb]
   show (w1.heap.push o)[b]? = _
   rw [Array.getElem?_push_lt hlt,Array.getElem?_eq_getElem hlt]
  ·show (w1.heap.push o)[w1.heap.size]? = _
   simp
  ·have:=(hc.zone.v _ (by rw [hk.V];exact hv)).1
   omega
 exact ⟨s',w',B,h1,h2⟩
theorem At.facts {X:Ctx} {s:St} {w:World} {a:Goroutine} (h:At X s w a):WgLive X.N.ty X.N.Wg w∧∀ b,s.V b→b < w.heap.size∧b≠X.N.Wg∧b≠X.N.CB∧b≠X.N.CF:=by
 obtain ⟨n,gs,sl,t,hn⟩:=h
 obtain ⟨st,sm,hw,_⟩:=hn.crew.wg
 exact ⟨⟨st,sm,hw⟩,fun b hb=>by have:=hn.crew.zone.v b hb;exact ⟨this.1,this.2.1,this.2.2.1,this.2.2.2.1⟩⟩
end Go.Proofs.YtjnkcibpkkjniaaGreat.Pool
namespace Go.Proofs.YtjnkcibpkkjniaaGreat.Pool
open Go.Conc Go.ConcN Go.Conc.Lib Go.ConcR.Gen Go.ConcN.Gen Go.Proofs.YtjnkcibpkkjniaaGreat.Sim
open Go.ConcR (KK wgBlock WgAt stA smA rd wr DC0)
theorem DM.nil {V W:Nat→Prop} {w:World}:DM V W w w #[]:=⟨fun _ _=>rfl,rfl,rfl,by simp⟩
theorem DM.drew {V W:Nat→Prop} {w:World}:DM V W w { w with drawn:=w.drawn+1 } #[]:=⟨fun _ _=>rfl,rfl,rfl,by simp⟩
structure MF (p:WI) (B:WB) (V:Nat→Prop) (w:World):Prop where
 s:w.cell? ⟨B.bS,0,none⟩=some (.pointer (some ⟨p.sp,p.so,none⟩))
 n:w.cell? ⟨B.bN,0,none⟩=some (.slice (some ⟨p.nb,p.no,none⟩) p.nl p.nc)
 c:w.cell? ⟨B.bC,0,none⟩=some (.chan (some B.CB))
 g:w.cell? ⟨B.bG,0,none⟩=some (.chan (some B.CF))
 id:w.cell? ⟨p.sp,p.so,none⟩=some (.int .i64 p.id)
 x:w.cell? ⟨p.sp,p.so+1,none⟩=some (.slice (some ⟨p.xb,p.xo,none⟩) p.xl p.xc)
 vs:V B.bS∧V B.bN∧V B.bC∧V B.bG∧V p.sp
theorem MF.keep {p:WI} {B:WB} {V:Nat→Prop} {w w₁:World} (h:MF p B V w) (k:∀ b,V b→w₁.heap[b]? = w.heap[b]?):MF p B V w₁ :=
 ⟨(cell_of_block (k _ h.vs.1) _).trans h.s,(cell_of_block (k _ h.vs.2.1) _).trans h.n,(cell_of_block (k _ h.vs.2.2.1) _).trans h.c,(cell_of_block (k _ h.vs.2.2.2.1) _).trans h.g,(cell_of_block (k _ h.vs.2.2.2.2) _).trans h.id,(cell_of_block (k _ h.vs.2.2.2.2) _).trans h.x,h.vs⟩
noncomputable def lbody:Code:=match wrest with
 | .seq (.seq _ (.block _ (.loop c))) _=>c
 | _=>.skip
noncomputable def wlast:Code:=match wrest with
 | .seq _ c=>c
 | _=>.skip
def LT (p:WI) (B:WB) (v21 v8 v22 v23 v24 v25 v26:Value):Array Value :=
 #[p.s,p.inn,ptr B.bS,ptr B.bN, .slice none 0 0,ptr B.bC,ptr B.bG,ptr B.Wg,v8,p.s,p.s, .pointer (some ⟨p.sp,p.so+1,none⟩), .slice (some ⟨p.xb,p.xo,none⟩) p.xl p.xc, .int .i64 p.xl, .chan (some B.CB), .chan (some B.CF),
  p.s,p.s, .pointer (some ⟨p.sp,p.so+1,none⟩), .slice (some ⟨p.xb,p.xo,none⟩) p.xl p.xc, .int .i64 p.xl,v21,v22,v23,v24,v25,v26,undef,undef,undef,undef,undef,undef,undef,undef,undef]
noncomputable abbrev wf:Frame:=base 35
noncomputable def r6ops:Array Oper:=match lbody with
 | .seq _ (.seq _ (.seq (.block _ (.seq (.region _ ops _) _)) _))=>ops
 | _=>#[]
noncomputable def r7ops:Array Oper:=match lbody with
 | .seq _ (.seq _ (.seq (.block _ (.seq _ (.region _ ops _))) _))=>ops
 | _=>#[]
noncomputable def r8ops:Array Oper:=match lbody with
 | .seq _ (.seq _ (.seq _ (.region _ ops _)))=>ops
 | _=>#[]
noncomputable def kk8:List Item:=[.inBlock 1, .code (.region 8 r8ops false), .inLoop lbody, .inBlock 0, .code wlast]
noncomputable def go64:Code:=Tryz.f58.body.getD .skip
noncomputable def g0ops:Array Oper:=match go64 with
 | .seq (.region _ ops _) _=>ops
 | _=>#[]
noncomputable def g2ops:Array Oper:=match go64 with
 | .seq _ (.seq _ (.region _ ops _))=>ops
 | _=>#[]
noncomputable def grest:Code:=match go64 with
 | .seq _ c=>c
 | _=>.skip
noncomputable def g1opsG:Array Oper:=match go64 with
 | .seq _ (.seq (.region _ ops _) _)=>ops
 | _=>#[]
def wcaps (B:WB) (bI:Nat):Array Value:=#[box B.bC,box bI,box B.bS,box B.bN]
noncomputable abbrev gf:Frame:=base 58
noncomputable def head (p:WI) (B:WB) (j:Nat) (v8 v22 v23 v24 v25 v26:Value) (cs:List Frame):Goroutine:=G (wf.at ⟨LT p B (.int .i64 j) v8 v22 v23 v24 v25 v26,[]⟩ [.code lbody, .inLoop lbody, .inBlock 0, .code wlast]) cs
section
variable {p:WI} {B:WB} {Wg:Nat} {V W:Nat→Prop} {cs:List Frame} {w:World}
set_option maxRecDepth 100000 in
set_option maxHeartbeats 4000000 in
theorem m_enter (hF:MF p B V w) :
  Goes Tryz.prog true (RK Tryz.link.tWg B.Wg V) (DM V W) (fun g w=>MF p B V w∧g=head p B 0 undef undef undef undef undef undef cs) 30 (G (wf.at ⟨#[p.s,p.inn,ptr B.bS,ptr B.bN, .slice none 0 0,ptr B.bC,ptr B.bG,ptr B.Wg,undef,p.s,p.s, .pointer (some ⟨p.sp,p.so+1,none⟩), .slice (some ⟨p.xb,p.xo,none⟩) p.xl p.xc, .int .i64 p.xl, .chan (some B.CB), .chan (some B.CF),undef,undef,undef,undef,undef,undef,undef,undef,undef,undef,undef,undef,undef,undef,undef,undef,undef,undef,undef,undef],[]⟩ [.code wrest]) cs) w:=by
 simp only [wrest,Tryz.f35]
 ((refine Goes.step rfl (fun _ h₁=>?_);replace hF:=MF.keep hF (RK.keep h₁);clear h₁);rw [stepG_seq];simp only [goes_go];refine ⟨DM.nil,?_⟩)
 ((refine Goes.step rfl (fun _ h₁=>?_);replace hF:=MF.keep hF (RK.keep h₁);clear h₁);rw [stepG_seq];simp only [goes_go];refine ⟨DM.nil,?_⟩)
 ((refine Goes.step rfl (fun _ h₁=>?_);replace hF:=MF.keep hF (RK.keep h₁);clear h₁);rw [stepG_region];simp only [goes_go,List.size_toArray,List.length_cons,List.length_nil,Nat.reduceAdd,Nat.zero_add,List.range,List.range.loop];refine ⟨DM.nil,?_⟩)
 ((refine Goes.step rfl (fun _ h₁=>?_);replace hF:=MF.keep hF (RK.keep h₁);clear h₁);refine goes_oper_k rfl rfl (by decide) (fun K hK=>?_);have e1:=MF.s hF;have e2:=MF.x hF;have hV:=MF.vs hF;(try simp only [ptr] at *);go_simp;refine hK _ _ ⟨⟨fun _ _=>rfl,rfl,rfl,fun e he=>?_⟩,?_⟩;(focus (clear hK;have hm:=mem_listed he;simp [go_sem, *] at hm;(try (subst hm;exact ⟨_,_,rfl,by simp [hV],by simp⟩))));clear hK K e1 e2 hV)
 ((refine Goes.step rfl (fun _ h₁=>?_);replace hF:=MF.keep hF (RK.keep h₁);clear h₁);refine goes_oper_k rfl rfl (by decide) (fun K hK=>?_);have e1:=MF.s hF;have e2:=MF.x hF;have hV:=MF.vs hF;(try simp only [ptr] at *);go_simp;refine hK _ _ ⟨⟨fun _ _=>rfl,rfl,rfl,fun e he=>?_⟩,?_⟩;(focus (clear hK;have hm:=mem_listed he;simp [go_sem, *] at hm;(try (subst hm;exact ⟨_,_,rfl,by simp [hV],by simp⟩))));clear hK K e1 e2 hV)
 ((refine Goes.step rfl (fun _ h₁=>?_);replace hF:=MF.keep hF (RK.keep h₁);clear h₁);refine goes_oper_k rfl rfl (by decide) (fun K hK=>?_);have e1:=MF.s hF;have e2:=MF.x hF;have hV:=MF.vs hF;(try simp only [ptr] at *);go_simp;refine hK _ _ ⟨⟨fun _ _=>rfl,rfl,rfl,fun e he=>?_⟩,?_⟩;(focus (clear hK;have hm:=mem_listed he;simp [go_sem, *] at hm;(try (subst hm;exact ⟨_,_,rfl,by simp [hV],by simp⟩))));clear hK K e1 e2 hV)
 ((refine Goes.step rfl (fun _ h₁=>?_);replace hF:=MF.keep hF (RK.keep h₁);clear h₁);refine goes_oper_k rfl rfl (by decide) (fun K hK=>?_);have e1:=MF.s hF;have e2:=MF.x hF;have hV:=MF.vs hF;(try simp only [ptr] at *);go_simp;refine hK _ _ ⟨⟨fun _ _=>rfl,rfl,rfl,fun e he=>?_⟩,?_⟩;(focus (clear hK;have hm:=mem_listed he;simp [go_sem, *] at hm;(try (subst hm;exact ⟨_,_,rfl,by simp [hV],by simp⟩))));clear hK K e1 e2 hV)
 ((refine Goes.step rfl (fun _ h₁=>?_);replace hF:=MF.keep hF (RK.keep h₁);clear h₁);refine goes_oper_k rfl rfl (by decide) (fun K hK=>?_);have e1:=MF.s hF;have e2:=MF.x hF;have hV:=MF.vs hF;(try simp only [ptr] at *);go_simp;refine hK _ _ ⟨⟨fun _ _=>rfl,rfl,rfl,fun e he=>?_⟩,?_⟩;(focus (clear hK;have hm:=mem_listed he;simp [go_sem, *] at hm;(try (subst hm;exact ⟨_,_,rfl,by simp [hV],by simp⟩))));clear hK K e1 e2 hV)
 ((refine Goes.step rfl (fun _ h₁=>?_);replace hF:=MF.keep hF (RK.keep h₁);clear h₁);refine goes_oper_k rfl rfl (by decide) (fun K hK=>?_);have e1:=MF.s hF;have e2:=MF.x hF;have hV:=MF.vs hF;(try simp only [ptr] at *);go_simp;refine hK _ _ ⟨⟨fun _ _=>rfl,rfl,rfl,fun e he=>?_⟩,?_⟩;(focus (clear hK;have hm:=mem_listed he;simp [go_sem, *] at hm;(try (subst hm;exact ⟨_,_,rfl,by simp [hV],by simp⟩))));clear hK K e1 e2 hV)
 ((refine Goes.step rfl (fun _ h₁=>?_);replace hF:=MF.keep hF (RK.keep h₁);clear h₁);rw [stepG_region_end];simp only [goes_go];refine ⟨DM.nil,?_⟩)
 ((refine Goes.step rfl (fun _ h₁=>?_);replace hF:=MF.keep hF (RK.keep h₁);clear h₁);rw [stepG_block];simp only [goes_go];refine ⟨DM.nil,?_⟩)
 ((refine Goes.step rfl (fun _ h₁=>?_);replace hF:=MF.keep hF (RK.keep h₁);clear h₁);rw [stepG_loop];simp only [goes_go];refine ⟨DM.nil,?_⟩)
 exact Goes.stop fun w₁ h₁=>⟨hF.keep h₁.keep,rfl⟩
set_option maxRecDepth 100000 in
set_option maxHeartbeats 4000000 in
theorem m_test {j:Nat} (hj:j < p.xl) (hfew:p.xl < 2147483647) {v8 v22 v23 v24 v25 v26:Value} (hF:MF p B V w) :
  Goes Tryz.prog true (RK Tryz.link.tWg B.Wg V) (DM V W) (fun g w=>MF p B V w∧g=G (wf.at ⟨LT p B (.int .i64 j) v8 (.bool true) (.int .i64 j) v24 v25 v26,[]⟩ (.inRegion r6ops [1,2]::.code (.region 7 r7ops false)::kk8)) cs) 12 (head p B j v8 v22 v23 v24 v25 v26 cs) w:=by
 have hlt:(j:Int) < (p.xl:Int):=by omega
 simp only [head,LT,lbody,wrest,Tryz.f35]
 ((refine Goes.step rfl (fun _ h₁=>?_);replace hF:=MF.keep hF (RK.keep h₁);clear h₁);rw [stepG_seq];simp only [goes_go];refine ⟨DM.nil,?_⟩)
 ((refine Goes.step rfl (fun _ h₁=>?_);replace hF:=MF.keep hF (RK.keep h₁);clear h₁);rw [stepG_region];simp only [goes_go,List.size_toArray,List.length_cons,List.length_nil,Nat.reduceAdd,Nat.zero_add,List.range,List.range.loop];refine ⟨DM.nil,?_⟩)
 ((refine Goes.step rfl (fun _ h₁=>?_);replace hF:=MF.keep hF (RK.keep h₁);clear h₁);refine goes_oper_k rfl rfl (by decide) (fun K hK=>?_);have e1:=MF.s hF;have e2:=MF.x hF;have hV:=MF.vs hF;(try simp only [ptr] at *);go_simp;refine hK _ _ ⟨⟨fun _ _=>rfl,rfl,rfl,fun e he=>?_⟩,?_⟩;(focus (clear hK;have hm:=mem_listed he;simp [go_sem, *] at hm;(try (subst hm;exact ⟨_,_,rfl,by simp [hV],by simp⟩))));clear hK K e1 e2 hV)
 ((refine Goes.step rfl (fun _ h₁=>?_);replace hF:=MF.keep hF (RK.keep h₁);clear h₁);rw [stepG_region_end];simp only [goes_go];refine ⟨DM.nil,?_⟩)
 ((refine Goes.step rfl (fun _ h₁=>?_);replace hF:=MF.keep hF (RK.keep h₁);clear h₁);rw [stepG_seq];simp only [goes_go];refine ⟨DM.nil,?_⟩)
 (refine Goes.step rfl (fun _ h₁=>?_);replace hF:=MF.keep hF (RK.keep h₁);clear h₁)
 rw [stepG_cond (t:=true) (by simp [Act.eval,hlt])]
 simp only [goes_go,if_true]
 refine ⟨DM.nil,?_⟩
 ((refine Goes.step rfl (fun _ h₁=>?_);replace hF:=MF.keep hF (RK.keep h₁);clear h₁);rw [stepG_skip];simp only [goes_go];refine ⟨DM.nil,?_⟩)
 ((refine Goes.step rfl (fun _ h₁=>?_);replace hF:=MF.keep hF (RK.keep h₁);clear h₁);rw [stepG_seq];simp only [goes_go];refine ⟨DM.nil,?_⟩)
 ((refine Goes.step rfl (fun _ h₁=>?_);replace hF:=MF.keep hF (RK.keep h₁);clear h₁);rw [stepG_block];simp only [goes_go];refine ⟨DM.nil,?_⟩)
 ((refine Goes.step rfl (fun _ h₁=>?_);replace hF:=MF.keep hF (RK.keep h₁);clear h₁);rw [stepG_seq];simp only [goes_go];refine ⟨DM.nil,?_⟩)
 ((refine Goes.step rfl (fun _ h₁=>?_);replace hF:=MF.keep hF (RK.keep h₁);clear h₁);rw [stepG_region];simp only [goes_go,List.size_toArray,List.length_cons,List.length_nil,Nat.reduceAdd,Nat.zero_add,List.range,List.range.loop];refine ⟨DM.nil,?_⟩)
 ((refine Goes.step rfl (fun _ h₁=>?_);replace hF:=MF.keep hF (RK.keep h₁);clear h₁);refine goes_oper_k rfl rfl (by decide) (fun K hK=>?_);have e1:=MF.s hF;have e2:=MF.x hF;have hV:=MF.vs hF;(try simp only [ptr] at *);go_simp;refine hK _ _ ⟨⟨fun _ _=>rfl,rfl,rfl,fun e he=>?_⟩,?_⟩;(focus (clear hK;have hm:=mem_listed he;simp [go_sem, *] at hm;(try (subst hm;exact ⟨_,_,rfl,by simp [hV],by simp⟩))));clear hK K e1 e2 hV)
 exact Goes.stop fun w₁ h₁=>⟨hF.keep h₁.keep,rfl⟩
set_option maxRecDepth 100000 in
set_option maxHeartbeats 4000000 in
theorem m_exit {v8 v22 v23 v24 v25 v26:Value} (hF:MF p B V w) :
  Goes Tryz.prog true (RK Tryz.link.tWg B.Wg V) (DM V W) (fun g w=>MF p B V w∧g=G (wf.at ⟨LT p B (.int .i64 p.xl) v8 (.bool false) v23 v24 v25 v26,[]⟩ [.code wlast]) cs) 12 (head p B p.xl v8 v22 v23 v24 v25 v26 cs) w:=by
 simp only [head,LT,lbody,wrest,Tryz.f35]
 ((refine Goes.step rfl (fun _ h₁=>?_);replace hF:=MF.keep hF (RK.keep h₁);clear h₁);rw [stepG_seq];simp only [goes_go];refine ⟨DM.nil,?_⟩)
 ((refine Goes.step rfl (fun _ h₁=>?_);replace hF:=MF.keep hF (RK.keep h₁);clear h₁);rw [stepG_region];simp only [goes_go,List.size_toArray,List.length_cons,List.length_nil,Nat.reduceAdd,Nat.zero_add,List.range,List.range.loop];refine ⟨DM.nil,?_⟩)
 ((refine Goes.step rfl (fun _ h₁=>?_);replace hF:=MF.keep hF (RK.keep h₁);clear h₁);refine goes_oper_k rfl rfl (by decide) (fun K hK=>?_);have e1:=MF.s hF;have e2:=MF.x hF;have hV:=MF.vs hF;(try simp only [ptr] at *);go_simp;refine hK _ _ ⟨⟨fun _ _=>rfl,rfl,rfl,fun e he=>?_⟩,?_⟩;(focus (clear hK;have hm:=mem_listed he;simp [go_sem, *] at hm;(try (subst hm;exact ⟨_,_,rfl,by simp [hV],by simp⟩))));clear hK K e1 e2 hV)
 ((refine Goes.step rfl (fun _ h₁=>?_);replace hF:=MF.keep hF (RK.keep h₁);clear h₁);rw [stepG_region_end];simp only [goes_go];refine ⟨DM.nil,?_⟩)
 ((refine Goes.step rfl (fun _ h₁=>?_);replace hF:=MF.keep hF (RK.keep h₁);clear h₁);rw [stepG_seq];simp only [goes_go];refine ⟨DM.nil,?_⟩)
 (refine Goes.step rfl (fun _ h₁=>?_);replace hF:=MF.keep hF (RK.keep h₁);clear h₁)
 rw [stepG_cond (t:=false) (by simp [Act.eval])]
 simp only [goes_go,if_false,Bool.false_eq_true,↓reduceIte]
 refine ⟨DM.nil,?_⟩
 (refine Goes.step rfl (fun _ h₁=>?_);replace hF:=MF.keep hF (RK.keep h₁);clear h₁)
 refine goes_exit rfl ?_
 refine ⟨DM.nil,?_⟩
 exact Goes.stop fun w₁ h₁=>⟨hF.keep h₁.keep,rfl⟩
end
end Go.Proofs.YtjnkcibpkkjniaaGreat.Pool
namespace Go.Proofs.YtjnkcibpkkjniaaGreat.Pool
open Go.Conc Go.ConcN Go.Conc.Lib Go.ConcR.Gen Go.ConcN.Gen Go.Proofs.YtjnkcibpkkjniaaGreat.Sim
open Go.ConcR (KK wgBlock WgAt stA smA rd wr mk DC0)
section
variable {p:WI} {B:WB} {V W:Nat→Prop} {cs:List Frame} {w:World}
structure MFI (p:WI) (B:WB) (V:Nat→Prop) (b:Nat) (o:Obj) (w:World):Prop where
 f:MF p B V w
 v:V b
 o:w.heap[b]? = some o
theorem MFI.keep {b:Nat} {o:Obj} {w₁:World} (h:MFI p B V b o w) (k:∀ b,V b→w₁.heap[b]? = w.heap[b]?):MFI p B V b o w₁:=⟨h.f.keep k,h.v,(k _ h.v).trans h.o⟩
theorem MF.keepBut {b:Nat} {w₁:World} (h:MF p B V w) (hn:b≠B.bS∧b≠B.bN∧b≠B.bC∧b≠B.bG∧b≠p.sp) (k:∀ x,x≠b→w₁.heap[x]? = w.heap[x]?):MF p B V w₁ :=
 ⟨(cell_of_block (k _ (Ne.symm hn.1)) _).trans h.s,(cell_of_block (k _ (Ne.symm hn.2.1)) _).trans h.n,(cell_of_block (k _ (Ne.symm hn.2.2.1)) _).trans h.c,(cell_of_block (k _ (Ne.symm hn.2.2.2.1)) _).trans h.g,(cell_of_block (k _ (Ne.symm hn.2.2.2.2)) _).trans h.id,(cell_of_block (k _ (Ne.symm hn.2.2.2.2)) _).trans h.x,h.vs⟩
theorem cell_of {b:Nat} {c:Array Value} {ty:TypeId} {fr:Nat×Nat} (h:w.heap[b]? = some (.cells c ty fr)) (o:Nat):w.cell? ⟨b,o,none⟩=c[o]?:=by simp [World.cell?,h]
theorem frozen_of {b:Nat} {c:Array Value} {ty:TypeId} (h:w.heap[b]? = some (.cells c ty (0,0))) (o:Nat):w.frozen? ⟨b,o,none⟩=false:=by simp [World.frozen?,h]
theorem set_block {b:Nat} {c:Array Value} {ty:TypeId} {fr:Nat×Nat} (h:w.heap[b]? = some (.cells c ty fr)) (o:Nat) (v:Value):(w.setCell ⟨b,o,none⟩ v).heap[b]? = some (.cells (c.setIfInBounds o v) ty fr):=by
 simp [World.setCell,Array.getElem?_modify,h]
theorem set_other {b b':Nat} (h:b≠b') (o:Nat) (v:Value):(w.setCell ⟨b,o,none⟩ v).heap[b']? = w.heap[b']?:=by
 simp [World.setCell,Array.getElem?_modify,h]
set_option maxRecDepth 100000 in
set_option maxHeartbeats 4000000 in
theorem m_call {j bI:Nat} {v24 v25 v26:Value} (hW:W bI) (hn:bI≠B.bS∧bI≠B.bN∧bI≠B.bC∧bI≠B.bG∧bI≠p.sp) (hF:MFI p B V bI (.cells #[.int .i64 0] 3) w) :
  Goes Tryz.prog true (RK Tryz.link.tWg B.Wg V) (DM V W) (fun g w=>MFI p B V bI (.cells #[.int .i64 j] 3) w∧g=G (gf.at ⟨#[box B.Wg,clos 59 (wcaps B bI),undef,undef,undef,undef,undef],[]⟩ (.inRegion g0ops [0,1]::[.code grest])) (wf.at ⟨LT p B (.int .i64 j) (ptr bI) (.bool true) (.int .i64 j) (clos 59 (wcaps B bI)) v25 v26,[]⟩ (.inRegion r7ops [1]::kk8)::cs)) 12
   (G (wf.at ⟨LT p B (.int .i64 j) (ptr bI) (.bool true) (.int .i64 j) v24 v25 v26,[]⟩ (.inRegion r6ops [2]::.code (.region 7 r7ops false)::kk8)) cs) w:=by
 simp only [LT,r6ops,r7ops,kk8,lbody,wrest,Tryz.f35]
 (refine Goes.step rfl (fun _ h₁=>?_);replace hF:=MFI.keep hF (RK.keep h₁);clear h₁)
 rw [stepG_store1 (ad:=⟨bI,0,none⟩) (v:=.int .i64 j) (u:=.int .i64 0) rfl rfl (by decide) rfl rfl rfl (.inr ⟨_,_,rfl⟩) Tryz.isAgg3 Tryz.sizeOf3 (cell_of hF.o 0) (frozen_of hF.o 0) (by kernel_rfl)]
 simp only [goes_go]
 refine ⟨⟨fun b hb=>set_other (fun e:bI=b=>hb (by rw [←e];exact hW)) _ _,by simp [World.setCell],rfl,fun e he=>?_⟩,?_⟩
 ·rw [Array.mem_singleton] at he
  subst he
  exact ⟨_,_,rfl,hF.v,fun _=>hW⟩
 have hF:MFI p B V bI (.cells #[.int .i64 j] 3) (World.setCell _ ⟨bI,0,none⟩ (.int .i64 j)):=⟨hF.f.keepBut (b:=bI) hn (fun b hb=>set_other (Ne.symm hb) _ _),hF.v,set_block hF.o _ _⟩
 walk_nrm
 ((refine Goes.step rfl (fun _ h₁=>?_);replace hF:=MFI.keep hF (RK.keep h₁);clear h₁);rw [stepG_region_end];simp only [goes_go];refine ⟨DM.nil,?_⟩)
 ((refine Goes.step rfl (fun _ h₁=>?_);replace hF:=MFI.keep hF (RK.keep h₁);clear h₁);rw [stepG_region];simp only [goes_go,List.size_toArray,List.length_cons,List.length_nil,Nat.reduceAdd,Nat.zero_add,List.range,List.range.loop];refine ⟨DM.nil,?_⟩)
 ((refine Goes.step rfl (fun _ h₁=>?_);replace hF:=MFI.keep hF (RK.keep h₁);clear h₁);refine goes_oper_k rfl rfl (by decide) (fun K hK=>?_);go_simp;refine hK _ _ ⟨⟨fun _ _=>rfl,rfl,rfl,fun e he=>?_⟩,?_⟩;(focus (clear hK;have hm:=mem_listed he;simp [go_sem] at hm));clear hK K)
 (refine Goes.step rfl (fun _ h₁=>?_);replace hF:=MFI.keep hF (RK.keep h₁);clear h₁)
 refine goes_call rfl rfl (by decide) rfl Tryz.func58 rfl rfl ⟨DM.nil,?_⟩
 walk_nrmf Tryz.f58
 ((refine Goes.step rfl (fun _ h₁=>?_);replace hF:=MFI.keep hF (RK.keep h₁);clear h₁);rw [stepG_seq];simp only [goes_go];refine ⟨DM.nil,?_⟩)
 ((refine Goes.step rfl (fun _ h₁=>?_);replace hF:=MFI.keep hF (RK.keep h₁);clear h₁);rw [stepG_region];simp only [goes_go,List.size_toArray,List.length_cons,List.length_nil,Nat.reduceAdd,Nat.zero_add,List.range,List.range.loop];refine ⟨DM.nil,?_⟩)
 exact Goes.stop fun w₁ h₁=>⟨hF.keep h₁.keep,rfl⟩
structure MF3 (p:WI) (B:WB) (V:Nat→Prop) (j bI bW bF:Nat) (w:World):Prop where
 f:MF p B V w
 v:V bI∧V bW∧V bF
 i:w.heap[bI]? = some (.cells #[.int .i64 j] 3)
 gw:w.heap[bW]? = some (.cells #[box B.Wg] 168)
 c:w.heap[bF]? = some (.cells #[clos 59 (wcaps B bI)] 1)
theorem MF3.keep {j bI bW bF:Nat} {w₁:World} (h:MF3 p B V j bI bW bF w) (k:∀ b,V b→w₁.heap[b]? = w.heap[b]?):MF3 p B V j bI bW bF w₁:=⟨h.f.keep k,h.v,(k _ h.v.1).trans h.i,(k _ h.v.2.1).trans h.gw,(k _ h.v.2.2).trans h.c⟩
noncomputable def gtm (B:WB) (bI:Nat) (bW bF:Nat) (v4 v5 v6:Value):Array Value:=#[box B.Wg,clos 59 (wcaps B bI),box bW,box bF,v4,v5,v6]
noncomputable def wunder (p:WI) (B:WB) (j bI:Nat) (v25 v26:Value) (cs:List Frame):List Frame:=wf.at ⟨LT p B (.int .i64 j) (ptr bI) (.bool true) (.int .i64 j) (clos 59 (wcaps B bI)) v25 v26,[]⟩ (.inRegion r7ops [1]::kk8)::cs
set_option maxRecDepth 100000 in
set_option maxHeartbeats 4000000 in
theorem m_toAdd {j bI bW bF:Nat} {v25 v26:Value} (hF:MF3 p B V j bI bW bF w) :
  Goes Tryz.prog true (RK Tryz.link.tWg B.Wg V) (DM V W) (fun g w=>MF3 p B V j bI bW bF w∧g=G ((base Tryz.link.add).at ⟨#[.pointer (some ⟨B.Wg,0,none⟩), .int .i64 1]++Array.replicate 115 undef,[]⟩ [.code (body_add Tryz.link)]) (gf.at ⟨gtm B bI bW bF (box B.Wg) undef undef,[]⟩ (.inRegion g1opsG [1]::[.code (.region 2 g2ops false)])::wunder p B j bI v25 v26 cs)) 12
   (G (gf.at ⟨gtm B bI bW bF undef undef undef,[]⟩ (.inRegion g0ops []::[.code grest])) (wunder p B j bI v25 v26 cs)) w:=by
 simp only [gtm,g0ops,g1opsG,g2ops,grest,go64,Tryz.f58,Option.getD_some]
 ((refine Goes.step rfl (fun _ h₁=>?_);replace hF:=MF3.keep hF (RK.keep h₁);clear h₁);rw [stepG_region_end];simp only [goes_go];refine ⟨DM.nil,?_⟩)
 ((refine Goes.step rfl (fun _ h₁=>?_);replace hF:=MF3.keep hF (RK.keep h₁);clear h₁);rw [stepG_seq];simp only [goes_go];refine ⟨DM.nil,?_⟩)
 ((refine Goes.step rfl (fun _ h₁=>?_);replace hF:=MF3.keep hF (RK.keep h₁);clear h₁);rw [stepG_region];simp only [goes_go,List.size_toArray,List.length_cons,List.length_nil,Nat.reduceAdd,Nat.zero_add,List.range,List.range.loop];refine ⟨DM.nil,?_⟩)
 ((refine Goes.step rfl (fun _ h₁=>?_);replace hF:=MF3.keep hF (RK.keep h₁);clear h₁);refine goes_oper_k rfl rfl (by decide) (fun K hK=>?_);have e1:=cell_of (MF3.gw hF) 0;have hV:=MF3.v hF;simp only [List.getElem?_toArray,List.getElem?_cons_zero,box] at e1;(try simp only [box]);go_simp;refine hK _ _ ⟨⟨fun _ _=>rfl,rfl,rfl,fun e he=>?_⟩,?_⟩;(focus (clear hK;have hm:=mem_listed he;simp [go_sem,box, *] at hm;(try (subst hm;exact ⟨_,_,rfl,by simp [hV],by simp⟩))));clear hK K e1 hV)
 (refine Goes.step rfl (fun _ h₁=>?_);replace hF:=MF3.keep hF (RK.keep h₁);clear h₁)
 refine goes_call (c:=body_add Tryz.link) rfl rfl (by decide) rfl Tryz.wgLib.f_add rfl rfl ⟨DM.nil,?_⟩
 walk_nrm
 refine Goes.stop fun w₁ h₁=>⟨hF.keep h₁.keep,?_⟩
 have hn:(addFn Tryz.link).ntmps=117:=rfl
 rw [hn]
 walk_nrm
 rfl
set_option maxRecDepth 100000 in
set_option maxHeartbeats 4000000 in
theorem m_toGo {j bI bW bF:Nat} {v25 v26:Value} (hF:MF3 p B V j bI bW bF w) :
  Goes Tryz.prog true (RK Tryz.link.tWg B.Wg V) (DM V W) (fun g w=>MF3 p B V j bI bW bF w∧g=G (gf.at ⟨gtm B bI bW bF (box B.Wg) (.tuple #[]) (clos 76 #[box bW,box bF]),[]⟩ [.inRegion g2ops [1]]) (wunder p B j bI v25 v26 cs)) 12
   (G (gf.at ⟨gtm B bI bW bF (box B.Wg) (.tuple #[]) undef,[]⟩ (.inRegion g1opsG []::[.code (.region 2 g2ops false)])) (wunder p B j bI v25 v26 cs)) w:=by
 simp only [gtm,g0ops,g1opsG,g2ops,grest,go64,Tryz.f58,Option.getD_some]
 ((refine Goes.step rfl (fun _ h₁=>?_);replace hF:=MF3.keep hF (RK.keep h₁);clear h₁);rw [stepG_region_end];simp only [goes_go];refine ⟨DM.nil,?_⟩)
 ((refine Goes.step rfl (fun _ h₁=>?_);replace hF:=MF3.keep hF (RK.keep h₁);clear h₁);rw [stepG_region];simp only [goes_go,List.size_toArray,List.length_cons,List.length_nil,Nat.reduceAdd,Nat.zero_add,List.range,List.range.loop];refine ⟨DM.nil,?_⟩)
 ((refine Goes.step rfl (fun _ h₁=>?_);replace hF:=MF3.keep hF (RK.keep h₁);clear h₁);refine goes_oper_k rfl rfl (by decide) (fun K hK=>?_);have e1:=cell_of (MF3.gw hF) 0;have hV:=MF3.v hF;simp only [List.getElem?_toArray,List.getElem?_cons_zero,box] at e1;(try simp only [box]);go_simp;refine hK _ _ ⟨⟨fun _ _=>rfl,rfl,rfl,fun e he=>?_⟩,?_⟩;(focus (clear hK;have hm:=mem_listed he;simp [go_sem,box, *] at hm;(try (subst hm;exact ⟨_,_,rfl,by simp [hV],by simp⟩))));clear hK K e1 hV)
 exact Goes.stop fun w₁ h₁=>⟨hF.keep h₁.keep,rfl⟩
set_option maxRecDepth 100000 in
set_option maxHeartbeats 4000000 in
theorem m_back {j bI bW bF:Nat} {v25 v26:Value} (hj:(j:Int)+1 < 9223372036854775808) (hF:MF3 p B V j bI bW bF w) :
  Goes Tryz.prog true (RK Tryz.link.tWg B.Wg V) (DM V W) (fun g w=>MF3 p B V j bI bW bF w∧g=head p B (j+1) (ptr bI) (.bool true) (.int .i64 j) (clos 59 (wcaps B bI)) (.tuple #[]) (.int .i64 (j+1:Nat)) cs) 20
   (G (gf.at ⟨gtm B bI bW bF (box B.Wg) (.tuple #[]) (clos 76 #[box bW,box bF]),[]⟩ [.inRegion g2ops []]) (wunder p B j bI v25 v26 cs)) w:=by
 simp only [gtm,g0ops,g1opsG,g2ops,grest,go64,Tryz.f58,Option.getD_some]
 ((refine Goes.step rfl (fun _ h₁=>?_);replace hF:=MF3.keep hF (RK.keep h₁);clear h₁);rw [stepG_region_end];simp only [goes_go];refine ⟨DM.nil,?_⟩)
 ((refine Goes.step rfl (fun _ h₁=>?_);replace hF:=MF3.keep hF (RK.keep h₁);clear h₁);rw [stepG_end];simp only [goes_go];refine ⟨DM.nil,?_⟩)
 simp only [wunder,LT,r6ops,r7ops,r8ops,kk8,lbody,wrest,Tryz.f35]
 (refine Goes.step rfl (fun _ h₁=>?_);replace hF:=MF3.keep hF (RK.keep h₁);clear h₁)
 refine goes_leave0 rfl rfl Tryz.func58 rfl ⟨DM.nil,?_⟩
 walk_nrm
 ((refine Goes.step rfl (fun _ h₁=>?_);replace hF:=MF3.keep hF (RK.keep h₁);clear h₁);rw [stepG_region_end];simp only [goes_go];refine ⟨DM.nil,?_⟩)
 ((refine Goes.step rfl (fun _ h₁=>?_);replace hF:=MF3.keep hF (RK.keep h₁);clear h₁);rw [stepG_inBlock];simp only [goes_go];refine ⟨DM.nil,?_⟩)
 ((refine Goes.step rfl (fun _ h₁=>?_);replace hF:=MF3.keep hF (RK.keep h₁);clear h₁);rw [stepG_region];simp only [goes_go,List.size_toArray,List.length_cons,List.length_nil,Nat.reduceAdd,Nat.zero_add,List.range,List.range.loop];refine ⟨DM.nil,?_⟩)
 have hwr:IntKind.i64.wrap ((j:Int)+1)=((j+1:Nat):Int):=by rw [IntKind.wrap_i64];omega
 ((refine Goes.step rfl (fun _ h₁=>?_);replace hF:=MF3.keep hF (RK.keep h₁);clear h₁);refine goes_oper_k rfl rfl (by decide) (fun K hK=>?_);have e1:=cell_of (MF3.gw hF) 0;have hV:=MF3.v hF;simp only [List.getElem?_toArray,List.getElem?_cons_zero,box] at e1;(try simp only [box]);go_simp;refine hK _ _ ⟨⟨fun _ _=>rfl,rfl,rfl,fun e he=>?_⟩,?_⟩;(focus (clear hK;have hm:=mem_listed he;simp [go_sem,box, *] at hm;(try (subst hm;exact ⟨_,_,rfl,by simp [hV],by simp⟩))));clear hK K e1 hV)
 ((refine Goes.step rfl (fun _ h₁=>?_);replace hF:=MF3.keep hF (RK.keep h₁);clear h₁);refine goes_oper_k rfl rfl (by decide) (fun K hK=>?_);have e1:=cell_of (MF3.gw hF) 0;have hV:=MF3.v hF;simp only [List.getElem?_toArray,List.getElem?_cons_zero,box] at e1;(try simp only [box]);go_simp;refine hK _ _ ⟨⟨fun _ _=>rfl,rfl,rfl,fun e he=>?_⟩,?_⟩;(focus (clear hK;have hm:=mem_listed he;simp [go_sem,box, *] at hm;(try (subst hm;exact ⟨_,_,rfl,by simp [hV],by simp⟩))));clear hK K e1 hV)
 ((refine Goes.step rfl (fun _ h₁=>?_);replace hF:=MF3.keep hF (RK.keep h₁);clear h₁);rw [stepG_region_end];simp only [goes_go];refine ⟨DM.nil,?_⟩)
 ((refine Goes.step rfl (fun _ h₁=>?_);replace hF:=MF3.keep hF (RK.keep h₁);clear h₁);rw [stepG_inLoop];simp only [goes_go];refine ⟨DM.nil,?_⟩)
 exact Goes.stop fun w₁ h₁=>⟨hF.keep h₁.keep,rfl⟩
end
end Go.Proofs.YtjnkcibpkkjniaaGreat.Pool
namespace Go.Proofs.YtjnkcibpkkjniaaGreat.Pool
open Go.Conc Go.ConcN Go.Conc.Lib Go.ConcR.Gen Go.ConcN.Gen Go.Proofs.YtjnkcibpkkjniaaGreat.Sim
open Go.ConcR (KK wgBlock WgAt stA smA rd wr mk DC0)
variable [Scope]
structure PC where
 B0:Nat
 pk:Machine→Nat×Nat×Option (Nat×Nat)
 m0:Machine
 t0:Trace
 Gt:Nat→Tape
 Sc:Nat→Prop
 Anch:Goroutine→World→Prop
 mC:Nat
 Shun:Loc→Prop
noncomputable abbrev PX (p:WI) (B:WB) (c:PC) (J:Nat→Work):Ctx:=⟨Tryz.prog,⟨c.B0,p.xl,B.Wg,B.CB,B.CF,Tryz.link.tWg, .tuple #[]⟩,c.pk,c.m0,c.t0,c.Gt,J,c.Sc,c.Anch,c.mC,c.Shun⟩
def wkOf (p:WI) (B:WB) (j bI bW bF:Nat) (m:Value):Wk:=⟨B.Wg,B.CB,bW,bF,B.bC,bI,B.bS,B.bN,j,p.sp,p.so,p.id,p.xb,p.xo,p.xl,p.xc,p.nb,p.no,p.nl,p.nc,m⟩
def jobOf (p:WI) (B:WB) (j:Nat) (m:Value) (ρ:Ren) (args:Array Value) (wS:World) (R:Value→World→Prop) (S:Nat→Prop):Work:=((wkOf p B j 0 0 0 m).job ρ args wS R).setS S
theorem goop_spawn {P:Program} {main:Bool} {b:Frame} {a:Act} {kk:List Item} {cs:List Frame} {w:World} {ops:Array Oper} {i:Nat} {rest:List Nat} {o:Oper} {f:FuncId} {caps:Array Value} {x:Operand}
  (ho:ops[i]? = some o) (hw:Region.wanted o (yielded ops a.tmps)=true) (hk:b.kind≠.early) (hop:o.op=.go { callee:=.value x,args:=#[],argTypes:=#[] }) (ef:a.eval x=clos f caps) :
  stepG P main (G (b.at a (.inRegion ops (i::rest)::kk)) cs) w=.spawn (G (b.at (a.put o.dst undef) (.inRegion ops rest::kk)) cs) (born P (ccall f caps)) w #[]:=by
 have hr:(execOp a.eval o).run P w=.ok (.spawn (ccall f caps)) w:=by
  unfold execOp
  simp [hop,resolve,Deferred.ofValue,ef,ccall,clos]
 have he:(execOp a.eval o).events P w #[]=#[]:=by
  unfold execOp
  simp [hop,resolve,Deferred.ofValue,ef,clos]
 rw [stepG_spawn ho hw hk hr rfl,listed_none he]
structure Rnd (s s':St) (w w':World):Prop where
 j:s'.j=s.j+1
 p:s'.p=0
 d0:s'.d0=0
 sp:s'.tag=.sp
 got:s'.got=s.got
 V:∀ b,s.V b→s'.V b
 W:∀ b,s.V b→s'.W b→s.W b
 heap:∀ b,s.V b→¬ s.W b→w'.heap[b]? = w.heap[b]?
section
variable {p:WI} {B:WB} {c:PC} {J:Nat→Work} {s:St} {w:World} {cs:List Frame}
structure Far (s s':St) (w w':World):Prop where
 V:∀ b,s.V b→s'.V b
 W:∀ b,s.V b→s'.W b→s.W b
 heap:∀ b,s.V b→¬ s.W b→w'.heap[b]? = w.heap[b]?
theorem Far.refl (s:St) (w:World):Far s s w w:=⟨fun _ h=>h,fun _ _ h=>h,fun _ _ _=>rfl⟩
theorem Far.same {s' s2:St} {w' w2:World} (h:Far s s' w w') (hV:s2.V=s'.V) (hW:s2.W=s'.W) (hh:∀ b,s'.V b→¬ s'.W b→w2.heap[b]? = w'.heap[b]?):Far s s2 w w2 :=
 ⟨fun b k=>by rw [hV];exact h.V b k,fun b k k2=>h.W b k (by rw [←hW];exact k2),fun b k k2=>(hh b (h.V b k) fun x=>k2 (h.W b k x)).trans (h.heap b k k2)⟩
theorem Far.new {s' s2:St} {w' w2:World} {b:Nat} {o:Obj} (h:Far s s' w w') (r:NewB s' s2 b o w' w2):Far s s2 w w2 :=
 ⟨fun x k=>by rw [r.V];exact .inl (h.V x k),fun x k k2=>by
  rw [r.W] at k2
  rcases k2 with k2 | rfl
  ·exact h.W x k k2
  ·exact absurd (h.V x k) r.out,fun x k k2=>(r.heap x (h.V x k)).trans (h.heap x k k2)⟩
set_option maxHeartbeats 4000000 in
theorem round [Zeros Tryz.prog] [Codes Tryz.prog] (hX:(PX p B c J).Good) {j:Nat} {v8 v22 v23 v24 v25 v26 m:Value} {ρ:Ren} {args:Array Value} {wS:World} {R:Value→World→Prop} {S0:Nat→Prop}
  (h:At (PX p B c J) s w (head p B j v8 v22 v23 v24 v25 v26 cs)) (hsp:s.tag=.sp) (hp:s.p=0) (hd:s.d0=0) (hj:s.j=j) (hlt:j < p.xl) (hfew:p.xl < 2147483647) (hln:j < p.nl) (hF:MF p B s.V w) (hnb:s.V p.nb)
  (hW:¬ s.W B.bS∧¬ s.W B.bN∧¬ s.W B.bC∧¬ s.W B.bG∧¬ s.W p.sp∧¬ s.W p.nb) (hm:w.cell? ⟨p.nb,p.no+j,none⟩=some m) (hJ:J j=jobOf p B j m ρ args wS R S0) :
  ∃ S' s' w' v8 v22 v23 v24 v25 v26,At (PX p B c (upd J j ((J j).setS S'))) s' w' (head p B (j+1) v8 v22 v23 v24 v25 v26 cs)∧Rnd s s' w w':=by
 obtain ⟨s1,w1,a1,h1,q1,r1⟩:=h.walk hX (fun g w k=>by rw [k.2];rfl) (m_test (W:=s.W) (cs:=cs) (v8:=v8) (v22:=v22) (v23:=v23) (v24:=v24) (v25:=v25) (v26:=v26) hlt hfew hF)
 obtain ⟨f1,rfl⟩:=q1 w1 (RK.refl _)
 have k1:=(Far.refl s w).same r1.V r1.W r1.heap
 obtain ⟨s2,w2,bI,h2,r2⟩:=h1.new hX rfl (o:=.cells #[.int .i64 0] 3) (a':=fun b=>G (wf.at ⟨LT p B (.int .i64 j) (ptr b) (.bool true) (.int .i64 j) v24 v25 v26,[]⟩ (.inRegion r6ops [2]::.code (.region 7 r7ops false)::kk8)) cs) (fun w₁=>by
  rw [stepG_alloc (b:=wf) (ops:=r6ops) (i:=1) (elem:=3) rfl rfl (by decide) rfl Tryz.zeroValue3 (ev_zero (by kernel_rfl))]
  rfl)
 have k2:=k1.new r2
 have e1:s1.V=s.V:=r1.V
 have hout:∀ b,s.V b→bI≠b:=fun b hb e=>r2.out (by rw [e1,e];exact hb)
 have f2:MF p B s2.V w2:=by
  have:=f1.keep (w₁:=w2) fun b hb=>r2.heap b (by rw [e1];exact hb)
  exact ⟨this.s,this.n,this.c,this.g,this.id,this.x,k2.V _ hF.vs.1,k2.V _ hF.vs.2.1,k2.V _ hF.vs.2.2.1,k2.V _ hF.vs.2.2.2.1,k2.V _ hF.vs.2.2.2.2⟩
 have hVI:s2.V bI:=by rw [r2.V];exact .inr rfl
 obtain ⟨s3,w3,a3,h3,q3,r3⟩:=h2.walk hX (fun g w k=>by rw [k.2];rfl) (m_call (j:=j) (cs:=cs) (v24:=v24) (v25:=v25) (v26:=v26) (W:=s2.W) (by rw [r2.W];exact .inr rfl) ⟨hout _ hF.vs.1,hout _ hF.vs.2.1,hout _ hF.vs.2.2.1,hout _ hF.vs.2.2.2.1,hout _ hF.vs.2.2.2.2⟩ ⟨f2,hVI,r2.new⟩)
 obtain ⟨f3,rfl⟩:=q3 w3 (RK.refl _)
 have k3:=k2.same r3.V r3.W r3.heap
 obtain ⟨s4,w4,bW,h4,r4⟩:=h3.new hX rfl (o:=.cells #[box B.Wg] 168) (a':=fun b=>G (gf.at ⟨#[box B.Wg,clos 59 (wcaps B bI),box b,undef,undef,undef,undef],[]⟩ (.inRegion g0ops [1]::[.code grest])) (wunder p B j bI v25 v26 cs)) (fun w₁=>by
  rw [stepG_box (b:=gf) (ops:=g0ops) (i:=0) (elem:=168) (x:=.tmp 0) rfl rfl (by decide) rfl]
  rfl)
 have k4:=k3.new r4
 obtain ⟨s5,w5,bF,h5,r5⟩:=h4.new hX rfl (o:=.cells #[clos 59 (wcaps B bI)] 1) (a':=fun b=>G (gf.at ⟨gtm B bI bW b undef undef undef,[]⟩ (.inRegion g0ops []::[.code grest])) (wunder p B j bI v25 v26 cs)) (fun w₁=>by
  rw [stepG_box (b:=gf) (ops:=g0ops) (i:=1) (elem:=1) (x:=.tmp 1) rfl rfl (by decide) rfl]
  rfl)
 have k5:=k4.new r5
 have e3:s3.V=s2.V:=r3.V
 have v4:∀ b,s3.V b→s4.V b:=fun b hb=>by rw [r4.V];exact .inl hb
 have v5:∀ b,s4.V b→s5.V b:=fun b hb=>by rw [r5.V];exact .inl hb
 have f5:MF3 p B s5.V j bI bW bF w5:=by
  have g4:MFI p B s3.V bI (.cells #[.int .i64 j] 3) w4:=by rw [e3];exact f3.keep fun b hb=>r4.heap b (by rw [e3];exact hb)
  have g5:MFI p B s3.V bI (.cells #[.int .i64 j] 3) w5:=g4.keep fun b hb=>r5.heap b (v4 b hb)
  exact ⟨⟨g5.f.s,g5.f.n,g5.f.c,g5.f.g,g5.f.id,g5.f.x,k5.V _ hF.vs.1,k5.V _ hF.vs.2.1,k5.V _ hF.vs.2.2.1,k5.V _ hF.vs.2.2.2.1,k5.V _ hF.vs.2.2.2.2⟩,
   ⟨v5 _ (v4 _ (by rw [e3];exact hVI)),v5 _ (by rw [r4.V];exact .inr rfl),by rw [r5.V];exact .inr rfl⟩,g5.o,(r5.heap bW (by rw [r4.V];exact .inr rfl)).trans r4.new,r5.new⟩
 obtain ⟨s6,w6,a6,h6,q6,r6⟩:=h5.walk hX (fun g w k=>by rw [k.2];rfl) (m_toAdd (W:=s5.W) (cs:=cs) (v25:=v25) (v26:=v26) f5)
 obtain ⟨f6,rfl⟩:=q6 w6 (RK.refl _)
 have k6:=k5.same r6.V r6.W r6.heap
 have e6:s6.V=s5.V:=r6.V
 rw [←e6] at f6
 obtain ⟨hl6,hb6⟩:=h6.facts
 have T:Terms2 (RK Tryz.link.tWg B.Wg s6.V) (MF3 p B s6.V j bI bW bF) Tryz.link.tWg B.Wg:=⟨RK.trans,fun _ _ h=>h.live,fun _ _ h hf=>hf.keep h.keep,fun w a v ha hf=>hf.keep fun b hb=>(aside_setCell w a v).block b (by rw [ha];exact (hb6 b hb).2.1)⟩
 have hadd:=add_walk (mn:=true) (Next:=fun g w=>MF3 p B s6.V j bI bW bF w∧g=G (gf.at ⟨gtm B bI bW bF (box B.Wg) (.tuple #[]) undef,[]⟩ (.inRegion g1opsG []::[.code (.region 2 g2ops false)])) (wunder p B j bI v25 v26 cs)) (mT:=0) Tryz.wgLib T (b₀:=gf) (a₀:=⟨gtm B bI bW bF (box B.Wg) undef undef,[]⟩) (ops₀:=g1opsG) (i₀:=1) (rest₀:=[]) (k₀:=[.code (.region 2 g2ops false)]) (cs:=wunder p B j bI v25 v26 cs)
  (fun w hf _=>Goes.stop fun w₁ h₁=>⟨hf.keep h₁.keep,rfl⟩) w6 ⟨f6,hl6⟩
 have hsp6:s6.tag=.sp:=(r6.sp.trans (r5.sp.trans (r4.sp.trans (r3.sp.trans (r2.sp.trans r1.sp))))).2 hsp
 have hp6:s6.p=0:=r6.p.trans (r5.p.trans (r4.p.trans (r3.p.trans (r2.p.trans (r1.p.trans hp)))))
 have hd6:s6.d0=0:=r6.d0.trans (r5.d0.trans (r4.d0.trans (r3.d0.trans (r2.d0.trans (r1.d0.trans hd)))))
 have hj6:s6.j=j:=r6.j.trans (r5.j.trans (r4.j.trans (r3.j.trans (r2.j.trans (r1.j.trans hj)))))
 have hg6:s6.got=s.got:=r6.got.trans (r5.got.trans (r4.got.trans (r3.got.trans (r2.got.trans r1.got))))
 obtain ⟨s7,w7,a7,h7,q7,r7,hp7,hd7⟩:=h6.add hX (fun g w k=>by rw [k.2];rfl) hsp6 hp6 hd6 (by rw [hj6];exact hlt) hadd
 obtain ⟨f7,rfl⟩:=q7 w7 (RK.refl _)
 have k7:=k6.same r7.V r7.W r7.heap
 have e7:s7.V=s6.V:=r7.V
 rw [←e7] at f7
 obtain ⟨s8,w8,a8,h8,q8,r8⟩:=h7.walk hX (fun g w k=>by rw [k.2];rfl) (m_toGo (W:=s7.W) (cs:=cs) (v25:=v25) (v26:=v26) f7)
 obtain ⟨f8,rfl⟩:=q8 w8 (RK.refl _)
 have k8:=k7.same r8.V r8.W r8.heap
 have e8:s8.V=s7.V:=r8.V
 rw [←e8] at f8
 have hsp8:s8.tag=.sp:=(r8.sp.trans r7.sp).2 hsp6
 have hj8:s8.j=j:=r8.j.trans (r7.j.trans hj6)
 have hWF:∀ w₁,RK Tryz.link.tWg B.Wg s8.V w8 w₁→WF (wkOf p B j bI bW bF m) w₁:=fun w₁ h₁=>by
  have g:=f8.keep h₁.keep
  have hnb8:w₁.heap[p.nb]? = w.heap[p.nb]?:=(h₁.keep _ (k8.V _ hnb)).trans (k8.heap _ hnb hW.2.2.2.2.2)
  exact ⟨cell_of g.gw 0,cell_of g.c 0,g.f.c,cell_of g.i 0,g.f.s,g.f.id,g.f.x,g.f.n,(cell_of_block hnb8 _).trans hm,hlt,hln,h₁.live h8.facts.1⟩
 obtain ⟨s9,w9,a9,h9,q9,r9j,r9p,r9d,r9V,r9W,r9t,r9g,r9h⟩:=h8.fork hX rfl hsp8 (r8.p.trans hp7) (r8.d0.trans hd7) (by rw [hj8];exact hlt) (S':=(wkOf p B j bI bW bF m).S)
  (fun b hb=>by
   have g:=f8
   rcases hb with rfl | rfl | rfl | rfl | rfl | rfl | rfl | rfl
   ·exact g.v.2.1
   ·exact g.v.2.2
   ·exact g.f.vs.2.2.1
   ·exact g.v.1
   ·exact g.f.vs.1
   ·exact g.f.vs.2.1
   ·exact g.f.vs.2.2.2.2
   ·exact k8.V _ hnb)
  (Post:=fun g w=>g=G (gf.at ⟨gtm B bI bW bF (box B.Wg) (.tuple #[]) (clos 76 #[box bW,box bF]),[]⟩ [.inRegion g2ops []]) (wunder p B j bI v25 v26 cs))
  (fun w₁ h₁=>⟨_,_,goop_spawn (b:=gf) (ops:=g2ops) (i:=1) (f:=76) (caps:=#[box bW,box bF]) (x:=.tmp 6) rfl rfl (by decide) rfl rfl,⟨_,by
   rw [hj8,show (PX p B c J).J j=jobOf p B j m ρ args wS R S0 from hJ]
   exact work_script (p:=wkOf p B j bI bW bF m) (B:=c.B0) (n:=p.xl) (CF:=B.CF) (hWF w₁ h₁)⟩,rfl⟩)
 subst q9
 rw [hj8] at h9 r9j
 have e9:s9.V=s8.V:=r9V
 have k9:Far s s9 w w9:=⟨fun b k=>by rw [e9];exact k8.V b k,fun b k k2=>by rw [r9W] at k2;exact k8.W b k k2.1,fun b k k2=>(r9h b (k8.V b k)).trans (k8.heap b k k2)⟩
 have f9:MF3 p B s9.V j bI bW bF w9:=by rw [e9];exact f8.keep r9h
 have hX9:(PX p B c (upd J j ((J j).setS (wkOf p B j bI bW bF m).S))).Good:=hX.setS j (wkOf p B j bI bW bF m).S
 have h9:At (PX p B c (upd J j ((J j).setS (wkOf p B j bI bW bF m).S))) s9 w9 _:=h9
 obtain ⟨s10,w10,a10,h10,q10,r10⟩:=h9.walk hX9 (fun g w k=>by rw [k.2];rfl) (m_back (W:=s9.W) (cs:=cs) (v25:=v25) (v26:=v26) (by omega) f9)
 obtain ⟨f10,rfl⟩:=q10 w10 (RK.refl _)
 have k10:=k9.same r10.V r10.W r10.heap
 refine ⟨_,s10,w10,_,_,_,_,_,_,h10,?_,r10.p.trans r9p,r10.d0.trans r9d,r10.sp.2 r9t,r10.got.trans (r9g.trans (r8.got.trans (r7.got.trans hg6))),k10.V,k10.W,k10.heap⟩
 rw [r10.j,r9j,hj]
end
end Go.Proofs.YtjnkcibpkkjniaaGreat.Pool
namespace Go.Proofs.YtjnkcibpkkjniaaGreat.Pool
open Go.Conc Go.ConcN Go.Conc.Lib Go.ConcR.Gen Go.ConcN.Gen Go.Proofs.YtjnkcibpkkjniaaGreat.Sim
open Go.ConcR (KK wgBlock WgAt stA smA rd wr mk DC0)
variable [Scope]
structure JD where
 m:Nat→Value
 ρ:Nat→Ren
 args:Nat→Array Value
 wS:Nat→World
 R:Nat→Value→World→Prop
def JD.is (d:JD) (p:WI) (B:WB) (J:Nat→Work):Prop:=∀ i,i < p.xl→∃ S,J i=jobOf p B i (d.m i) (d.ρ i) (d.args i) (d.wS i) (d.R i) S
theorem JD.is.set {d:JD} {p:WI} {B:WB} {J:Nat→Work} (h:d.is p B J) (j:Nat) (S:Nat→Prop):d.is p B (upd J j ((J j).setS S)):=fun i hi=>by
 by_cases e:i=j
 ·subst e
  obtain ⟨S0,e⟩:=h i hi
  exact ⟨S,by rw [upd_same,e];rfl⟩
 ·rw [upd_ne _ _ e];exact h i hi
section
variable {p:WI} {B:WB} {c:PC} {cs:List Frame} {d:JD}
theorem rounds [Zeros Tryz.prog] [Codes Tryz.prog] (hfew:p.xl < 2147483647) (hln:p.xl≤p.nl):∀ (k j:Nat),j+k=p.xl→∀ {J:Nat→Work} {s:St} {w:World} {v8 v22 v23 v24 v25 v26:Value},(PX p B c J).Good→d.is p B J →
  At (PX p B c J) s w (head p B j v8 v22 v23 v24 v25 v26 cs)→s.tag=.sp→s.p=0→s.d0=0→s.j=j→MF p B s.V w→s.V p.nb→(¬ s.W B.bS∧¬ s.W B.bN∧¬ s.W B.bC∧¬ s.W B.bG∧¬ s.W p.sp∧¬ s.W p.nb)→(∀ i,i < p.xl→w.cell? ⟨p.nb,p.no+i,none⟩=some (d.m i)) →
  ∃ J' s' w' v8 v22 v23 v24 v25 v26,(PX p B c J').Good∧d.is p B J'∧At (PX p B c J') s' w' (head p B p.xl v8 v22 v23 v24 v25 v26 cs)∧s'.tag=.sp∧s'.p=0∧s'.d0=0∧s'.j=p.xl∧s'.got=s.got∧MF p B s'.V w'∧Far s s' w w':=by
 intro k
 induction k with
 | zero =>
  intro j hjk J s w v8 v22 v23 v24 v25 v26 hX hd h hsp hp hd0 hj hF hnb hW hm
  obtain rfl:j=p.xl:=by omega
  exact ⟨J,s,w,_,_,_,_,_,_,hX,hd,h,hsp,hp,hd0,hj,rfl,hF,Far.refl s w⟩
 | succ k ih =>
  intro j hjk J s w v8 v22 v23 v24 v25 v26 hX hd h hsp hp hd0 hj hF hnb hW hm
  obtain ⟨S0,hJ⟩:=hd j (by omega)
  obtain ⟨S',s1,w1,_,_,_,_,_,_,h1,r⟩:=round hX h hsp hp hd0 hj (by omega) hfew (by omega) hF hnb hW (hm j (by omega)) hJ
  have hF1:MF p B s1.V w1 :=
   ⟨(cell_of_block (r.heap _ hF.vs.1 hW.1) _).trans hF.s,(cell_of_block (r.heap _ hF.vs.2.1 hW.2.1) _).trans hF.n,(cell_of_block (r.heap _ hF.vs.2.2.1 hW.2.2.1) _).trans hF.c,(cell_of_block (r.heap _ hF.vs.2.2.2.1 hW.2.2.2.1) _).trans hF.g,(cell_of_block (r.heap _ hF.vs.2.2.2.2 hW.2.2.2.2.1) _).trans hF.id,(cell_of_block (r.heap _ hF.vs.2.2.2.2 hW.2.2.2.2.1) _).trans hF.x,r.V _ hF.vs.1,r.V _ hF.vs.2.1,r.V _ hF.vs.2.2.1,r.V _ hF.vs.2.2.2.1,r.V _ hF.vs.2.2.2.2⟩
  obtain ⟨J',s',w',a1,a2,a3,a4,a5,a6,b1,b2,b3,b4,b5,b6,b7,b8,b9,b10⟩:=ih (j+1) (by omega) (J:=upd J j ((J j).setS S')) (hX.setS j S') (hd.set j S') h1 r.sp r.p r.d0 (by rw [r.j,hj]) hF1 (r.V _ hnb)
   ⟨fun x=>hW.1 (r.W _ hF.vs.1 x),fun x=>hW.2.1 (r.W _ hF.vs.2.1 x),fun x=>hW.2.2.1 (r.W _ hF.vs.2.2.1 x),fun x=>hW.2.2.2.1 (r.W _ hF.vs.2.2.2.1 x),fun x=>hW.2.2.2.2.1 (r.W _ hF.vs.2.2.2.2 x),fun x=>hW.2.2.2.2.2 (r.W _ hnb x)⟩
   (fun i hi=>(cell_of_block (r.heap _ hnb hW.2.2.2.2.2) _).trans (hm i hi))
  exact ⟨J',s',w',a1,a2,a3,a4,a5,a6,b1,b2,b3,b4,b5,b6,b7,b8.trans r.got,b9,fun b hb=>b10.V b (r.V b hb),fun b hb hw=>r.W b hb (b10.W b (r.V b hb) hw),fun b hb hw=>(b10.heap b (r.V b hb) fun x=>hw (r.W b hb x)).trans (r.heap b hb hw)⟩
noncomputable def r9ops:Array Oper:=match wlast with
 | .seq (.region _ ops _) _=>ops
 | _=>#[]
noncomputable def r10:Code:=match wlast with
 | .seq _ c=>c
 | _=>.skip
set_option maxRecDepth 100000 in
set_option maxHeartbeats 4000000 in
theorem m_toGoC {V W:Nat→Prop} {w:World} {v21 v8 v22 v23 v24 v25 v26:Value} (hF:MF p B V w) :
  Goes Tryz.prog true (RK Tryz.link.tWg B.Wg V) (DM V W) (fun g w=>MF p B V w∧g=G (wf.at ⟨(LT p B v21 v8 v22 v23 v24 v25 v26).setIfInBounds 27 (clos 61 #[box B.Wg,box B.bG]),[]⟩ [.inRegion r9ops [1], .code r10]) cs) 12
   (G (wf.at ⟨LT p B v21 v8 v22 v23 v24 v25 v26,[]⟩ [.code wlast]) cs) w:=by
 simp only [LT,r9ops,r10,wlast,wrest,Tryz.f35]
 ((refine Goes.step rfl (fun _ h₁=>?_);replace hF:=MF.keep hF (RK.keep h₁);clear h₁);rw [stepG_seq];simp only [goes_go];refine ⟨DM.nil,?_⟩)
 ((refine Goes.step rfl (fun _ h₁=>?_);replace hF:=MF.keep hF (RK.keep h₁);clear h₁);rw [stepG_region];simp only [goes_go,List.size_toArray,List.length_cons,List.length_nil,Nat.reduceAdd,Nat.zero_add,List.range,List.range.loop];refine ⟨DM.nil,?_⟩)
 ((refine Goes.step rfl (fun _ h₁=>?_);replace hF:=MF.keep hF (RK.keep h₁);clear h₁);refine goes_oper_k rfl rfl (by decide) (fun K hK=>?_);have e1:=MF.s hF;have e2:=MF.x hF;have hV:=MF.vs hF;(try simp only [ptr] at *);go_simp;refine hK _ _ ⟨⟨fun _ _=>rfl,rfl,rfl,fun e he=>?_⟩,?_⟩;(focus (clear hK;have hm:=mem_listed he;simp [go_sem, *] at hm;(try (subst hm;exact ⟨_,_,rfl,by simp [hV],by simp⟩))));clear hK K e1 e2 hV)
 exact Goes.stop fun w₁ h₁=>⟨hF.keep h₁.keep,rfl⟩
end
end Go.Proofs.YtjnkcibpkkjniaaGreat.Pool
namespace Go.Proofs.YtjnkcibpkkjniaaGreat.Pool
open Go.Conc Go.ConcN Go.Conc.Lib Go.ConcR.Gen Go.ConcN.Gen Go.Proofs.YtjnkcibpkkjniaaGreat.Sim
open Go.ConcR (KK wgBlock WgAt stA smA rd wr mk DC0)
noncomputable def r10ops:Array Oper:=match r10 with
 | .seq (.region _ ops _) _=>ops
 | _=>#[]
def v10 (p:WI) (B:WB) (ret:Value):Nat→Value
 | 0=>.chan (some B.CB)
 | 1=>.chan (some B.CF)
 | 2 | 3=>.pointer (some ⟨p.sp,p.so,none⟩)
 | 4=>.pointer (some ⟨p.sp,p.so+1,none⟩)
 | 5=>.slice (some ⟨p.xb,p.xo,none⟩) p.xl p.xc
 | 6=>.int .i64 p.xl
 | 7 | 8=>ret
 | _=>undef
def fix10 (B:WB):List (Nat×Value):=[(2,ptr B.bS),(5,ptr B.bC),(6,ptr B.bG)]
theorem ok_10:okOps r10ops [2,5,6] 36=true:=by kernel_rfl
theorem size_10:r10ops.size=9:=by kernel_rfl
theorem sched_10 (m:Bool) (t:Nat):Region.schedule m r10ops t=Region.linearise .any r10ops t:=by
 have:Region.departs r10ops=false:=by kernel_rfl
 simp [Region.schedule,this]
abbrev sp10 (i:Nat):Bool:=i == 7 || i == 8
set_option maxHeartbeats 2000000 in
theorem w10_op {p:WI} {B:WB} {V:Nat→Prop} {ret:Value} (i:Nat) (o:Oper) (listed:Array Bool) (a:Act) (w:World) (ho:r10ops[i]? = some o) (hr:i∈Region.ready .any r10ops listed) (hsp:sp10 i=false)
  (ht:Tab r10ops (v10 p B ret) (fix10 B) 36 listed a) (hF:MF p B V w):(execOp a.eval o).run Tryz.prog w=.ok (.value (v10 p B ret i)) w∧∀ e∈(execOp a.eval o).events Tryz.prog w #[],∃ ad:Addr,e=⟨.cell ad,false,false⟩∧V ad.block:=by
 have hd:=dep ht ho hr
 have hi:i < 9:=by rw [←size_10];exact (Array.getElem?_eq_some_iff.1 ho).1
 have f0:a.tmps[2]? = some (ptr B.bS):=ht.fix (2,ptr B.bS) (by simp [fix10])
 have f1:a.tmps[5]? = some (ptr B.bC):=ht.fix (5,ptr B.bC) (by simp [fix10])
 have f2:a.tmps[6]? = some (ptr B.bG):=ht.fix (6,ptr B.bG) (by simp [fix10])
 have hS:=hF.s;have hC:=hF.c;have hG:=hF.g;have hx:=hF.x;have hV:=hF.vs
 clear hr
 obtain rfl | rfl | rfl | rfl | rfl | rfl | rfl | rfl | rfl:i=0∨i=1∨i=2∨i=3∨i=4∨i=5∨i=6∨i=7∨i=8:=by omega
 all_goals first | (exfalso;revert hsp;decide) | skip
 all_goals
  simp only [r10ops,r10,wlast,wrest,Tryz.f35] at ho hd
  simp only [List.getElem?_toArray,List.getElem?_cons_succ,List.getElem?_cons_zero,Option.some.injEq] at ho hd
  subst ho
  simp [Region.binds,v10] at hd
 all_goals (refine ⟨?_,?_⟩)
 all_goals unfold execOp
 all_goals simp only [Act.eval,v10,Array.getD_eq_getD_getElem?,hd,f0,f1,f2,Option.getD_some,ptr,List.map_toArray,List.map_cons,List.map_nil]
 all_goals try simp only [v10]
 all_goals first | go_simp | trace_state
 all_goals first | exact hV.1 | exact hV.2.1 | exact hV.2.2.1 | exact hV.2.2.2.1 | exact hV.2.2.2.2 | done
section
variable {p:WI} {B:WB} {c:PC} {cs:List Frame} {d:JD} {J:Nat→Work} {s:St} {w:World} [Scope]
theorem DM.ofQ {V W:Nat→Prop} {w w':World} {es:Array Event} (h:DQ V w w' es):DM V W w w' es:=by
 obtain ⟨⟨d,rfl⟩,h2⟩:=h
 exact ⟨fun _ _=>rfl,rfl,rfl,fun e he=>by obtain ⟨ad,e1,e2⟩:=h2 e he;exact ⟨ad,false,e1,e2,by simp⟩⟩
def AtGather (p:WI) (B:WB) (V:Nat→Prop) (cs:List Frame) (g:Goroutine) (w:World):Prop :=
 MF p B V w∧∃ a listed fuel t,Tab r10ops (v10 p B undef) (fix10 B) 36 listed a∧7∈Region.ready .any r10ops listed∧listed.getD 8 false=false∧unl r10ops listed≤fuel+1 ∧
  g=G (wf.at a (.inRegion r10ops (7::Region.linearise.go .any r10ops fuel t (listed.setIfInBounds 7 true) [])::[.code .ret])) cs
theorem tab10 (p:WI) (B:WB) {a:Act} (hd:a.defers=[]) (hs:a.tmps.size=36) (h2:a.tmps[2]? = some (ptr B.bS)) (h5:a.tmps[5]? = some (ptr B.bC)) (h6:a.tmps[6]? = some (ptr B.bG)):Tab r10ops (v10 p B undef) (fix10 B) 36 (Array.replicate r10ops.size false) a where
 defers:=hd
 size:=hs
 fix:=fun x hx=>by
  simp only [fix10,List.mem_cons,List.not_mem_nil,or_false] at hx
  rcases hx with rfl | rfl | rfl <;> assumption
 val:=fun i o d _ hl=>by
  simp [Array.getD_eq_getD_getElem?,Array.getElem?_replicate] at hl
  split at hl <;> simp at hl
 lsz:=by simp
 deps:=fun i o _ hl=>by
  simp [Array.getD_eq_getD_getElem?,Array.getElem?_replicate] at hl
  split at hl <;> simp at hl
theorem ready8 {val:Nat→Value} {fix:List (Nat×Value)} {T:Nat} {listed:Array Bool} {a:Act} (ht:Tab r10ops val fix T listed a) (hr:8∈Region.ready .any r10ops listed):listed.getD 7 false=true:=by
 obtain ⟨_,o,ho,h⟩:=mem_ready.1 hr
 have e:r10ops[8]? = some o:=ho
 simp only [r10ops,r10,wlast,wrest,Tryz.f35,List.getElem?_toArray,List.getElem?_cons_succ,List.getElem?_cons_zero,Option.some.injEq] at e
 subst e
 simp [Region.binds] at h
 simp only [Array.getD_eq_getD_getElem?]
 exact h.1
set_option maxHeartbeats 2000000 in
theorem m_toGather {V W:Nat→Prop} {a:Act} (hF:MF p B V w) (hd:a.defers=[]) (hs:a.tmps.size=36) (h2:a.tmps[2]? = some (ptr B.bS)) (h5:a.tmps[5]? = some (ptr B.bC)) (h6:a.tmps[6]? = some (ptr B.bG)) :
  Goes Tryz.prog true (RK Tryz.link.tWg B.Wg V) (DM V W) (AtGather p B V cs) 12 (G (wf.at a [.inRegion r9ops [], .code r10]) cs) w:=by
 ((refine Goes.step rfl (fun _ h₁=>?_);replace hF:=MF.keep hF (RK.keep h₁);clear h₁);rw [stepG_region_end];simp only [goes_go];refine ⟨DM.nil,?_⟩)
 simp only [r10,wlast,wrest,Tryz.f35]
 ((refine Goes.step rfl (fun _ h₁=>?_);replace hF:=MF.keep hF (RK.keep h₁);clear h₁);rw [stepG_seq];simp only [goes_go];refine ⟨DM.nil,?_⟩)
 (refine Goes.step rfl (fun _ h₁=>?_);replace hF:=MF.keep hF (RK.keep h₁);clear h₁)
 rw [stepG_region_draw]
 simp only [goes_go]
 refine ⟨DM.drew,?_⟩
 have key:∀ (w2:World) (m:Bool) (t:Nat),MF p B V w2→Goes Tryz.prog true (RK Tryz.link.tWg B.Wg V) (DM V W) (AtGather p B V cs) 9 (G (wf.at a [.inRegion r10ops (Region.schedule m r10ops t), .code .ret]) cs) w2:=fun w2 m t hF2=>by
  have hw:=lin_walk (P:=Tryz.prog) (mn:=true) (R:=RK Tryz.link.tWg B.Wg V) (S:=V) (ops:=r10ops) (val:=v10 p B undef) (fix:=fix10 B) (T:=36) (sp:=sp10) (L0:=fun _=>false) (Sok:=MF p B V) (b:=wf) (k:=[.code .ret]) (cs:=cs)
   RK.trans (fun w w₁ h hF=>hF.keep h.keep) ok_10 (by decide) w10_op r10ops.size t _ a w2 (tab10 p B hd hs h2 h5 h6) (fun j _=>by simp [Array.getD_eq_getD_getElem?,Array.getElem?_replicate];split <;> rfl) hF2 (unl_le _ _)
  rw [sched_10]
  unfold Region.linearise
  rw [show r10ops.size=9 from size_10] at hw ⊢
  refine Goes.bind (m2:=0) RK.refl (fun g w0 hs=>Goes.stop fun w' h'=>?_) (Goes.monoD (fun _ _ _ h=>DM.ofQ h) hw)
  obtain ⟨hF',a,listed,ht,hL,⟨i,fuel,t',hi,hr,hu,rfl⟩ | ⟨hall,rfl⟩⟩:=hs
  ·have hi':i=7∨i=8:=by simpa [sp10] using hi
   rcases hi' with rfl | rfl
   ·exact ⟨hF'.keep h'.keep,a,listed,fuel,t',ht,hr,hL 8 rfl,hu,rfl⟩
   ·have:=ready8 ht hr
    rw [hL 7 rfl] at this
    cases this
  ·have:=hall 7 (by rw [size_10];decide)
   rw [hL 7 rfl] at this
   cases this
 exact key _ _ _ (hF.keep fun _ _=>rfl)
end
end Go.Proofs.YtjnkcibpkkjniaaGreat.Pool
