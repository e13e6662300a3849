import Derived.Test.YtjnkcibpkkjniaaGreatA27
set_option linter.unusedVariables false
set_option linter.unusedSimpArgs false
set_option linter.unusedSectionVars false
namespace Go.Proofs.YtjnkcibpkkjniaaGreat.Pool
open Go.Conc Go.ConcN Go.Proofs.YtjnkcibpkkjniaaGreat.Sim
open Go.ConcR (KK wgBlock WgAt stA smA rd wr DC0)
variable [Scope]
theorem Mode.opened {j p:Nat} {D:Nat→WD} {tag:Tg} {st sm:Int} (h:Mode j p D tag st sm) (ho:isOpen tag):st=((Vc j D+p:Nat):Int) * KK∧sm=0∧OpenSt j D∧∀ vs,tag=.w2 vs→Vc j D≤vs∧1≤vs:=by
 cases h with
 | opn h1 h2 h3=>exact ⟨rfl,rfl,h2,h3⟩
 | reg h1=>cases tag <;> first | exact ho.elim | exact h1.elim
 | last L h1=>cases tag <;> first | exact ho.elim | exact h1.elim
 | sema h1=>rcases h1 with rfl | rfl <;> exact ho.elim
 | fin h1=>cases tag <;> first | exact ho.elim | exact h1.elim
theorem Mode.w3s {j p:Nat} {D:Nat→WD} {tag tag':Tg} {st sm:Int} (h:Mode j p D tag st sm) (ho:isW3 tag) (hw:isW3 tag') :
  (sm=0∧Mode j p D tag' st sm)∨(st=0∧sm=1∧p=0∧AllQuit j D):=by
 cases h with
 | opn h1=>cases tag <;> first | exact ho.elim | exact h1.elim
 | reg _ h0 h2 h3=>exact .inl ⟨rfl, .reg hw h0 h2 h3⟩
 | last L _ h0 h2 h3 h4=>exact .inl ⟨rfl, .last L hw h0 h2 h3 h4⟩
 | sema h1 h0 h2=>exact .inr ⟨rfl,rfl,h0,h2⟩
 | fin h1=>cases tag <;> first | exact ho.elim | exact h1.elim
theorem Mode.fins {j p:Nat} {D:Nat→WD} {tag:Tg} {st sm:Int} (h:Mode j p D tag st sm) (ho:isFin tag):st=0∧sm=0∧p=0∧AllQuit j D:=by
 cases h with
 | opn h1=>cases tag <;> first | exact ho.elim | exact h1.elim
 | reg h1=>cases tag <;> first | exact ho.elim | exact h1.elim
 | last L h1=>cases tag <;> first | exact ho.elim | exact h1.elim
 | sema h1=>rcases h1 with rfl | rfl <;> exact ho.elim
 | fin h1 h0 h2=>exact ⟨rfl,rfl,h0,h2⟩
theorem new_op (t:Trace) (k:Nat) (fn:FuncId) (pos:String) (es:Array Event) (j:Nat) (e:Event) (h:es[j]? = some e):(t++MemOp.ofEvents k fn pos es)[t.size+j]? = some { g:=k,fn,pos,act:=.ofEvent e }:=by
 rw [ofEvents_eq,Array.getElem?_append_right (by omega),Nat.add_sub_cancel_left,Array.getElem?_map,h]
 rfl
theorem new_heard (t:Trace) (k:Nat) (fn:FuncId) (pos:String) (es:Array Event) (j:Nat) (e:Event) (h:es[j]? = some e) (hd:deafBehind (Deaf t k) (es.extract 0 j)=0):(t++MemOp.ofEvents k fn pos es).heard (t.size+j):=by
 have hj:j≤es.size:=by have:=(Array.getElem?_eq_some_iff.1 h).1;omega
 exact ⟨k,by simp [Trace.g?,new_op t k fn pos es j e h],by rw [deaf_inside t k fn pos es j hj];exact hd⟩
section
variable {X:Ctx} {s:St} {n:Nat} {gs gs':Array Goroutine} {w w':World} {t u:Trace}
def COut (X:Ctx) (s:St) (n:Nat) (gs:Array Goroutine) (w:World) (t:Trace) (g:Goroutine) (w1:World):Prop :=
 ∃ g' w' es tag' fc' dc',stepG X.P false g w1=.go g' w' es∧tag'≠.sp∧Crew X { s with tag:=tag',fc:=fc',dc:=dc' } (n+1) ((gs.map (woken X.P g g' w')).setIfInBounds (X.N.B+X.N.n) g') w' (t++MemOp.ofEvents (X.N.B+X.N.n) g.frame.fn g.frame.place es) ∧
  Lt2 (meas X { s with tag:=tag',fc:=fc',dc:=dc' }) (meas X s)∧(∀ b,s.V b→w'.heap[b]? = w.heap[b]?)∧(tag'=.qt→s.tag≠.qt→mayWake X.P g=true∧(g'.status=.running∨g'.status=.finished))
theorem Crew.cturns (hX:X.Good) {sl:Option (Nat×Nat)} (h:Crew X s n gs w t) (hrun:runNT X.P n X.m0 X.t0=(.next (crowd gs w sl),t)) {d:Nat} {sl':Option (Nat×Nat)} (ht:s.tag≠.sp) {g:Goroutine}
  (hg:gs[X.N.B+X.N.n]? = some g) (hgr:g.status=.running) (hpk:X.pk (crowd gs w sl)=(X.N.B+X.N.n,d,sl')) (h':Crew X s n gs (w.at d) t):COut X s n gs w t g (w.at d):=by
 have hB:=hX.pos
 have hn:∀ i',i' < X.N.n→sums (segOf X.P X.pk (X.N.B+i') X.m0 X.t0) (n+1)=sums (segOf X.P X.pk (X.N.B+i') X.m0 X.t0) n:=fun i' hi'=>by
  have:=segOf_other (P:=X.P) (pk:=X.pk) (i0:=X.N.B+i') hrun (by rw [hpk];simp only;omega)
  simp [sums,this]
 obtain ⟨g0,hg0,hs,hdf⟩:=h'.cl ht
 obtain rfl:g0=g:=by rw [hg] at hg0;exact (Option.some.inj hg0).symm
 obtain ⟨st,sm,hw,hm⟩:=h'.wg
 have hp0:s.p=0:=(h.size.2 ht).2.2
 have hjn:s.j=X.N.n:=(h.size.2 ht).2.1
 have hfew:=hX.few
 have hVc:=Vc_le s.j s.D
 have keep:∀ {w1:World},(∀ b,b≠X.N.Wg→b≠X.N.CF→w1.heap[b]? = (w.at d).heap[b]?)→∀ b,s.V b→w1.heap[b]? = w.heap[b]?:=fun e b hb=>e b (h.zone.v b hb).2.1 (h.zone.v b hb).2.2.2.1
 have reads:∀ {g':Goroutine} {w':World} {es:Array Event} {fc':Nat},stepG X.P false g0 (w.at d)=.go g' w' es→DQ X.Sc (w.at d) w' es→CSit X.P X.N X.Sc X.Anch X.mC s.tag fc' s.dc g' w'→fc' < s.fc→s.tag≠.qt→COut X s n gs w t g0 (w.at d):=by
  intro g' w' es fc' e1 ⟨⟨d',e2⟩,e3⟩ e4 e5 hnq
  subst e2
  obtain ⟨k1,k2⟩:=h'.cstep hX ht hg ht e4 hn (fun _ _ _=>rfl) h'.fin rfl rfl hw hm (es:=es) (fun e he a ha hmm=>by
   obtain ⟨ad,rfl,hS⟩:=e3 e he
   have:a=⟨.cell ad,false, .plain⟩:=by simp [MemAct.ofEvent,MemAct.touch?] at ha;exact ha.symm
   subst this
   exact .inr ⟨ad.block,rfl,hS,rfl⟩) (fun e he=>by obtain ⟨ad,rfl,hS⟩:=e3 e he;exact (h'.zone.v _ (h'.zone.sc ht _ hS).1).1) (fun e he=>by obtain ⟨ad,rfl,hS⟩:=e3 e he;simp)
   (still_le (fun e he=>by obtain ⟨ad,rfl,hS⟩:=e3 e he;simp) _) (fun e=>.inl e) (fun e=>absurd e hnq) (.inr ⟨rfl,e5⟩)
  exact ⟨_,_,_,_,_,_,e1,ht,k1,k2,keep fun _ _ _=>rfl,fun e k=>absurd e k⟩
 have says:∀ {g':Goroutine} {w':World} {es:Array Event} {tag':Tg} {fc' dc':Nat} {st' sm':Int},stepG X.P false g0 (w.at d)=.go g' w' es→((∃ a v,a.block=X.N.Wg∧w'=(w.at d).setCell a v)∨w'=w.at d)→tag'≠.sp→tag'≠.qt→s.tag≠.qt →
   CSit X.P X.N X.Sc X.Anch X.mC tag' fc' dc' g' w'→WgAt X.N.ty X.N.Wg w' st' sm'→Mode s.j s.p s.D tag' st' sm' →
   (∀ e∈es,(MemAct.ofEvent e).touch? = none∨(∃ a wr,e=⟨.cell a,wr,true⟩∧a.block=X.N.Wg)∨(∃ a,e=⟨.mark (.write a),false,true⟩∧a.block=X.N.Wg))→(∀ e∈es,(MemAct.ofEvent e).low (w.at d).heap.size)→(∀ e∈es,e.loc≠.mark (.release (stA X.N.Wg))) →
   deafBehind s.dc es=dc'→(tag'=.cl→∃ q,Acq X (t++MemOp.ofEvents (X.N.B+X.N.n) g0.frame.fn g0.frame.place es) q) →
   (phi X.N.n (Vc s.j s.D) tag' < phi X.N.n (Vc s.j s.D) s.tag∨(phi X.N.n (Vc s.j s.D) tag'=phi X.N.n (Vc s.j s.D) s.tag∧fc' < s.fc))→COut X s n gs w t g0 (w.at d):=by
  intro g' w' es tag' fc' dc' st' sm' e1 e2 e3 e4 e4' e5 e6 e7 e8 e9 e10 e11 e12 e13
  have hheap:∀ b,b≠X.N.Wg→b≠X.N.CF→w'.heap[b]? = (w.at d).heap[b]?:=fun b hb _=>by
   rcases e2 with ⟨a,v,ha,rfl⟩ | rfl
   ·exact setCell_off _ _ _ (by rw [ha];exact hb)
   ·rfl
  have hCF:w'.heap[X.N.CF]? = (w.at d).heap[X.N.CF]?:=by
   rcases e2 with ⟨a,v,ha,rfl⟩ | rfl
   ·exact setCell_off _ _ _ (by rw [ha];exact Ne.symm hX.nums.2.1)
   ·rfl
  have hsz:w'.heap.size=(w.at d).heap.size:=by
   rcases e2 with ⟨a,v,ha,rfl⟩ | rfl
   ·simp [World.setCell]
   ·rfl
  have hos:w'.os=(w.at d).os:=by rcases e2 with ⟨a,v,ha,rfl⟩ | rfl <;> rfl
  have nq:∀ {x:Tg},x≠.qt→isQt x=false:=fun {x} hx=>by cases x <;> first | rfl | exact absurd rfl hx
  obtain ⟨k1,k2⟩:=h'.cstep hX ht hg e3 e5 hn hheap (by rw [hCF,h'.fin,nq e4,nq e4']) hsz hos e6 e7 (es:=es) (fun e he a ha hmm=>by
   rcases e8 e he with k | ⟨ad,wr,rfl,k⟩ | ⟨ad,rfl,k⟩
   ·rw [k] at ha;cases ha
   ·have:a=⟨.cell ad,wr, .atomic⟩:=by cases wr <;> simp [MemAct.ofEvent,MemAct.touch?] at ha <;> exact ha.symm
    subst this
    exact .inl ⟨.inl ⟨ad,rfl,k⟩,by simp⟩
   ·have:a=⟨.cell ad,true, .said⟩:=by simp [MemAct.ofEvent,MemAct.touch?] at ha;exact ha.symm
    subst this
    exact .inl ⟨.inl ⟨ad,rfl,k⟩,by simp⟩) e9 e10 e11 (fun e=>.inr (e12 e)) (fun e=>absurd e e4) e13
  exact ⟨_,_,_,_,_,_,e1,e3,k1,k2,keep hheap,fun e=>absurd e e4⟩
 have said:∀ {e:Event} {a:Addr},(MemAct.ofEvent e).touch? = none∨(∃ a wr,e=⟨.cell a,wr,true⟩∧a.block=X.N.Wg)∨(∃ a,e=⟨.mark (.write a),false,true⟩∧a.block=X.N.Wg)→∀ x∈#[e],(MemAct.ofEvent x).touch? = none∨(∃ a wr,x=⟨.cell a,wr,true⟩∧a.block=X.N.Wg)∨(∃ a,x=⟨.mark (.write a),false,true⟩∧a.block=X.N.Wg):=fun h x hx=>by
  rw [Array.mem_singleton] at hx;subst hx;exact h
 have atw1:∀ (f:Nat),isOpen s.tag→s.tag≠.qt→s.dc=1→(phi X.N.n (Vc s.j s.D) .w1 < phi X.N.n (Vc s.j s.D) s.tag∨(s.tag=.w1∧s.fc=f))→Goes X.P false (RK X.N.ty X.N.Wg X.Sc) DC0 (Wa1 X.P false (RK X.N.ty X.N.Wg X.Sc) X.N.ty X.N.Wg X.Anch (Nx X.P X.N X.Sc X.mC)) f g0 (w.at d)→COut X s n gs w t g0 (w.at d):=by
  intro f ho hnq hdc hph h1
  obtain ⟨m1,m2,m3,m4⟩:=hm.opened ho
  subst m1 m2
  rw [hp0,Nat.add_zero] at hw
  have hphi:∀ {x:Tg},phi X.N.n (Vc s.j s.D) x < phi X.N.n (Vc s.j s.D) .w1→phi X.N.n (Vc s.j s.D) x < phi X.N.n (Vc s.j s.D) s.tag:=fun {x} hx=>by
   rcases hph with k | ⟨k,_⟩
   ·omega
   ·rw [k];exact hx
  rcases Goes.cases h1 with hstop | ⟨m',rfl,hstep⟩
  ·obtain ⟨_,hst⟩:=hstop _ (RK.refl _)
   obtain ⟨g',e1,e2,e3⟩:=hst (Vc s.j s.D) (by omega) hw
   have hes:=hes_cells (X:=X) (a:=stA X.N.Wg) rfl (.inr (.inl rfl))
   by_cases hv:Vc s.j s.D=0
   ·obtain ⟨m',e4⟩:=e2 hv
    refine says e1 (.inr rfl) (by simp) (by simp) hnq (.ke e4) (st':=0) (sm':=0) (by rw [hv] at hw;simpa using hw) (.fin trivial hp0 (Vc_zero hv m3)) (fun e he=>(hes.1 e he).imp id .inl) (hes.2.1 _ h'.zone.nums.1) hes.2.2.1 (by rw [hdc];exact hes.2.2.2.1) (fun e=>by cases e) (.inl (hphi (by simp only [phi];omega)))
   ·obtain ⟨m',e4⟩:=e3 hv
    refine says e1 (.inr rfl) (by simp) (by simp) hnq (.w2 e4) hw (by
     have:Mode s.j s.p s.D (.w2 (Vc s.j s.D)) (((Vc s.j s.D+s.p:Nat):Int) * KK) 0:=.opn trivial m3 fun vs e=>by cases e;exact ⟨Nat.le_refl _,by omega⟩
     rw [hp0,Nat.add_zero] at this
     rw [hp0]
     exact this) (fun e he=>(hes.1 e he).imp id .inl) (hes.2.1 _ h'.zone.nums.1) hes.2.2.1 (by rw [hdc];exact hes.2.2.2.1) (fun e=>by cases e) (.inl (hphi (by simp only [phi];omega)))
  ·obtain ⟨g',w',es,e1,⟨rfl,rfl⟩,e3⟩:=hstep _ (RK.refl _)
   rcases hph with k | ⟨k1,k2⟩
   ·refine says e1 (.inr rfl) (by simp) (by simp) hnq (.w1 e3) hw (by
     have:Mode s.j s.p s.D .w1 (((Vc s.j s.D+s.p:Nat):Int) * KK) 0:=.opn trivial m3 fun vs e=>by cases e
     rw [hp0,Nat.add_zero] at this
     rw [hp0]
     exact this) (by simp) (by simp) (by simp) (by rw [hdc];rfl) (fun e=>by cases e) (.inl k)
   ·exact reads e1 (DQ.of0 ⟨rfl,rfl⟩) (by rw [k1,hdc];exact .w1 e3) (by omega) hnq
 generalize htg:s.tag=tg at hs
 generalize hfc:s.fc=fc at hs
 generalize hdc:s.dc=dc at hs
 cases hs with
 | kd h1 =>
  rcases Goes.cases h1 with hstop | ⟨m',rfl,hstep⟩
  ·obtain ⟨_,g',e1,m',e2⟩:=hstop _ (RK.refl _)
   obtain ⟨m1,m2,m3,m4⟩:=hm.opened (by rw [htg];trivial)
   subst m1 m2
   exact says e1 (.inr rfl) (by simp) (by simp) (by rw [htg];simp) (.anch e2) hw (.opn trivial m3 fun vs e=>by cases e) (said (a:=stA X.N.Wg) (.inl rfl)) (fun e he=>by rw [Array.mem_singleton] at he;subst he;trivial) (fun e he=>by rw [Array.mem_singleton] at he;subst he;simp [Go.ConcR.mk]) (by rw [hdc];rfl) (fun e=>by cases e) (.inl (by rw [htg];simp only [phi];omega))
  ·obtain ⟨g',w',es,e1,e2,e3⟩:=hstep _ (RK.refl _)
   exact reads e1 e2 (by rw [htg,hdc];exact .kd e3) (by omega) (by rw [htg];simp)
 | anch h1 =>
  rcases Goes.cases h1 with hstop | ⟨m',rfl,hstep⟩
  ·obtain ⟨m',e2⟩:=hX.anch _ _ (hstop _ (RK.refl _))
   exact atw1 m' (by rw [htg];trivial) (by rw [htg];simp) hdc (.inl (by rw [htg];simp only [phi];omega)) e2
  ·obtain ⟨g',w',es,e1,e2,e3⟩:=hstep _ (RK.refl _)
   exact reads e1 (DQ.of0 e2) (by rw [htg,hdc];exact .anch e3) (by omega) (by rw [htg];simp)
 | w1 h1=>exact atw1 fc (by rw [htg];trivial) (by rw [htg];simp) hdc (.inr ⟨htg,hfc⟩) h1
 | @w2 vs _ _ _ h1 =>
  rcases Goes.cases h1 with hstop | ⟨m',rfl,hstep⟩
  ·obtain ⟨m1,m2,m3,m4⟩:=hm.opened (by rw [htg];trivial)
   subst m1 m2
   obtain ⟨l1,l2⟩:=m4 vs htg
   rw [hp0,Nat.add_zero] at hw
   obtain ⟨_,hst⟩:=hstop _ (RK.refl _)
   obtain ⟨e1,e2⟩:=hst (Vc s.j s.D) (by omega) hw
   by_cases hv:Vc s.j s.D=vs
   ·obtain ⟨g',k1,m',k2⟩:=e1 hv
    have hes:=hes_cells (X:=X) (a:=stA X.N.Wg) rfl (.inl rfl)
    exact says k1 (.inl ⟨_,_,rfl,rfl⟩) (by simp) (by simp) (by rw [htg];simp) (.wr k2) (hw.setSt _) (.reg trivial hp0 m3 (by omega)) (fun e he=>(hes.1 e he).imp id .inl) (hes.2.1 _ h'.zone.nums.1) hes.2.2.1 (by rw [hdc];exact hes.2.2.2.1) (fun e=>by cases e) (.inl (by rw [htg];simp only [phi];omega))
   ·obtain ⟨g',k1,m',k2⟩:=e2 hv
    have hes:=hes_cells (X:=X) (a:=stA X.N.Wg) rfl (.inr (.inl rfl))
    exact says k1 (.inr rfl) (by simp) (by simp) (by rw [htg];simp) (.anch k2) hw (by
     have:Mode s.j s.p s.D .anch (((Vc s.j s.D+s.p:Nat):Int) * KK) 0:=.opn trivial m3 fun vs e=>by cases e
     rw [hp0,Nat.add_zero] at this
     rw [hp0]
     exact this) (fun e he=>(hes.1 e he).imp id .inl) (hes.2.1 _ h'.zone.nums.1) hes.2.2.1 (by rw [hdc];exact hes.2.2.2.1) (fun e=>by cases e) (.inl (by rw [htg];simp only [phi];omega))
  ·obtain ⟨g',w',es,e1,e2,e3⟩:=hstep _ (RK.refl _)
   exact reads e1 (DQ.of0 e2) (by rw [htg,hdc];exact .w2 e3) (by omega) (by rw [htg];simp)
 | wr h1 =>
  rcases Goes.cases h1 with hstop | ⟨m',rfl,hstep⟩
  ·obtain ⟨_,g',e1,m',e2⟩:=hstop _ (RK.refl _)
   have hm3:Mode s.j s.p s.D .w3 st sm:=by
    rcases hm.w3s (by rw [htg];trivial) (tag':=.w3) trivial with ⟨_,k⟩ | ⟨rfl,rfl,k1,k2⟩
    ·exact k
    ·exact .sema (.inl rfl) k1 k2
   exact says e1 (.inr rfl) (by simp) (by simp) (by rw [htg];simp) (.w3 e2) hw hm3 (said (a:=stA X.N.Wg) (.inr (.inr ⟨_,rfl,rfl⟩))) (fun e he=>by rw [Array.mem_singleton] at he;subst he;exact h'.zone.nums.1) (fun e he=>by rw [Array.mem_singleton] at he;subst he;simp) (by rw [hdc];rfl) (fun e=>by cases e) (.inl (by rw [htg];simp only [phi];omega))
  ·obtain ⟨g',w',es,e1,e2,e3⟩:=hstep _ (RK.refl _)
   exact reads e1 (DQ.of0 e2) (by rw [htg,hdc];exact .wr e3) (by omega) (by rw [htg];simp)
 | w3 h1 =>
  rcases Goes.cases h1 with hstop | ⟨m',rfl,hstep⟩
  ·obtain ⟨_,hno,hb,hgo⟩:=hstop _ (RK.refl _)
   rcases hm.w3s (by rw [htg];trivial) (tag':=.blk) trivial with ⟨rfl,k⟩ | ⟨rfl,rfl,k1,k2⟩
   ·exact says (hb ⟨st,hw⟩) (.inr rfl) (by simp) (by simp) (by rw [htg];simp) (.blk hstop) hw k (by simp) (by simp) (by simp) (by rw [hdc];rfl) (fun e=>by cases e) (.inr ⟨by rw [htg];rfl,by omega⟩)
   ·obtain ⟨g',e1,m',e2⟩:=hgo hw
    have hes:=hes_cells (X:=X) (a:=smA X.N.Wg) rfl (.inr (.inr (.inr rfl)))
    exact says e1 (.inl ⟨_,_,rfl,rfl⟩) (by simp) (by simp) (by rw [htg];simp) (.w4 e2) (hw.setSm 0) (.fin trivial k1 k2) (fun e he=>(hes.1 e he).imp id .inl) (hes.2.1 _ h'.zone.nums.1) hes.2.2.1 (by rw [hdc];exact hes.2.2.2.1) (fun e=>by cases e) (.inl (by rw [htg];simp only [phi];omega))
  ·obtain ⟨g',w',es,e1,e2,e3⟩:=hstep _ (RK.refl _)
   exact reads e1 (DQ.of0 e2) (by rw [htg,hdc];exact .w3 e3) (by omega) (by rw [htg];simp)
 | blk h1=>cases hgr
 | w4 h1 =>
  rcases Goes.cases h1 with hstop | ⟨m',rfl,hstep⟩
  ·obtain ⟨rfl,rfl,k1,k2⟩:=hm.fins (by rw [htg];trivial)
   obtain ⟨_,hgo⟩:=hstop _ (RK.refl _)
   obtain ⟨g',e1,m',e2⟩:=hgo hw
   have hes:=hes_cells (X:=X) (a:=stA X.N.Wg) rfl (.inr (.inl rfl))
   exact says e1 (.inr rfl) (by simp) (by simp) (by rw [htg];simp) (.ke e2) hw (.fin trivial k1 k2) (fun e he=>(hes.1 e he).imp id .inl) (hes.2.1 _ h'.zone.nums.1) hes.2.2.1 (by rw [hdc];exact hes.2.2.2.1) (fun e=>by cases e) (.inl (by rw [htg];simp only [phi];omega))
  ·obtain ⟨g',w',es,e1,e2,e3⟩:=hstep _ (RK.refl _)
   exact reads e1 (DQ.of0 e2) (by rw [htg,hdc];exact .w4 e3) (by omega) (by rw [htg];simp)
 | ke h1 =>
  rcases Goes.cases h1 with hstop | ⟨m',rfl,hstep⟩
  ·obtain ⟨rfl,rfl,k1,k2⟩:=hm.fins (by rw [htg];trivial)
   obtain ⟨_,g',e1,m',e2⟩:=hstop _ (RK.refl _)
   exact says e1 (.inr rfl) (by simp) (by simp) (by rw [htg];simp) (.acq e2) hw (.fin trivial k1 k2) (said (a:=stA X.N.Wg) (.inl rfl)) (fun e he=>by rw [Array.mem_singleton] at he;subst he;trivial) (fun e he=>by rw [Array.mem_singleton] at he;subst he;simp [Go.ConcR.mk]) (by rw [hdc];rfl) (fun e=>by cases e) (.inl (by rw [htg];simp only [phi];omega))
  ·obtain ⟨g',w',es,e1,e2,e3⟩:=hstep _ (RK.refl _)
   exact reads e1 (DQ.of0 e2) (by rw [htg,hdc];exact .ke e3) (by omega) (by rw [htg];simp)
 | acq h1 =>
  rcases Goes.cases h1 with hstop | ⟨m',rfl,hstep⟩
  ·obtain ⟨rfl,rfl,k1,k2⟩:=hm.fins (by rw [htg];trivial)
   obtain ⟨_,g',e1,m',e2⟩:=hstop _ (RK.refl _)
   have e3:=Goes.bind RK.refl (S2:=AtClose X.P X.N) (m2:=X.mC) (fun g w k=>k) (Goes.monoD (fun _ _ _=>DQ.of0 (S:=X.Sc)) e2)
   have ht0:=new_op t (X.N.B+X.N.n) g0.frame.fn g0.frame.place #[Go.ConcR.mk (.acquire (stA X.N.Wg))] 0 _ rfl
   have hh0:=new_heard t (X.N.B+X.N.n) g0.frame.fn g0.frame.place #[Go.ConcR.mk (.acquire (stA X.N.Wg))] 0 _ rfl (by rw [hdf,hdc];rfl)
   rw [Nat.add_zero] at ht0 hh0
   exact says e1 (.inr rfl) (by simp) (by simp) (by rw [htg];simp) (.cl e3) hw (.fin trivial k1 k2) (said (a:=stA X.N.Wg) (.inl rfl)) (fun e he=>by rw [Array.mem_singleton] at he;subst he;exact h'.zone.nums.1) (fun e he=>by rw [Array.mem_singleton] at he;subst he;simp [Go.ConcR.mk]) (by rw [hdc];rfl)
    (fun _=>⟨t.size,by rw [act?_of ht0];rfl,by simp [Trace.g?,ht0],hh0,fun i hi=>by
     obtain ⟨r,hr⟩:=h'.rel i (by omega) (by rw [k2 i (by omega)];decide)
     refine ⟨r,hr.appNot fun op hop=>?_,lt_of_act? hr.rel.act⟩
     rw [(mem_ops hop).1];omega⟩) (.inl (by rw [htg];simp only [phi];omega))
  ·obtain ⟨g',w',es,e1,e2,e3⟩:=hstep _ (RK.refl _)
   exact reads e1 (DQ.of0 e2) (by rw [htg,hdc];exact .acq e3) (by omega) (by rw [htg];simp)
 | cl h1 =>
  rcases Goes.cases h1 with hstop | ⟨m',rfl,hstep⟩
  ·obtain ⟨rfl,rfl,k1,k2⟩:=hm.fins (by rw [htg];trivial)
   obtain ⟨_,hmw,hgo⟩:=hstop _ (RK.refl _)
   obtain ⟨g',e1,q,e2⟩:=hgo (by rw [h'.fin,htg];rfl)
   obtain ⟨qa,hqa⟩:=h'.acq htg
   have hno:∀ op∈MemOp.ofEvents (X.N.B+X.N.n) g0.frame.fn g0.frame.place #[⟨.obj X.N.CF,false,true⟩,⟨.obj X.N.CF,true,true⟩],op.g=X.N.B+X.N.n:=fun op hop=>(mem_ops hop).1
   have ht1:=new_op t (X.N.B+X.N.n) g0.frame.fn g0.frame.place #[⟨.obj X.N.CF,false,true⟩,⟨.obj X.N.CF,true,true⟩] 1 _ rfl
   have hh1:=new_heard t (X.N.B+X.N.n) g0.frame.fn g0.frame.place #[⟨.obj X.N.CF,false,true⟩,⟨.obj X.N.CF,true,true⟩] 1 _ rfl (by rw [hdf,hdc];simp [deafBehind])
   have hcls:Cls X (t++MemOp.ofEvents (X.N.B+X.N.n) g0.frame.fn g0.frame.place #[⟨.obj X.N.CF,false,true⟩,⟨.obj X.N.CF,true,true⟩]) qa (t.size+1):=by
    refine ⟨hqa.app fun i r hi hr=>hr.appNot fun op hop=>by rw [hno op hop];omega,by have:=lt_of_act? hqa.act;omega,by rw [act?_of ht1];rfl,by simp [Trace.g?,ht1],hh1,fun i op hi ho _=>?_⟩
    have:=lt_size_of_getElem? ho
    simp [ofEvents_eq] at this
    omega
   have hne:∀ {b:Nat},b≠X.N.CF→((w.at d).setChan X.N.CF 0 #[] true 0 0 false).heap[b]? = (w.at d).heap[b]?:=fun {b} hb=>by rw [setChan_get,if_neg (fun e=>hb e.1.symm)]
   obtain ⟨c1,c2⟩:=h'.cstep hX ht hg (tag':=.qt) (by simp) (.qt e2) hn (fun b _ hb=>hne hb) (by rw [setChan_get,if_pos ⟨rfl,h'.zone.nums.2.2⟩];rfl) (by simp [World.setChan]) rfl (st':=0) (sm':=0) (getWg hw (hne hX.nums.2.1)) (.fin trivial k1 k2)
    (es:=#[⟨.obj X.N.CF,false,true⟩,⟨.obj X.N.CF,true,true⟩]) (fun e he a ha hmm=>by
     simp at he
     rcases he with rfl | rfl
     ·simp [MemAct.ofEvent,MemAct.touch?] at ha
      subst ha
      exact .inl ⟨.inr (.inr rfl),by simp⟩
     ·simp [MemAct.ofEvent,MemAct.touch?] at ha) (fun e he=>by
     simp at he
     rcases he with rfl | rfl <;> exact h'.zone.nums.2.2) (fun e he=>by simp at he;rcases he with rfl | rfl <;> simp) (by rw [hdc];simp [deafBehind]) (fun e=>by cases e) (fun _=>.inr ⟨_,_,hcls⟩) (.inl (by rw [htg];simp only [phi];omega))
   exact ⟨_,_,_,_,_,_,e1,by simp,c1,c2,keep fun b _ hb=>hne hb,fun _ _=>⟨hmw,e2.status⟩⟩
  ·obtain ⟨g',w',es,e1,e2,e3⟩:=hstep _ (RK.refl _)
   exact reads e1 e2 (by rw [htg,hdc];exact .cl e3) (by omega) (by rw [htg];simp)
 | qt hq =>
  cases fc with
  | zero=>rw [hq.1] at hgr;cases hgr
  | succ q =>
   rcases hq with ⟨hf,_⟩ | ⟨_,g',es,hmu,hstp,hq'⟩
   ·rw [hf] at hgr;cases hgr
   ·obtain ⟨c1,c2⟩:=h'.cstep hX ht hg (tag':=.qt) (by simp) (.qt hq') hn (fun _ _ _=>rfl) (by rw [h'.fin,htg]) rfl rfl hw (by rw [htg] at hm;exact hm) (es:=es) (fun e he a ha hmm=>by rw [touch_mute (hmu e he)] at ha;cases ha) (fun e he=>low_mute (hmu e he) _)
     (fun e he=>by have:=hmu e he;intro k;obtain ⟨loc,wr,sy⟩:=e;simp only at k;subst k;cases this) (by rw [hdc]) (fun e=>by cases e) (fun _=>.inl ⟨htg,fun e he=>touch_mute (hmu e he)⟩) (.inr ⟨by rw [htg],by omega⟩)
    exact ⟨_,_,_,_,_,_,hstp _,by simp,c1,c2,fun _ _=>rfl,fun _ k=>absurd htg k⟩
theorem Crew.lturns (hX:X.Good) {sl:Option (Nat×Nat)} (h:Crew X s n gs w t) (hrun:runNT X.P n X.m0 X.t0=(.next (crowd gs w sl),t)) {i d:Nat} {sl':Option (Nat×Nat)} (hi0:0 < i) (hi:i < X.N.B) {g:Goroutine}
  (hg:gs[i]? = some g) (hgr:g.status=.running) (hpk:X.pk (crowd gs w sl)=(i,d,sl')) (h':Crew X s n gs (w.at d) t) :
  ∃ g' es s',stepG X.P false g (w.at d)=.go g' (w.at d) es∧Crew X s' (n+1) ((gs.map (woken X.P g g' (w.at d))).setIfInBounds i g') (w.at d) (t++MemOp.ofEvents i g.frame.fn g.frame.place es)∧Lt2 (meas X s') (meas X s)∧SameBut s s'∧s'.got=s.got∧s'.wait=s.wait∧s'.D=s.D:=by
 have hB:=hX.pos
 have hjn:=h.jn
 have hn:∀ i',i' < X.N.n→sums (segOf X.P X.pk (X.N.B+i') X.m0 X.t0) (n+1)=sums (segOf X.P X.pk (X.N.B+i') X.m0 X.t0) n:=fun i' hi'=>by
  have:=segOf_other (P:=X.P) (pk:=X.pk) (i0:=X.N.B+i') hrun (by rw [hpk];simp only;omega)
  simp [sums,this]
 have hq:=h'.lv i g hi0 hi hg
 have hlt:i < gs.size:=(Array.getElem?_eq_some_iff.1 hg).1
 cases hqi:s.q i with
 | zero=>rw [hqi] at hq;rw [hq.1] at hgr;cases hgr
 | succ k =>
  rw [hqi] at hq
  rcases hq with ⟨hf,_⟩ | ⟨_,g',es,hmu,hstp,hq'⟩
  ·rw [hf] at hgr;cases hgr
  have hn1:=h'.at hX d hn
  obtain ⟨st,sm,hw,hm⟩:=h'.wg
  obtain ⟨tag',fc',hcl,hfc,htag,hwk⟩:=h'.closer hX (w':=w.at d) (fun _ _=>rfl) ⟨_,_,hw⟩ g g'
  have hgi:∀ op∈MemOp.ofEvents i g.frame.fn g.frame.place es,op.g=i:=fun op hop=>(mem_ops hop).1
  have hno:∀ op∈MemOp.ofEvents i g.frame.fn g.frame.place es,op.act.touch? = none:=fun op hop=>by
   obtain ⟨_,e,he,ha⟩:=mem_ops hop
   rw [ha];exact touch_mute (hmu e he)
  have hDeaf:∀ k,k≠i→Deaf (t++MemOp.ofEvents i g.frame.fn g.frame.place es) k=Deaf t k:=fun k hk=>Deaf_other t (Ne.symm hk) _ hgi
  have sp:∀ x:Tg,tag'=.sp↔s.tag=.sp:=fun _=>tag_sp htag
  refine ⟨g',es,{ s with tag:=tag',fc:=fc',q:=upd s.q i k },hstp _,⟨?_,h'.jn,fun i' g1 h0 h1 h2=>?_,fun i' hi'=>?_,hn1.un,fun ht=>?_,by rw [hDeaf 0 (by omega)];exact h'.hear,fun j hj=>?_,⟨st,sm,hw,hm.retag htag⟩,h'.back,h'.nodup,h'.list,by rw [h'.fin,←tag_qt htag],?_,?_,?_,fun i' hi' hst=>?_,fun e=>?_,fun e=>?_,⟨h'.zone.lt,h'.zone.apart,h'.zone.shun,h'.zone.v,h'.zone.wv,h'.zone.sj,fun e=>h'.zone.sc (fun k=>e ((tag_sp htag).2 k)),h'.zone.nums,h'.zone.old⟩,h'.base⟩,?_,⟨rfl,rfl,rfl,rfl,rfl,htag,rfl,fun _ _ _=>rfl⟩,rfl,rfl,rfl⟩
  ·simp only [Array.size_setIfInBounds,Array.size_map]
   exact ⟨fun e=>h.size.1 ((tag_sp htag).1 e),fun e=>h.size.2 fun k=>e ((tag_sp htag).2 k)⟩
  ·by_cases e:i=i'
   ·subst e
    rw [get_map_set_same _ _ _ hlt] at h2
    obtain rfl:=Option.some.inj h2
    show QuitsD X.P (upd s.q i k i) _ _
    rw [upd_same,Deaf_own]
    exact hq'
   ·rw [get_map_set _ _ _ _ e] at h2
    obtain ⟨y,hy,rfl⟩:=Option.map_eq_some_iff.1 h2
    have hqj:=h'.lv i' y h0 h1 hy
    rw [woken_quitsD hqj,hDeaf i' (Ne.symm e)]
    show QuitsD X.P (upd s.q i k i') _ _
    rw [upd_ne s.q k (Ne.symm e)]
    exact hqj
  ·obtain ⟨g1,e1,e2,e3⟩:=hn1.wk i' hi'
   exact ⟨g1,by rw [get_map_set _ _ _ _ (by omega),e1,Option.map_some,e2.woken],e2,by rw [hDeaf _ (by omega)];exact e3⟩
  ·obtain ⟨a,k1,k2,k3⟩:=hcl fun k=>ht ((tag_sp htag).2 k)
   exact ⟨_,by rw [get_map_set _ _ _ _ (by omega),k1];rfl,k2,by rw [hDeaf _ (by omega)];exact k3⟩
  ·have hj':gs.size≤j:=by simpa using hj
   rw [hDeaf j (by omega)]
   exact h'.fresh j hj'
  ·have eK:KP X { s with tag:=tag',fc:=fc',q:=upd s.q i k }=KP X s:=by
    funext k;unfold KP;simp only [ne_eq,tag_sp htag]
   have ec:sayer X { s with tag:=tag',fc:=fc',q:=upd s.q i k }=sayer X s:=by
    unfold sayer
    rcases htag with e | ⟨e1,e2⟩
    ·simp only [e]
    ·simp only [e1,e2,isSp]
   have eO:OwnP X { s with tag:=tag',fc:=fc',q:=upd s.q i k }=OwnP X s:=rfl
   rw [eK,ec,eO]
   exact h'.tr.appMute hgi hno
  ·intro op hop
   rcases Array.mem_append.1 hop with k | k
   ·exact h'.low op k
   ·obtain ⟨_,e,he,ha⟩:=mem_ops k
    rw [ha];exact low_mute (hmu e he) _
  ·refine h'.norel.app fun op hop=>?_
   obtain ⟨_,e,he,ha⟩:=mem_ops hop
   rw [ha]
   exact ofEvent_norel fun k=>by have:=hmu e he;obtain ⟨loc,wr,sy⟩:=e;simp only at k;subst k;cases this
  ·obtain ⟨r,hr⟩:=h'.rel i' hi' hst
   exact ⟨r,hr.mutes hno⟩
  ·have:s.tag=.cl:=by
    rcases htag with k | ⟨_,k⟩
    ·exact k.symm.trans e
    ·rw [show tag'=Tg.cl from e] at k;cases k
   obtain ⟨q,hq⟩:=h'.acq this
   exact ⟨q,hq.app fun i' r _ hr=>hr.mutes hno⟩
  ·have:s.tag=.qt:=by
    rcases htag with k | ⟨_,k⟩
    ·exact k.symm.trans e
    ·rw [show tag'=Tg.qt from e] at k;cases k
   obtain ⟨q,p,hq⟩:=h'.cls this
   exact ⟨q,p,hq.app (fun i' r _ hr=>hr.mutes hno) fun op hop _=>hno op hop⟩
  ·unfold meas
   simp only
   rw [phi_retag X.N.n _ htag]
   refine Prod.Lex.right _ ?_
   have:=sumTo_upd s.q k id hi
   simp only [id,hqi] at this
   have e1:sumTo X.N.B (upd s.q i k)=sumTo X.N.B (fun a=>upd s.q i k a):=rfl
   have e2:sumTo X.N.B s.q=sumTo X.N.B (fun a=>s.q a):=rfl
   omega
end
end Go.Proofs.YtjnkcibpkkjniaaGreat.Pool
namespace Go.Proofs.YtjnkcibpkkjniaaGreat.Pool
open Go.Conc Go.ConcN Go.Proofs.YtjnkcibpkkjniaaGreat.Sim
open Go.ConcR (KK wgBlock WgAt stA smA rd wr DC0)
variable [Scope]
section
variable {X:Ctx} {s:St} {n:Nat} {gs:Array Goroutine} {w:World} {sl:Option (Nat×Nat)} {t:Trace} {a:Goroutine}
def cases2 (X:Ctx) (z1 z2:Value):Array CommCase:=#[rcase X.N.CB z1,rcase X.N.CF z2]
inductive MSt (X:Ctx) (s:St) (a:Goroutine):Prop
 | run:a.status=.running→MSt X s a
 | park (gm:Goroutine) (z1 z2:Value):a=parked gm (cases2 X z1 z2) .select→s.wait=[]→s.tag≠.qt→s.tag≠.sp→MSt X s a
structure Now (X:Ctx) (s:St) (n:Nat) (gs:Array Goroutine) (w:World) (sl:Option (Nat×Nat)) (t:Trace) (a:Goroutine):Prop where
 run:runNT X.P n X.m0 X.t0=(.next (crowd gs w sl),t)
 crew:Crew X s n gs w t
 main:gs[0]? = some a
structure Same0 (s s':St):Prop where
 j:s'.j=s.j
 p:s'.p=s.p
 d0:s'.d0=s.d0
 V:s'.V=s.V
 W:s'.W=s.W
 sp:s'.tag=.sp↔s.tag=.sp
 val:∀ i,i < s.j→(s.D i).stage≤7→(s'.D i).v=(s.D i).v
theorem SameBut.to0 {s s':St} (h:SameBut s s'):Same0 s s':=⟨h.1,h.2.1,h.2.2.1,h.2.2.2.1,h.2.2.2.2.1,tag_sp h.2.2.2.2.2.1,h.2.2.2.2.2.2.2⟩
theorem Same0.refl (s:St):Same0 s s:=⟨rfl,rfl,rfl,rfl,rfl,Iff.rfl,fun _ _ _=>rfl⟩
inductive MRel (X:Ctx) (s s':St) (a a':Goroutine):Prop
 | same:a'=a→s'.got=s.got→MRel X s s' a a'
 | served (i:Nat) (gm:Goroutine) (z1 z2:Value):a=parked gm (cases2 X z1 z2) .select→a'=gm.finishComm X.P (cases2 X z1 z2) .select 0 ((X.J i).msg (s'.D i).v) true→s'.got=s.got++[i]→s'.wait=[]→i < s.j→MRel X s s' a a'
 | woken (gm:Goroutine) (z1 z2:Value):a=parked gm (cases2 X z1 z2) .select→a'={ a with status:=.running }→s'.got=s.got→MRel X s s' a a'
theorem woken_main {X:Ctx} {s:St} (hm:MSt X s a) {w':World} (hB:∃ cap buf x y,w'.heap[X.N.CB]? = some (.chan cap buf false x y false)) (hF:∃ cap buf x y,w'.heap[X.N.CF]? = some (.chan cap buf false x y false)) (g g':Goroutine):woken X.P g g' w' a=a:=by
 cases hm with
 | run h=>exact woken_run h
 | park gm z1 z2 e _ _ _ =>
  subst e
  unfold Go.Conc.woken
  split
  ·refine again_all_open fun cc hcc=>?_
   obtain ⟨cap,buf,x,y,hB⟩:=hB
   obtain ⟨cap',buf',x',y',hF⟩:=hF
   simp [cases2] at hcc
   rcases hcc with rfl | rfl
   ·exact ⟨_,_,_,_,_,_,_,rfl,hB⟩
   ·exact ⟨_,_,_,_,_,_,_,rfl,hF⟩
  ·rfl
theorem isQt_false {x:Tg} (h:x≠.qt):isQt x=false:=by cases x <;> first | rfl | exact absurd rfl h
theorem Crew.open_ (h:Crew X s n gs w t) (ht:s.tag≠.qt):(∃ cap buf x y,w.heap[X.N.CB]? = some (.chan cap buf false x y false))∧(∃ cap buf x y,w.heap[X.N.CF]? = some (.chan cap buf false x y false)) :=
 ⟨⟨_,_,_,_,h.back⟩,by have:=h.fin;rw [isQt_false ht] at this;exact ⟨_,_,_,_,this⟩⟩
theorem Now.awakes (hX:X.Good) (h:Now X s n gs w sl t a) (hm:MSt X s a):(∀ g∈gs,awake g)∧∃ (i:Nat) (g:Goroutine),gs[i]? = some g∧g.status=.running:=by
 have hc:=h.crew
 have hjn:=hc.jn
 have hB:=hX.pos
 refine ⟨fun g hg=>?_,?_⟩
 ·obtain ⟨i,hi,rfl⟩:=Array.mem_iff_getElem.1 hg
  have hgi:=Array.getElem?_eq_getElem hi
  rcases Nat.eq_zero_or_pos i with rfl | hpos
  ·rw [h.main] at hgi
   obtain rfl:=Option.some.inj hgi
   cases hm with
   | run h=>exact awake_of (.inl h)
   | park gm z1 z2 e _ _ _=>rw [e];exact awake_of (.inr (.inl rfl))
  ·rcases Nat.lt_or_ge i X.N.B with hlt | hge
   ·exact awake_of ((hc.lv i _ hpos hlt hgi).status.elim .inl fun x=>.inr (.inr x))
   ·by_cases hlj:i < X.N.B+s.j
    ·obtain ⟨g,e1,e2,_⟩:=hc.wk (i - X.N.B) (by omega)
     rw [show X.N.B+(i - X.N.B)=i by omega,hgi] at e1
     obtain rfl:=Option.some.inj e1
     exact awake_of (e2.status.elim .inl fun x=>.inr (.inr x))
    ·have ht:s.tag≠.sp:=fun e=>by have:=hc.size.1 e;omega
     obtain ⟨hsz,hj,_⟩:=hc.size.2 ht
     obtain ⟨g,e1,e2,_⟩:=hc.cl ht
     have:i=X.N.B+X.N.n:=by omega
     subst this
     rw [hgi] at e1
     obtain rfl:=Option.some.inj e1
     exact awake_of ((e2.status hX.anchR).elim (fun x=>.inl x.1) fun x=>x.elim (fun x=>.inr (.inl x.1)) fun x=>.inr (.inr x.1))
 ·cases hm with
  | run hr=>exact ⟨0,a,h.main,hr⟩
  | park gm z1 z2 _ _ hq hsp =>
   obtain ⟨g,e1,e2,_⟩:=hc.cl hsp
   rcases e2.status hX.anchR with ⟨k,_⟩ | ⟨_,k⟩ | ⟨_,k⟩
   ·exact ⟨_,g,e1,k⟩
   ·obtain ⟨st,sm,_,hmode⟩:=hc.wg
    rw [k] at hmode
    have some_run:∀ i,i < s.j→(s.D i).stage≠1→∃ (i:Nat) (g:Goroutine),gs[i]? = some g∧g.status=.running:=fun i hi hs=>by
     obtain ⟨g,e1,e2,_⟩:=hc.wk i hi
     exact ⟨_,g,e1,e2.runs hs⟩
    cases hmode with
    | opn h1=>exact h1.elim
    | reg _ _ h2 h3 =>
     refine Classical.byContradiction fun hno=>?_
     have:AllQuit s.j s.D:=fun i hi=>Classical.byContradiction fun hne=>hno (some_run i hi hne)
     rw [Vc_quit this] at h3
     omega
    | last L _ _ h2 h3 _=>exact some_run L h2 (by omega)
    | sema h1=>rcases h1 with h1 | h1 <;> cases h1
    | fin h1=>exact h1.elim
   ·exact absurd k hq
theorem Crew.offers (hX:X.Good) (h:Crew X s n gs w t) {i k:Nat} {g:Goroutine} (hk:k≠0) (hg:(gs.setIfInBounds i ph)[k]? = some g) (r:Nat) (b:Bool):offersAt g r b=[]:=by
 rcases getElem?_stand gs i k g hg with ⟨_,rfl⟩ | ⟨_,hgk⟩
 ·exact offersAt_ph r b
 have hjn:=h.jn
 have hB:=hX.pos
 have hlt:k < gs.size:=(Array.getElem?_eq_some_iff.1 hgk).1
 have nb:∀ {x:Goroutine},x.status=.running∨x.status=.finished→offersAt x r b=[]:=fun hs=>offersAt_of_not_blocked (by rcases hs with e | e <;> rw [e] <;> simp) r b
 rcases Nat.lt_or_ge k X.N.B with hl | hge
 ·exact nb (h.lv k g (by omega) hl hgk).status
 ·by_cases hlj:k < X.N.B+s.j
  ·obtain ⟨g',e1,e2,_⟩:=h.wk (k - X.N.B) (by omega)
   rw [show X.N.B+(k - X.N.B)=k by omega,hgk] at e1
   obtain rfl:=Option.some.inj e1
   exact nb e2.status
  ·have ht:s.tag≠.sp:=fun e=>by have:=h.size.1 e;omega
   obtain ⟨hsz,hj,_⟩:=h.size.2 ht
   obtain ⟨g',e1,e2,_⟩:=h.cl ht
   have:k=X.N.B+X.N.n:=by omega
   subst this
   rw [hgk] at e1
   obtain rfl:=Option.some.inj e1
   rcases e2.status hX.anchR with ⟨k,_⟩ | ⟨_,k⟩ | ⟨k,_⟩
   ·exact nb (.inl k)
   ·rw [k] at e2
    generalize s.fc=fc,s.dc=dc at e2
    cases e2 with
    | blk hb =>
     have:=(hb w (RK.refl w)).2.1
     simp [offersAt,this]
   ·exact nb (.inr k)
theorem Now.env [Zeros X.P] [Codes X.P] (hX:X.Good) (h:Now X s n gs w sl t a) (hm:MSt X s a) :
  (∃ d sl',a.status=.running∧stepT X.P (crowd gs w sl)=runT X.P (crowd gs (w.at d) sl') 0∧Crew X s n gs (w.at d) t∧∀ i,i < X.N.n→sums (segOf X.P X.pk (X.N.B+i) X.m0 X.t0) (n+1)=sums (segOf X.P X.pk (X.N.B+i) X.m0 X.t0) n) ∨
  ∃ s' gs' w' sl' t' a',Now X s' (n+1) gs' w' sl' t' a'∧Lt2 (meas X s') (meas X s)∧Same0 s s'∧(∀ b,s.V b→w'.heap[b]? = w.heap[b]?)∧MRel X s s' a a'∧MSt X s' a':=by
 obtain ⟨haw,hsome⟩:=h.awakes hX hm
 obtain ⟨x,hx,hxr,hst⟩:=hX.pks gs w sl haw hsome
 have hrun:=h.run
 have hc:=h.crew
 have hB:=hX.pos
 have hjn:=hc.jn
 generalize hpk:X.pk (crowd gs w sl)=y at hx hst
 obtain ⟨i,d,sl'⟩:=y
 simp only at hx hst
 have hcd:=hc.at hX d (n':=n) (fun _ _=>rfl)
 rcases Nat.eq_zero_or_pos i with rfl | hpos
 ·refine .inl ⟨d,sl',?_,hst,hcd,fun i' hi'=>?_⟩
  ·rw [h.main] at hx;exact (Option.some.inj hx)▸hxr
  ·have:=segOf_other (P:=X.P) (pk:=X.pk) (i0:=X.N.B+i') hrun (by rw [hpk];simp only;omega)
   simp [sums,this]
 refine .inr ?_
 have hi0:(i == 0)=false:=by simp;omega
 have hltx:i < gs.size:=(Array.getElem?_eq_some_iff.1 hx).1
 have goes:∀ {g':Goroutine} {w':World} {es:Array Event} {s':St},stepG X.P false x (w.at d)=.go g' w' es→Crew X s' (n+1) ((gs.map (woken X.P x g' w')).setIfInBounds i g') w' (t++MemOp.ofEvents i x.frame.fn x.frame.place es)→Lt2 (meas X s') (meas X s)→Same0 s s'→s'.got=s.got→s'.wait=s.wait→(s.tag≠.qt→s'.tag≠.qt)→(∀ b,s.V b→w'.heap[b]? = w.heap[b]?) →
   ∃ s' gs' w' sl' t' a',Now X s' (n+1) gs' w' sl' t' a'∧Lt2 (meas X s') (meas X s)∧Same0 s s'∧(∀ b,s.V b→w'.heap[b]? = w.heap[b]?)∧MRel X s s' a a'∧MSt X s' a':=by
  intro g' w' es s' e1 e2 e3 e4 e5 e6 e7 e8
  have hrunT:=runT_crowd_go (P:=X.P) (sl:=sl') (i:=i) hx (by rw [hi0];exact e1)
  have ha:woken X.P x g' w' a=a:=by
   cases hm with
   | run hr=>exact woken_run hr
   | park gm z1 z2 k1 k2 k3 k4 =>
    have:=e2.open_ (e7 k3)
    exact woken_main (.park gm z1 z2 k1 k2 k3 k4) this.1 this.2 x g'
  refine ⟨s',_,w',sl',_,a,⟨run_next hrun (hst.trans hrunT),e2,by rw [get_map_set _ _ _ _ (by omega),h.main,Option.map_some,ha]⟩,e3,e4,e8, .same rfl e5,?_⟩
  cases hm with
  | run hr=>exact .run hr
  | park gm z1 z2 k1 k2 k3 k4=>exact .park gm z1 z2 k1 (e6.trans k2) (e7 k3) fun k=>k4 (e4.sp.1 k)
 have nqt:∀ {s':St},SameBut s s'→s.tag≠.qt→s'.tag≠.qt:=fun hs k k'=>by
  rcases hs.2.2.2.2.2.1 with e | ⟨_,e⟩
  ·exact k (e.symm.trans k')
  ·rw [k'] at e;cases e
 rcases Nat.lt_or_ge i X.N.B with hlB | hgeB
 ·obtain ⟨g',es,s',e1,e2,e3,e4,e5,e6,e7⟩:=hc.lturns hX hrun hpos hlB hx hxr hpk hcd
  exact goes e1 e2 e3 e4.to0 e5 e6 (nqt e4) fun _ _=>rfl
 by_cases hlj:i < X.N.B+s.j
 ·obtain ⟨i',rfl⟩:∃ i',i=X.N.B+i':=⟨i - X.N.B,by omega⟩
  have hi':i' < s.j:=by omega
  rcases hc.turns hX hrun hi' hx hxr hpk hcd with ⟨v',h8,hv,⟨_,hsend,m,hgo⟩,_⟩ | ⟨g',w',es,s',e1,e2,e3,e4,e5,e6,e7⟩
  ·
   have hn:∀ i2,i2 < X.N.n→i2≠i'→sums (segOf X.P X.pk (X.N.B+i2) X.m0 X.t0) (n+1)=sums (segOf X.P X.pk (X.N.B+i2) X.m0 X.t0) n:=fun i2 _ hne=>by
    have:=segOf_other (P:=X.P) (pk:=X.pk) (i0:=X.N.B+i2) hrun (by rw [hpk];simp only;omega)
    simp [sums,this]
   obtain ⟨g0,hg0,hs0,_⟩:=hcd.wk i' hi'
   have hdone:Done (X.J i') (s.D i').ρ (s.D i').v (w.at d):=hs0.done (by omega)
   have hnotin:i' ∉ s.got++s.wait:=fun k=>by have:=((hc.list i').1 k).2;omega
   have hroom:s.got.length+s.wait.length < X.N.n:=by
    have:(s.got++s.wait++[i']).length≤(List.range X.N.n).length:=by
     refine List.Nodup.length_le_of_subset ?_ fun k hk=>?_
     ·rw [List.nodup_append]
      exact ⟨hc.nodup,by simp,fun a ha b hb e=>by simp at hb;subst hb;subst e;exact hnotin ha⟩
     ·rw [List.mem_range]
      rcases List.mem_append.1 hk with hk | hk
      ·have:=((hc.list k).1 hk).1;omega
      ·simp at hk;omega
    simp at this
    omega
   have hrely:∀ {w':World},(∀ b,b≠X.N.CB→w'.heap[b]? = w.heap[b]?)→RK X.N.ty X.N.Wg (X.J i').S (w.at d) w':=fun e=>⟨fun b hb=>e b (hc.zone.v b (hc.zone.sj i' hi' b hb).1).2.2.1,fun ⟨a,b,k⟩=>⟨a,b,getWg k (e _ hX.nums.1)⟩⟩
   have hLv:∀ {w':World},(∀ b,b≠X.N.CB→w'.heap[b]? = w.heap[b]?)→Leaves (s.D i').ρ (w.at d) w':=fun e=>Leaves.block fun b p hb=>e _ (hc.zone.lt i' (by omega) b p hb).2.2.2.1
   have heap:∀ (cap:Nat) (buf:Array Value) (x y:Nat),∀ b,b≠X.N.CB→((w.at d).setChan X.N.CB cap buf false x y false).heap[b]? = w.heap[b]?:=fun cap buf x y b hb=>by rw [setChan_get,if_neg (fun e=>hb e.1.symm)];rfl
   have hsendT:∀ z1 z2 gm,s.wait=[]→a=parked gm (cases2 X z1 z2) .select→s.tag≠.qt→s.tag≠.sp→∃ s' gs' w' sl' t' a',Now X s' (n+1) gs' w' sl' t' a'∧Lt2 (meas X s') (meas X s)∧Same0 s s'∧(∀ b,s.V b→w'.heap[b]? = w.heap[b]?)∧MRel X s s' a a'∧MSt X s' a':=by
    intro z1 z2 gm hw0 ea k3 k4
    have hback:=hcd.back
    rw [hw0] at hback
    have hp:partners (gs.setIfInBounds (X.N.B+i') ph) X.N.CB false=[(0,0)]:=by
     have hst0:(gs.setIfInBounds (X.N.B+i') ph)[0]? = some a:=by rw [Array.getElem?_setIfInBounds_ne (by omega)];exact h.main
     rw [partners_one hst0 fun k g hk hg=>hc.offers hX hk hg _ _,ea,offersAt_parked_at (k:=0) (z:=z1) rfl (fun m cc hm hcc=>by
      match m,hm,hcc with
      | 0,hm,_=>exact absurd rfl hm
      | 1,_,hcc =>
       simp [cases2] at hcc
       subst hcc
       simp only [rcase]
       intro e
       have:=hX.nums.2.2
       exact this (by injection e with e;injection e with e;exact e.symm)
      | m+2,_,hcc=>simp [cases2] at hcc)]
     rfl
    have hT:=crowd_send_meets_sel (P:=X.P) (sl:=sl') hx (by rw [hi0];exact hsend) hback (j:=0) (k:=0) (by omega) (by rw [h.main,ea]) (zj:=z1) rfl hp
    have hbuf:((s.got++[i']).length+([]:List Nat).length)=s.got.length+([]:List Nat).length+1:=by simp
    obtain ⟨s',k⟩:=hc.sent hX hi' h8 (gs':=(gs.setIfInBounds 0 (gm.finishComm X.P (cases2 X z1 z2) .select (0:Nat) ((X.J i').msg v') true)).setIfInBounds (X.N.B+i') (x.finishComm X.P #[scase X.N.CB ((X.J i').msg v') X.N.z] .send 0 undef false)) (m:=m) (by simp)
     (g':=x.finishComm X.P #[scase X.N.CB ((X.J i').msg v') X.N.z] .send 0 undef false) (by rw [Array.getElem?_setIfInBounds_self_of_lt (by simpa using hltx)]) (fun k hk h0=>by rw [Array.getElem?_setIfInBounds_ne (Ne.symm hk),Array.getElem?_setIfInBounds_ne (by omega)])
     (w':=(w.at d).setChan X.N.CB X.N.n (([]:List Nat).map fun i=>(X.J i).msg (s.D i).v).toArray false (s.got.length+([]:List Nat).length+1) (s.got.length+1) false)
     (.r0 (Goes.rely RK.trans hgo (hrely (heap _ _ _ _))) (hdone.leaves hX.sync (hLv (heap _ _ _ _)) rfl)) hn (got':=s.got++[i']) (wait':=[]) (by rw [hw0];simp) (d:=d) (by simp)
     (u:=MemOp.ofEvents (X.N.B+i') x.frame.fn x.frame.place #[]++#[{ g:=X.N.B+i',fn:=x.frame.fn,pos:=x.frame.place,act:=.send X.N.CB (s.got.length+([]:List Nat).length) },{ g:=0,fn:=gm.frame.fn,pos:=gm.frame.place,act:=.recv X.N.CB s.got.length X.N.n },{ g:=X.N.B+i',fn:=x.frame.fn,pos:=x.frame.place,act:=.sendDone X.N.CB (s.got.length+([]:List Nat).length) },{ g:=0,fn:=gm.frame.fn,pos:=gm.frame.place,act:=.recvDone X.N.CB s.got.length }])
     ⟨fun op hop=>by simp [ofEvents_eq] at hop;rcases hop with rfl | rfl | rfl | rfl <;> rfl,fun op hop=>by simp [ofEvents_eq] at hop;rcases hop with rfl | rfl | rfl | rfl <;> exact hc.zone.nums.2.1,fun op hop=>by simp [ofEvents_eq] at hop;rcases hop with rfl | rfl | rfl | rfl <;> simp,fun op hop=>by simp [ofEvents_eq] at hop;rcases hop with rfl | rfl | rfl | rfl <;> simp,fun op hop=>by simp [ofEvents_eq] at hop;rcases hop with rfl | rfl | rfl | rfl <;> simp⟩
    obtain ⟨c1,c2,c3,c4,c5,c6,c7⟩:=k
    refine ⟨s',_,_,sl',_,gm.finishComm X.P (cases2 X z1 z2) .select (0:Nat) ((X.J i').msg v') true,⟨run_next hrun (hst.trans hT),?_,?_⟩,c2,c3.to0,fun b hb=>heap _ _ _ _ b (hc.zone.v b hb).2.2.1, .served i' gm z1 z2 ea ?_ c4 c5 hi', .run rfl⟩
    ·exact c1
    ·rw [Array.getElem?_setIfInBounds_ne (by omega),Array.getElem?_setIfInBounds_self_of_lt (by omega)]
    ·rw [c6,hv];rfl
   cases hm with
   | park gm z1 z2 k1 k2 k3 k4=>exact hsendT z1 z2 gm k2 k1 k3 k4
   | run hr =>
    have hp:partners (gs.setIfInBounds (X.N.B+i') ph) X.N.CB false=[]:=partners_nil fun k g hg=>by
     by_cases hk:k=0
     ·subst hk
      rw [Array.getElem?_setIfInBounds_ne (by omega),h.main] at hg
      obtain rfl:=Option.some.inj hg
      exact offersAt_of_not_blocked (by rw [hr];simp) _ _
     ·exact hc.offers hX hk hg _ _
    have hT:=crowd_send_room (P:=X.P) (sl:=sl') hx (by rw [hi0];exact hsend) hcd.back (by simp;omega) hp
    obtain ⟨s',k⟩:=hc.sent hX hi' h8 (gs':=gs.setIfInBounds (X.N.B+i') (x.finishComm X.P #[scase X.N.CB ((X.J i').msg v') X.N.z] .send 0 undef false)) (m:=m) (by simp)
     (g':=x.finishComm X.P #[scase X.N.CB ((X.J i').msg v') X.N.z] .send 0 undef false) (by rw [Array.getElem?_setIfInBounds_self_of_lt hltx]) (fun k hk h0=>by rw [Array.getElem?_setIfInBounds_ne (Ne.symm hk)])
     (w':=(w.at d).setChan X.N.CB X.N.n ((s.wait.map fun i=>(X.J i).msg (s.D i).v).toArray.push ((X.J i').msg v')) false (s.got.length+s.wait.length+1) s.got.length false)
     (.r0 (Goes.rely RK.trans hgo (hrely (heap _ _ _ _))) (hdone.leaves hX.sync (hLv (heap _ _ _ _)) rfl)) hn (got':=s.got) (wait':=s.wait++[i']) (by simp) (d:=d) (by rw [←hv];simp [Nat.add_assoc])
     (u:=MemOp.ofEvents (X.N.B+i') x.frame.fn x.frame.place #[]++#[{ g:=X.N.B+i',fn:=x.frame.fn,pos:=x.frame.place,act:=.send X.N.CB (s.got.length+s.wait.length) },{ g:=X.N.B+i',fn:=x.frame.fn,pos:=x.frame.place,act:=.sendDone X.N.CB (s.got.length+s.wait.length) }])
     ⟨fun op hop=>by simp [ofEvents_eq] at hop;rcases hop with rfl | rfl <;> rfl,fun op hop=>by simp [ofEvents_eq] at hop;rcases hop with rfl | rfl <;> exact hc.zone.nums.2.1,fun op hop=>by simp [ofEvents_eq] at hop;rcases hop with rfl | rfl <;> simp,fun op hop=>by simp [ofEvents_eq] at hop;rcases hop with rfl | rfl <;> simp,fun op hop=>by simp [ofEvents_eq] at hop;rcases hop with rfl | rfl <;> simp⟩
    obtain ⟨c1,c2,c3,c4,c5,c6,c7⟩:=k
    exact ⟨s',_,_,sl',_,a,⟨run_next hrun (hst.trans hT),c1,by rw [Array.getElem?_setIfInBounds_ne (by omega)];exact h.main⟩,c2,c3.to0,fun b hb=>heap _ _ _ _ b (hc.zone.v b hb).2.2.1, .same rfl c4, .run hr⟩
  ·exact goes e1 e2 e3 e4.to0 e5 e6 (nqt e4) e7
 ·have ht:s.tag≠.sp:=fun e=>by have:=hc.size.1 e;omega
  obtain ⟨hsz,hj,_⟩:=hc.size.2 ht
  obtain rfl:i=X.N.B+X.N.n:=by omega
  obtain ⟨g',w',es,tag',fc',dc',e1,e2,e3,e4,e5,e6⟩:=hc.cturns hX hrun ht hx hxr hpk hcd
  have h0:Same0 s { s with tag:=tag',fc:=fc',dc:=dc' }:=⟨rfl,rfl,rfl,rfl,rfl,⟨fun k=>absurd k e2,fun k=>absurd k ht⟩,fun _ _ _=>rfl⟩
  by_cases hq:tag'=.qt∧s.tag≠.qt
  ·obtain ⟨hmw,hst'⟩:=e6 hq.1 hq.2
   have hrunT:=runT_crowd_go (P:=X.P) (sl:=sl') (i:=X.N.B+X.N.n) hx (by rw [hi0];exact e1)
   have hfin:=e3.fin
   simp only [hq.1,isQt] at hfin
   cases hm with
   | run hr=>exact ⟨_,_,w',sl',_,a,⟨run_next hrun (hst.trans hrunT),e3,by rw [get_map_set _ _ _ _ (by omega),h.main,Option.map_some,woken_run hr]⟩,e4,h0,e5, .same rfl rfl, .run hr⟩
   | park gm z1 z2 k1 k2 k3 k4 =>
    have ha:woken X.P x g' w' a={ a with status:=.running }:=by
     unfold Go.Conc.woken
     rw [if_pos (by rcases hst' with e | e <;> simp [hmw,e]),k1]
     exact again_some_closed (k:=1) (z:=z2) rfl hfin
    exact ⟨_,_,w',sl',_,{ a with status:=.running },⟨run_next hrun (hst.trans hrunT),e3,by rw [get_map_set _ _ _ _ (by omega),h.main,Option.map_some,ha]⟩,e4,h0,e5, .woken gm z1 z2 k1 rfl rfl, .run rfl⟩
  ·exact goes e1 e3 e4 h0 rfl rfl (fun k k'=>hq ⟨k',k⟩) e5
end
end Go.Proofs.YtjnkcibpkkjniaaGreat.Pool
namespace Go.Proofs.YtjnkcibpkkjniaaGreat.Pool
open Go.Conc Go.ConcN Go.Proofs.YtjnkcibpkkjniaaGreat.Sim
open Go.ConcR (KK wgBlock WgAt stA smA rd wr DC0)
variable [Scope]
section
variable {X:Ctx} {s:St} {n:Nat} {gs:Array Goroutine} {w w':World} {sl:Option (Nat×Nat)} {t:Trace} {a a':Goroutine}
def Ev0 (X:Ctx) (s:St) (B:Nat) (e:Event):Prop :=
 ∀ x,(MemAct.ofEvent e).touch? = some x→x.loc.isMemory=true→(ShP X.N x.loc∧x.kind≠.plain∧(x.kind=.said→s.tag=.sp))∨(∃ b,InBlock b x.loc∧(s.V b∨B≤b)∧(x.write=true→s.W b∨B≤b))
theorem sayer_sp (h:s.tag=.sp):sayer X s=0:=by unfold sayer;rw [h];rfl
theorem Crew.mstep (hX:X.Good) (h:Crew X s n gs w t) {es:Array Event} (hm:gs[0]? = some a)
  (hn:∀ i,i < X.N.n→sums (segOf X.P X.pk (X.N.B+i) X.m0 X.t0) (n+1)=sums (segOf X.P X.pk (X.N.B+i) X.m0 X.t0) n)
  (hsz:w.heap.size≤w'.heap.size) (hos:w'.os=w.os) (hheap:∀ b,b < w.heap.size→b≠X.N.Wg→¬ s.W b→w'.heap[b]? = w.heap[b]?)
  {st' sm':Int} {p' d0':Nat} (hp:s.j+p'≤X.N.n) (hp':s.tag≠.sp→p'=0) (hwg:WgAt X.N.ty X.N.Wg w' st' sm') (hmode:∀ tag',(tag'=s.tag∨(s.tag=.blk∧tag'=.w3))→Mode s.j p' s.D tag' st' sm')
  (hok:∀ e∈es,Ev0 X s w.heap.size e) (hlow:∀ e∈es,(MemAct.ofEvent e).low w'.heap.size) (hnr:∀ e∈es,e.loc≠.mark (.release (stA X.N.Wg))) (hdeaf:deafBehind s.d0 es=d0') :
  ∃ tag' fc',(tag'=s.tag∨(s.tag=.blk∧tag'=.w3))∧Crew X { s with p:=p',d0:=d0',tag:=tag',fc:=fc',V:=fun b=>s.V b∨(w.heap.size≤b∧b < w'.heap.size),W:=fun b=>s.W b∨(w.heap.size≤b∧b < w'.heap.size) } (n+1) ((gs.map (woken X.P a a' w')).setIfInBounds 0 a') w' (t++MemOp.ofEvents 0 a.frame.fn a.frame.place es):=by
 have hB:=hX.pos
 have hjn:=h.jn
 have hz:=h.zone
 have hlt0:0 < gs.size:=(Array.getElem?_eq_some_iff.1 hm).1
 have hgi:∀ op∈MemOp.ofEvents 0 a.frame.fn a.frame.place es,op.g=0:=fun op hop=>(mem_ops hop).1
 have hDeaf:∀ k,k≠0→Deaf (t++MemOp.ofEvents 0 a.frame.fn a.frame.place es) k=Deaf t k:=fun k hk=>Deaf_other t (Ne.symm hk) _ hgi
 have off:∀ b,b < w.heap.size→b≠X.N.Wg→(s.V b→¬ s.W b)→w'.heap[b]? = w.heap[b]?:=fun b h1 h2 h3=>hheap b h1 h2 fun k=>h3 (hz.wv b k) k
 have hCB:w'.heap[X.N.CB]? = w.heap[X.N.CB]?:=off _ hz.nums.2.1 (Ne.symm hX.nums.1) fun k=>absurd rfl (hz.v _ k).2.2.1
 have hCF:w'.heap[X.N.CF]? = w.heap[X.N.CF]?:=off _ hz.nums.2.2 (Ne.symm hX.nums.2.1) fun k=>absurd rfl (hz.v _ k).2.2.2.1
 have hlive:WgLive X.N.ty X.N.Wg w':=⟨_,_,hwg⟩
 have hLv:∀ i,i < X.N.n→Leaves (s.D i).ρ w w':=fun i hi=>Leaves.block fun b p hb=>by
  have:=hz.lt i hi b p hb
  exact off _ this.1 this.2.2.1 fun k=>absurd k this.2.1
 have hcl:∃ tag' fc',(s.tag≠.sp→∃ c,gs[X.N.B+X.N.n]? = some c∧CSit X.P X.N X.Sc X.Anch X.mC tag' fc' s.dc (woken X.P a a' w' c) w'∧Deaf t (X.N.B+X.N.n)=s.dc)∧(tag'=s.tag∨(s.tag=.blk∧tag'=.w3)):=by
  by_cases ht:s.tag=.sp
  ·exact ⟨s.tag,s.fc,fun e=>absurd ht e, .inl rfl⟩
  ·obtain ⟨c,h1,h2,h3⟩:=h.cl ht
   obtain ⟨tag',f',k1,k2,k3,k4⟩:=h2.wokenBy hX.anchR ⟨fun b hb=>off b (hz.v b (hz.sc ht b hb).1).1 (hz.v b (hz.sc ht b hb).1).2.1 fun _=>(hz.sc ht b hb).2,fun _=>hlive⟩ a a'
   exact ⟨tag',f',fun _=>⟨c,h1,k1,h3⟩,k3⟩
 obtain ⟨tag',fc',hcl,htag⟩:=hcl
 have hsp:=tag_sp htag
 refine ⟨tag',fc',htag,⟨?_,hp,fun i g1 h0 h1 h2=>?_,fun i hi=>?_,fun i h1 h2=>?_,fun ht=>?_,by rw [Deaf_own,h.hear,hdeaf],fun j hj=>?_,⟨st',sm',hwg,hmode tag' htag⟩,by rw [hCB];exact h.back,h.nodup,h.list,by rw [hCF,h.fin,←tag_qt htag],?_,?_,?_,fun i hi hst=>?_,fun ht=>?_,fun ht=>?_,?_,Nat.le_trans h.base hsz⟩⟩
 ·simp only [Array.size_setIfInBounds,Array.size_map]
  exact ⟨fun e=>h.size.1 (hsp.1 e),fun e=>⟨(h.size.2 fun k=>e (hsp.2 k)).1,(h.size.2 fun k=>e (hsp.2 k)).2.1,hp' fun k=>e (hsp.2 k)⟩⟩
 ·rw [get_map_set _ _ _ _ (by omega)] at h2
  obtain ⟨y,hy,rfl⟩:=Option.map_eq_some_iff.1 h2
  have hq:=h.lv i y h0 h1 hy
  rw [woken_quitsD hq,hDeaf i (by omega)]
  exact hq
 ·obtain ⟨g1,e1,e2,e3⟩:=h.wk i hi
  have hi':i < s.j:=hi
  refine ⟨g1,by rw [get_map_set _ _ _ _ (by omega),e1,Option.map_some,e2.woken],?_,by rw [hDeaf _ (by omega)];exact e3⟩
  exact e2.rely hX.sync (hn i (by omega)) ⟨fun b hb=>off b (hz.v b (hz.sj i hi b hb).1).1 (hz.v b (hz.sj i hi b hb).1).2.1 fun _=>(hz.sj i hi b hb).2,fun _=>hlive⟩ (hLv i (by omega)) hos
 ·have hu:=h.un i h1 h2
  have hle:=hLv i h2
  rw [hu.1] at hle
  exact ⟨hu.1,HR.leaves hX.sync hu.2 hle hos⟩
 ·obtain ⟨c,k1,k2,k3⟩:=hcl fun k=>ht (hsp.2 k)
  exact ⟨_,by rw [get_map_set _ _ _ _ (by omega),k1];rfl,k2,by rw [hDeaf _ (by omega)];exact k3⟩
 ·have hj':gs.size≤j:=by simpa using hj
  rw [hDeaf j (by omega)]
  exact h.fresh j hj'
 ·have eK:∀ (V W:Nat→Prop),KP X { s with p:=p',d0:=d0',tag:=tag',fc:=fc',V:=V,W:=W }=KP X s:=fun V W=>by
   funext k;unfold KP;simp only [ne_eq,hsp]
  have ec:∀ (V W:Nat→Prop),sayer X { s with p:=p',d0:=d0',tag:=tag',fc:=fc',V:=V,W:=W }=sayer X s:=fun V W=>by
   unfold sayer
   rcases htag with e | ⟨e1,e2⟩
   ·simp only [e]
   ·simp only [e1,e2,isSp]
  rw [eK,ec]
  have A:=hz.apt hX (show s.j≤X.N.n by omega)
  refine h.tr.app0 A fun op hop=>⟨hgi op hop,fun x hx hmm=>?_⟩
  obtain ⟨_,e,he,hoa⟩:=mem_ops hop
  rw [hoa] at hx
  rcases hok e he x hx hmm with ⟨k1,k2,k3⟩ | ⟨b,k1,k2,k3⟩
  ·exact .inl ⟨k1,k2,fun e=>sayer_sp (k3 e)⟩
  ·have hown:∀ i,i < X.N.n→∀ y p,(s.D i).ρ y=some p→p.block≠b:=fun i hi y p hy e=>by
    have:=hz.lt i hi y p hy
    rcases k2 with k2 | k2
    ·exact this.2.1 (e▸k2)
    ·omega
   refine .inr ⟨fun hs=>?_,fun hs=>?_,fun k hk ⟨i,hi,_,hl⟩=>?_,fun hw k hk ⟨b',hb',hS⟩=>?_⟩
   ·have hb3:b=X.N.Wg∨b=X.N.CB∨b=X.N.CF:=hs.block.imp k1.uniq fun z=>z.imp k1.uniq k1.uniq
    have:=hz.nums
    rcases k2 with k2 | k2
    ·have:=hz.v b k2;omega
    ·omega
   ·rcases k2 with k2 | k2
    ·exact (hz.v b k2).2.2.2.2 _ k1 hs
    ·have:=hz.old _ b hs k1;omega
   ·obtain ⟨y,p,h1,h2⟩:=hl.block
    exact hown i hi y p h1 (h2.uniq k1)
   ·obtain rfl:=k1.uniq hb'
    have hS':s.V b∧¬ s.W b:=by
     rcases hS with ⟨i,hi,e,hs⟩ | ⟨e,hs⟩
     ·rcases hk with ⟨a1,a2⟩ | ⟨a1,a2⟩
      ·exact hz.sj i (by omega) b hs
      ·omega
     ·rcases hk with ⟨a1,a2⟩ | ⟨a1,a2⟩
      ·omega
      ·exact hz.sc a1 b hs
    rcases k3 hw with k3 | k3
    ·exact hS'.2 k3
    ·have:=(hz.v b hS'.1).1;omega
 ·intro op hop
  rcases Array.mem_append.1 hop with k | k
  ·exact MemAct.low_mono hsz (h.low op k)
  ·obtain ⟨_,e,he,ha⟩:=mem_ops k
   rw [ha];exact hlow e he
 ·refine h.norel.app fun op hop=>?_
  obtain ⟨_,e,he,ha⟩:=mem_ops hop
  rw [ha]
  exact ofEvent_norel (hnr e he)
 ·obtain ⟨r,hr⟩:=h.rel i hi hst
  exact ⟨r,hr.appNot fun op hop=>by rw [hgi op hop];omega⟩
 ·have:s.tag=.cl:=by
   rcases htag with k | ⟨_,k⟩
   ·exact k.symm.trans ht
   ·rw [show tag'=Tg.cl from ht] at k;cases k
  obtain ⟨q,hq⟩:=h.acq this
  exact ⟨q,hq.app fun i r _ hr=>hr.appNot fun op hop=>by rw [hgi op hop];omega⟩
 ·have:s.tag=.qt:=by
   rcases htag with k | ⟨_,k⟩
   ·exact k.symm.trans ht
   ·rw [show tag'=Tg.qt from ht] at k;cases k
  obtain ⟨q,p,hq⟩:=h.cls this
  exact ⟨q,p,hq.app (fun i r _ hr=>hr.appNot fun op hop=>by rw [hgi op hop];omega) fun op hop hg=>by rw [hgi op hop] at hg;omega⟩
 ·refine ⟨fun i hi b p hb=>?_,hz.apart,hz.shun,fun b hb=>?_,fun b hb=>hb.imp (hz.wv b) id,fun i hi b hb=>?_,fun ht b hb=>?_,⟨Nat.lt_of_lt_of_le hz.nums.1 hsz,Nat.lt_of_lt_of_le hz.nums.2.1 hsz,Nat.lt_of_lt_of_le hz.nums.2.2 hsz⟩,fun l b hl hb=>Nat.lt_of_lt_of_le (hz.old l b hl hb) hsz⟩
  ·have:=hz.lt i hi b p hb
   exact ⟨by omega,fun k=>k.elim this.2.1 fun k=>by omega,this.2.2⟩
  ·have:=hz.nums
   rcases hb with hb | ⟨hb1,hb2⟩
   ·have:=hz.v b hb
    exact ⟨by omega,this.2⟩
   ·exact ⟨hb2,by omega,by omega,by omega,fun l hl hs=>by have:=hz.old l b hs hl;omega⟩
  ·have:=hz.sj i hi b hb
   exact ⟨.inl this.1,fun k=>k.elim this.2 fun k=>by have:=(hz.v b this.1).1;omega⟩
  ·have:=hz.sc (fun k=>ht (hsp.2 k)) b hb
   exact ⟨.inl this.1,fun k=>k.elim this.2 fun k=>by have:=(hz.v b this.1).1;omega⟩
structure Keeps (s s':St) (w w':World):Prop where
 j:s'.j=s.j
 p:s'.p=s.p
 d0:s'.d0=s.d0
 V:s'.V=s.V
 W:s'.W=s.W
 sp:s'.tag=.sp↔s.tag=.sp
 got:s'.got=s.got
 val:∀ i∈s.got,(s'.D i).v=(s.D i).v
 heap:∀ b,s.V b→w'.heap[b]? = w.heap[b]?
theorem Keeps.refl (s:St) (w:World):Keeps s s w w:=⟨rfl,rfl,rfl,rfl,rfl,Iff.rfl,rfl,fun _ _=>rfl,fun _ _=>rfl⟩
theorem Keeps.trans {s s' s'':St} {w w' w'':World} (h:Keeps s s' w w') (k:Keeps s' s'' w' w''):Keeps s s'' w w'' :=
 ⟨k.j.trans h.j,k.p.trans h.p,k.d0.trans h.d0,k.V.trans h.V,k.W.trans h.W,k.sp.trans h.sp,k.got.trans h.got,fun i hi=>(k.val i (h.got▸hi)).trans (h.val i hi),fun b hb=>(k.heap b (h.V▸hb)).trans (h.heap b hb)⟩
theorem Keeps.at (s:St) (w:World) (d:Nat):Keeps s s w (w.at d):=⟨rfl,rfl,rfl,rfl,rfl,Iff.rfl,rfl,fun _ _=>rfl,fun _ _=>rfl⟩
theorem Now.turn [Zeros X.P] [Codes X.P] (hX:X.Good):∀ {s:St} {n:Nat} {gs:Array Goroutine} {w:World} {sl:Option (Nat×Nat)} {t:Trace},Now X s n gs w sl t a→a.status=.running →
  ∃ n' s' gs' w' sl' t' d sl'',Now X s' n' gs' w' sl' t' a∧Keeps s s' w (w'.at d)∧stepT X.P (crowd gs' w' sl')=runT X.P (crowd gs' (w'.at d) sl'') 0∧Crew X s' n' gs' (w'.at d) t' ∧
   ∀ i,i < X.N.n→sums (segOf X.P X.pk (X.N.B+i) X.m0 X.t0) (n'+1)=sums (segOf X.P X.pk (X.N.B+i) X.m0 X.t0) n':=by
 have wf:WellFounded Lt2:=Prod.lex Nat.lt_wfRel Nat.lt_wfRel |>.wf
 suffices key:∀ μ s n gs w sl t,meas X s=μ→Now X s n gs w sl t a→a.status=.running →
   ∃ n' s' gs' w' sl' t' d sl'',Now X s' n' gs' w' sl' t' a∧Keeps s s' w (w'.at d)∧stepT X.P (crowd gs' w' sl')=runT X.P (crowd gs' (w'.at d) sl'') 0∧Crew X s' n' gs' (w'.at d) t' ∧
    ∀ i,i < X.N.n→sums (segOf X.P X.pk (X.N.B+i) X.m0 X.t0) (n'+1)=sums (segOf X.P X.pk (X.N.B+i) X.m0 X.t0) n' from fun {s n gs w sl t} h hr=>key _ s n gs w sl t rfl h hr
 intro μ
 induction μ using wf.induction with
 | _ μ ih =>
  intro s n gs w sl t hμ h hr
  rcases h.env hX (.run hr) with ⟨d,sl',_,h1,h2,h3⟩ | ⟨s',gs',w',sl',t',a',h1,h2,h3,h4,h5,h6⟩
  ·exact ⟨n,s,gs,w,sl,t,d,sl',h,Keeps.at s w d,h1,h2,h3⟩
  ·cases h5 with
   | same e1 e2 =>
    subst e1
    obtain ⟨n',s2,gs2,w2,sl2,t2,d,sl3,k1,k2,k3⟩:=ih (meas X s') (hμ▸h2) s' (n+1) gs' w' sl' t' rfl h1 hr
    refine ⟨n',s2,gs2,w2,sl2,t2,d,sl3,k1,Keeps.trans ⟨h3.j,h3.p,h3.d0,h3.V,h3.W,h3.sp,e2,fun i hi=>?_,h4⟩ k2,k3⟩
    have:=(h.crew.list i).1 (List.mem_append_left _ hi)
    exact h3.val i this.1 this.2
   | served i gm z1 z2 e1=>rw [e1] at hr;cases hr
   | woken gm z1 z2 e1=>rw [e1] at hr;cases hr
end
end Go.Proofs.YtjnkcibpkkjniaaGreat.Pool
namespace Go.Proofs.YtjnkcibpkkjniaaGreat.Pool
open Go.Conc Go.ConcN Go.Proofs.YtjnkcibpkkjniaaGreat.Sim
open Go.ConcR (KK wgBlock WgAt stA smA rd wr DC0)
variable [Scope]
section
variable {X:Ctx} {s:St} {n:Nat} {gs:Array Goroutine} {w w':World} {sl:Option (Nat×Nat)} {t:Trace} {a a':Goroutine}
def At (X:Ctx) (s:St) (w:World) (a:Goroutine):Prop:=∃ n gs sl t,Now X s n gs w sl t a
theorem Crew.at_ (hX:X.Good) (h:Crew X s n gs w t) (hr:runNT X.P n X.m0 X.t0=(.next (crowd gs w sl),t)) (hm:gs[0]? = some a):At X s w a:=⟨n,gs,sl,t,hr,h,hm⟩
theorem At.go [Zeros X.P] [Codes X.P] (hX:X.Good) (h:At X s w a) (hr:a.status=.running) {Post:St→World→Goroutine→Prop}
  (hstep:∀ s1 w1,Keeps s s1 w w1→(∃ n gs t,Crew X s1 n gs w1 t)→∃ a' w' es d0',stepG X.P true a w1=.go a' w' es∧w1.heap.size≤w'.heap.size∧w'.os=w1.os∧(∀ b,b < w1.heap.size→¬ s1.W b→w'.heap[b]? = w1.heap[b]?) ∧
   (∀ e∈es,Ev0 X s1 w1.heap.size e∧(MemAct.ofEvent e).low w'.heap.size∧e.loc≠.mark (.release (stA X.N.Wg)))∧deafBehind s1.d0 es=d0' ∧
   ∀ tag' fc',(tag'=.sp↔s1.tag=.sp)→Post { s1 with d0:=d0',tag:=tag',fc:=fc',V:=fun b=>s1.V b∨(w1.heap.size≤b∧b < w'.heap.size),W:=fun b=>s1.W b∨(w1.heap.size≤b∧b < w'.heap.size) } w' a') :
  ∃ s' w' a',At X s' w' a'∧Post s' w' a':=by
 obtain ⟨n,gs,sl,t,hn⟩:=h
 obtain ⟨n1,s1,gs1,w1,sl1,t1,d,sl2,h1,h2,h3,h4,h5⟩:=hn.turn hX hr
 obtain ⟨a',w',es,d0',e1,e2,e3,e4,e5,e6,e7⟩:=hstep s1 (w1.at d) h2 ⟨_,_,_,h4⟩
 obtain ⟨st,sm,hw,hm⟩:=h4.wg
 have hWg:w'.heap[X.N.Wg]? = (w1.at d).heap[X.N.Wg]?:=e4 _ h4.zone.nums.1 fun k=>(h4.zone.v _ (h4.zone.wv _ k)).2.1 rfl
 obtain ⟨tag',fc',k1,k2⟩:=h4.mstep hX h1.main (a':=a') (es:=es) h5 e2 e3 (fun b hb _ hW=>e4 b hb hW) h4.jn (fun k=>(h4.size.2 k).2.2) (getWg hw hWg) (fun tag' ht=>hm.retag ht) (fun e he=>(e5 e he).1) (fun e he=>(e5 e he).2.1) (fun e he=>(e5 e he).2.2) e6
 refine ⟨_,w',a',⟨n1+1,_,sl2,_,run_next h1.run (h3.trans (runT_crowd_go (P:=X.P) (i:=0) h1.main e1)),k2,?_⟩,e7 tag' fc' (tag_sp k1)⟩
 rw [get_map_set_same _ _ _ (Array.getElem?_eq_some_iff.1 h1.main).1]
def DM (V W:Nat→Prop) (w w':World) (es:Array Event):Prop :=
 (∀ b,¬ W b→w'.heap[b]? = w.heap[b]?)∧w'.heap.size=w.heap.size∧w'.os=w.os∧∀ e∈es,∃ a wr,e=⟨.cell a,wr,false⟩∧V a.block∧(wr=true→W a.block)
theorem DM.of0 {V W:Nat→Prop} {w w':World} {es:Array Event} (h:DC0 w w' es):DM V W w w' es:=by
 obtain ⟨rfl,rfl⟩:=h
 exact ⟨fun _ _=>rfl,rfl,rfl,by simp⟩
structure Same (s s':St) (w w':World):Prop where
 j:s'.j=s.j
 p:s'.p=s.p
 d0:s'.d0=s.d0
 V:s'.V=s.V
 W:s'.W=s.W
 sp:s'.tag=.sp↔s.tag=.sp
 got:s'.got=s.got
 val:∀ i∈s.got,(s'.D i).v=(s.D i).v
 heap:∀ b,s.V b→¬ s.W b→w'.heap[b]? = w.heap[b]?
theorem Same.refl (s:St) (w:World):Same s s w w:=⟨rfl,rfl,rfl,rfl,rfl,Iff.rfl,rfl,fun _ _=>rfl,fun _ _ _=>rfl⟩
theorem Same.trans {s s' s'':St} {w w' w'':World} (h:Same s s' w w') (k:Same s' s'' w' w''):Same s s'' w w'' :=
 ⟨k.j.trans h.j,k.p.trans h.p,k.d0.trans h.d0,k.V.trans h.V,k.W.trans h.W,k.sp.trans h.sp,k.got.trans h.got,fun i hi=>(k.val i (h.got▸hi)).trans (h.val i hi),fun b hb hw=>(k.heap b (h.V▸hb) (h.W▸hw)).trans (h.heap b hb hw)⟩
theorem Keeps.same {s s':St} {w w':World} (h:Keeps s s' w w'):Same s s' w w':=⟨h.j,h.p,h.d0,h.V,h.W,h.sp,h.got,h.val,fun b hb _=>h.heap b hb⟩
theorem Crew.rk {s1:St} {w1:World} {n1:Nat} {gs1:Array Goroutine} {t1:Trace} (h1:Crew X s1 n1 gs1 w1 t1) (h2:Keeps s s1 w w1):RK X.N.ty X.N.Wg s.V w w1 :=
 ⟨h2.heap,fun _=>let ⟨st,sm,hw,_⟩:=h1.wg;⟨st,sm,hw⟩⟩
theorem At.walk [Zeros X.P] [Codes X.P] (hX:X.Good) {Stop:Goroutine→World→Prop} (hSr:∀ g w,Stop g w→g.status=.running):∀ {m:Nat} {s:St} {w:World} {a:Goroutine},At X s w a→Goes X.P true (RK X.N.ty X.N.Wg s.V) (DM s.V s.W) Stop m a w →
  ∃ s' w' a',At X s' w' a'∧(∀ w₁,RK X.N.ty X.N.Wg s'.V w' w₁→Stop a' w₁)∧Same s s' w w':=by
 intro m
 induction m with
 | zero =>
  intro s w a h hG
  exact ⟨s,w,a,h,hG,Same.refl s w⟩
 | succ m ih =>
  intro s w a h hG
  rcases hG with hstop | ⟨hr,hstep⟩
  ·exact ⟨s,w,a,h,hstop,Same.refl s w⟩
  ·obtain ⟨s',w',a',k1,k2,k3⟩:=h.go hX hr (Post:=fun s' w' a'=>Same s s' w w'∧Goes X.P true (RK X.N.ty X.N.Wg s'.V) (DM s'.V s'.W) Stop m a' w') fun s1 w1 hk hc=>by
    obtain ⟨n1,gs1,t1,hc⟩:=hc
    obtain ⟨a',w',es,e1,⟨d1,d2,d3,d4⟩,e3⟩:=goes_elim (hstep w1 (hc.rk hk))
    have hV:∀ b,(s1.V b∨(w1.heap.size≤b∧b < w'.heap.size))↔s1.V b:=fun b=>⟨fun h=>h.elim id fun h=>by omega, .inl⟩
    have hW:∀ b,(s1.W b∨(w1.heap.size≤b∧b < w'.heap.size))↔s1.W b:=fun b=>⟨fun h=>h.elim id fun h=>by omega, .inl⟩
    have eV:(fun b=>s1.V b∨(w1.heap.size≤b∧b < w'.heap.size))=s.V:=funext fun b=>(propext (hV b)).trans (congrFun hk.V b)
    have eW:(fun b=>s1.W b∨(w1.heap.size≤b∧b < w'.heap.size))=s.W:=funext fun b=>(propext (hW b)).trans (congrFun hk.W b)
    refine ⟨a',w',es,s1.d0,e1,by omega,d3,fun b _ hb=>d1 b (by rw [←hk.W];exact hb),fun e he=>?_,?_,fun tag' fc' ht=>⟨⟨hk.j,hk.p,hk.d0,eV,eW,ht.trans hk.sp,hk.got,hk.val,fun b hb hw=>(d1 b hw).trans (hk.heap b hb)⟩,?_⟩⟩
    ·obtain ⟨ad,wr,rfl,h1,h2⟩:=d4 e he
     rw [←hk.V] at h1
     rw [←hk.W] at h2
     refine ⟨fun x hx _=>?_,?_,by simp⟩
     ·have:x=⟨.cell ad,wr, .plain⟩:=by cases wr <;> simp [MemAct.ofEvent,MemAct.touch?] at hx <;> exact hx.symm
      subst this
      exact .inr ⟨ad.block,rfl, .inl h1,fun hw=>.inl (h2 hw)⟩
     ·have:=(hc.zone.v _ h1).1
      show ad.block < _
      omega
    ·exact still_le (fun e he=>by obtain ⟨ad,wr,rfl,_⟩:=d4 e he;simp) _
    ·show Goes X.P true (RK X.N.ty X.N.Wg fun b=>s1.V b∨(w1.heap.size≤b∧b < w'.heap.size)) (DM (fun b=>s1.V b∨(w1.heap.size≤b∧b < w'.heap.size)) fun b=>s1.W b∨(w1.heap.size≤b∧b < w'.heap.size)) Stop m a' w'
     rw [eV,eW]
     exact e3
   obtain ⟨s2,w2,a2,l1,l2,l3⟩:=ih k1 k3
   exact ⟨s2,w2,a2,l1,l2,k2.trans l3⟩
end
end Go.Proofs.YtjnkcibpkkjniaaGreat.Pool
namespace Go.Proofs.YtjnkcibpkkjniaaGreat.Pool
open Go.Conc Go.ConcN Go.Proofs.YtjnkcibpkkjniaaGreat.Sim
open Go.ConcR (KK wgBlock WgAt stA smA rd wr DC0)
variable [Scope]
section
variable {X:Ctx} {s:St} {n:Nat} {gs:Array Goroutine} {w w':World} {sl:Option (Nat×Nat)} {t:Trace} {a a':Goroutine}
structure SameP (s s':St) (w w':World):Prop where
 j:s'.j=s.j
 V:s'.V=s.V
 W:s'.W=s.W
 sp:s'.tag=.sp↔s.tag=.sp
 got:s'.got=s.got
 val:∀ i∈s.got,(s'.D i).v=(s.D i).v
 heap:∀ b,s.V b→¬ s.W b→w'.heap[b]? = w.heap[b]?
theorem Same.toP {s s':St} {w w':World} (h:Same s s' w w'):SameP s s' w w':=⟨h.j,h.V,h.W,h.sp,h.got,h.val,h.heap⟩
theorem SameP.trans {s s' s'':St} {w w' w'':World} (h:SameP s s' w w') (k:SameP s' s'' w' w''):SameP s s'' w w'' :=
 ⟨k.j.trans h.j,k.V.trans h.V,k.W.trans h.W,k.sp.trans h.sp,k.got.trans h.got,fun i hi=>(k.val i (h.got▸hi)).trans (h.val i hi),fun b hb hw=>(k.heap b (h.V▸hb) (h.W▸hw)).trans (h.heap b hb hw)⟩
theorem Goes.dm {V W:Nat→Prop} {R:World→World→Prop} {Stop:Goroutine→World→Prop} {m:Nat} (h:Goes X.P true R DC0 Stop m a w):Goes X.P true R (DM V W) Stop m a w:=Goes.monoD (fun _ _ _=>DM.of0) h
theorem At.says [Zeros X.P] [Codes X.P] (hX:X.Good) (h:At X s w a) {e:Event} {Next:Goroutine→World→Prop} (hst:∀ w₁,RK X.N.ty X.N.Wg s.V w w₁→Says X.P true (RK X.N.ty X.N.Wg s.V) e Next a w₁)
  (hev:∀ s1,(s1.tag=.sp↔s.tag=.sp)→∀ B,X.N.Wg < B→Ev0 X s1 B e∧(MemAct.ofEvent e).low B∧e.loc≠.mark (.release (stA X.N.Wg))) :
  ∃ s' w' a',At X s' w' a'∧(∃ m,Goes X.P true (RK X.N.ty X.N.Wg s'.V) DC0 Next m a' w')∧SameP s s' w w'∧s'.p=s.p∧s'.d0=deafBehind s.d0 #[e]:=by
 obtain ⟨s',w',a',k1,k2⟩:=h.go hX (hst w (RK.refl w)).1 (Post:=fun s' w' a'=>(∃ m,Goes X.P true (RK X.N.ty X.N.Wg s'.V) DC0 Next m a' w')∧SameP s s' w w'∧s'.p=s.p∧s'.d0=deafBehind s.d0 #[e]) fun s1 w1 hk hc=>by
  obtain ⟨n1,gs1,t1,hc⟩:=hc
  obtain ⟨_,a',e1,m,e2⟩:=hst w1 (hc.rk hk)
  have eV:(fun b=>s1.V b∨(w1.heap.size≤b∧b < w1.heap.size))=s.V:=funext fun b=>(propext ⟨fun h=>h.elim id fun h=>by omega, .inl⟩).trans (congrFun hk.V b)
  have eW:(fun b=>s1.W b∨(w1.heap.size≤b∧b < w1.heap.size))=s.W:=funext fun b=>(propext ⟨fun h=>h.elim id fun h=>by omega, .inl⟩).trans (congrFun hk.W b)
  refine ⟨a',w1,#[e],_,e1,Nat.le_refl _,rfl,fun _ _ _=>rfl,fun x hx=>?_,rfl,fun tag' fc' ht=>⟨⟨m,?_⟩,⟨hk.j,eV,eW,ht.trans hk.sp,hk.got,hk.val,fun b hb _=>hk.heap b hb⟩,hk.p,by rw [←hk.d0]⟩⟩
  ·rw [Array.mem_singleton] at hx
   subst hx
   exact hev s1 hk.sp _ hc.zone.nums.1
  ·show Goes X.P true (RK X.N.ty X.N.Wg fun b=>s1.V b∨(w1.heap.size≤b∧b < w1.heap.size)) DC0 Next m a' w1
   rw [eV]
   exact e2
 exact ⟨s',w',a',k1,k2⟩
set_option maxHeartbeats 1000000 in
theorem At.add [Zeros X.P] [Codes X.P] (hX:X.Good) (h:At X s w a) {Next:Goroutine→World→Prop} (hNr:∀ g w,Next g w→g.status=.running) (hsp:s.tag=.sp) (hp:s.p=0) (hd:s.d0=0) (hj:s.j < X.N.n) {m:Nat}
  (hG:Goes X.P true (RK X.N.ty X.N.Wg s.V) DC0 (AddK X.P true (RK X.N.ty X.N.Wg s.V) X.N.ty X.N.Wg Next) m a w) :
  ∃ s' w' a',At X s' w' a'∧(∀ w₁,RK X.N.ty X.N.Wg s'.V w' w₁→Next a' w₁)∧SameP s s' w w'∧s'.p=1∧s'.d0=0:=by
 have mk_ev:∀ {m:Mark},(m=.disable∨m=.enable)→∀ s1:St,∀ B,X.N.Wg < B→Ev0 X s1 B (Go.ConcR.mk m)∧(MemAct.ofEvent (Go.ConcR.mk m)).low B∧(Go.ConcR.mk m).loc≠.mark (.release (stA X.N.Wg)):=fun hm s1 B hB=>by
  rcases hm with rfl | rfl
  ·exact ⟨fun x hx=>by simp [Go.ConcR.mk,MemAct.ofEvent,MemAct.touch?] at hx,trivial,by simp [Go.ConcR.mk]⟩
  ·exact ⟨fun x hx=>by simp [Go.ConcR.mk,MemAct.ofEvent,MemAct.touch?] at hx,trivial,by simp [Go.ConcR.mk]⟩
 obtain ⟨s1,w1,a1,h1,q1,r1⟩:=h.walk hX (fun g w k=>k.1) (Goes.dm hG)
 rw [←r1.V] at q1
 obtain ⟨s2,w2,a2,h2,⟨m2,q2⟩,r2,r2p,r2d⟩:=h1.says hX q1 fun s1 _=>mk_ev (.inl rfl) s1
 rw [r1.d0,hd] at r2d
 have r2d:s2.d0=1:=r2d
 obtain ⟨s3,w3,a3,h3,q3,r3⟩:=h2.walk hX (fun g w k=>k.1) (Goes.dm q2)
 have r13:SameP s s3 w w3:=(r1.toP.trans r2).trans r3.toP
 have hsp3:s3.tag=.sp:=r13.sp.2 hsp
 have hp3:s3.p=0:=by rw [r3.p,r2p,r1.p,hp]
 have hd3:s3.d0=1:=by rw [r3.d0,r2d]
 have eVV:s1.V=s3.V:=r1.V.trans r13.V.symm
 obtain ⟨n3,gs3,sl3,t3,hn3⟩:=h3
 obtain ⟨n4,s4,gs4,w4,sl4,t4,d,sl5,f1,f2,f3,f4,f5⟩:=hn3.turn hX (q3 w3 (RK.refl w3)).1
 have hsp4:s4.tag=.sp:=f2.sp.2 hsp3
 have hp4:s4.p=0:=f2.p.trans hp3
 have hj4:s4.j < X.N.n:=by rw [f2.j,r13.j];exact hj
 obtain ⟨st,sm,hw4,hm4⟩:=f4.wg
 obtain ⟨rfl,rfl,ho4,_⟩:=hm4.opened (by rw [hsp4];trivial)
 rw [hp4,Nat.add_zero] at hw4
 have hvj:=Vc_le s4.j s4.D
 have hfew:=hX.few
 obtain ⟨_,hA⟩:=q3 (w4.at d) (f4.rk f2)
 obtain ⟨a5,e1,e2,e3⟩:=hA (Vc s4.j s4.D) (by omega) hw4
 have hes:=hes_cells (X:=X) (a:=stA X.N.Wg) rfl (.inl rfl)
 have hnum:((Vc s4.j s4.D:Nat):Int)+1=((Vc s4.j s4.D+1:Nat):Int):=by omega
 obtain ⟨w5,hw5⟩:∃ x,x=(w4.at d).setCell (stA X.N.Wg) (.int .u64 ((((Vc s4.j s4.D:Nat):Int)+1) * KK)):=⟨_,rfl⟩
 have hsz5:w5.heap.size=(w4.at d).heap.size:=by rw [hw5];simp [World.setCell]
 have hoff5:∀ b,b≠X.N.Wg→w5.heap[b]? = (w4.at d).heap[b]?:=fun b hb=>by rw [hw5];exact setCell_off _ _ _ hb
 have hos5:w5.os=(w4.at d).os:=by rw [hw5];rfl
 have hwg5:WgAt X.N.ty X.N.Wg w5 ((((Vc s4.j s4.D:Nat):Int)+1) * KK) 0:=by rw [hw5];exact hw4.setSt _
 rw [←hw5] at e1 e2 e3
 have hmode5:∀ tag',(tag'=s4.tag∨(s4.tag=.blk∧tag'=.w3))→Mode s4.j 1 s4.D tag' ((((Vc s4.j s4.D:Nat):Int)+1) * KK) 0:=fun tag' ht=>by
  have:tag'=.sp:=(tag_sp ht).2 hsp4
  subst this
  rw [hnum]
  exact .opn trivial ho4 fun vs e=>by cases e
 have hok5:∀ e∈#[rd (stA X.N.Wg),wr (stA X.N.Wg)],Ev0 X s4 (w4.at d).heap.size e:=fun e he x hx hmm=>by
  rcases hes.1 e he with k | ⟨ad,wr,rfl,k⟩
  ·rw [k] at hx;cases hx
  ·have:x=⟨.cell ad,wr, .atomic⟩:=by cases wr <;> simp [MemAct.ofEvent,MemAct.touch?] at hx <;> exact hx.symm
   subst this
   exact .inl ⟨.inl ⟨ad,rfl,k⟩,by simp,by simp⟩
 obtain ⟨tag',fc',k1,k2⟩:=f4.mstep hX f1.main (a':=a5) (es:=#[rd (stA X.N.Wg),wr (stA X.N.Wg)]) f5 (w':=w5) (by omega) hos5 (fun b _ hb _=>hoff5 b hb) (p':=1) (d0':=1) (by omega) (fun k=>absurd hsp4 k) hwg5 hmode5 hok5
  (hes.2.1 _ (by rw [hsz5];exact f4.zone.nums.1)) hes.2.2.1 (by rw [f2.d0,hd3];exact hes.2.2.2.1)
 have eV:(fun b=>s4.V b∨((w4.at d).heap.size≤b∧b < w5.heap.size))=s3.V:=funext fun b=>(propext ⟨fun h=>h.elim id fun h=>by omega, .inl⟩).trans (congrFun f2.V b)
 have eW:(fun b=>s4.W b∨((w4.at d).heap.size≤b∧b < w5.heap.size))=s3.W:=funext fun b=>(propext ⟨fun h=>h.elim id fun h=>by omega, .inl⟩).trans (congrFun f2.W b)
 have hat:∃ s5,At X s5 w5 a5∧SameP s s5 w w5∧s5.p=1∧s5.d0=1∧s5.V=s3.V:=by
  refine ⟨_,⟨n4+1,_,sl5,_,run_next f1.run (f3.trans (runT_crowd_go (P:=X.P) (i:=0) f1.main e1)),k2,by rw [get_map_set_same _ _ _ (Array.getElem?_eq_some_iff.1 f1.main).1]⟩,r13.trans ⟨f2.j,eV,eW,((tag_sp k1).trans (f2.sp)),f2.got,f2.val,fun b hb hw=>?_⟩,rfl,rfl,eV⟩
  have hb':b≠X.N.Wg:=fun e=>by
   have:=f4.zone.v b (by rw [f2.V];exact hb)
   exact this.2.1 e
  exact (hoff5 b hb').trans (f2.heap b hb)
 clear k2 k1
 obtain ⟨s5,h5,r5,r5p,r5d,r5V⟩:=hat
 rw [eVV] at e2 e3
 have last:∀ {s6:St} {w6:World} {a6:Goroutine},At X s6 w6 a6→SameP s s6 w w6→s6.p=1→s6.d0=1→s6.V=s3.V→(∃ m,Goes X.P true (RK X.N.ty X.N.Wg s3.V) DC0 (Says X.P true (RK X.N.ty X.N.Wg s3.V) (Go.ConcR.mk .enable) Next) m a6 w6) →
   ∃ s' w' a',At X s' w' a'∧(∀ w₁,RK X.N.ty X.N.Wg s'.V w' w₁→Next a' w₁)∧SameP s s' w w'∧s'.p=1∧s'.d0=0:=by
  intro s6 w6 a6 h6 r6 r6p r6d r6V ⟨m6,q6⟩
  rw [←r6V] at q6
  obtain ⟨s7,w7,a7,h7,q7,r7⟩:=h6.walk hX (fun g w k=>k.1) (Goes.dm q6)
  rw [←r7.V] at q7
  obtain ⟨s8,w8,a8,h8,⟨m8,q8⟩,r8,r8p,r8d⟩:=h7.says hX q7 fun s1 _=>mk_ev (.inr rfl) s1
  obtain ⟨s9,w9,a9,h9,q9,r9⟩:=h8.walk hX hNr (Goes.dm q8)
  exact ⟨s9,w9,a9,h9,q9,((r6.trans r7.toP).trans r8).trans r9.toP,by rw [r9.p,r8p,r7.p,r6p],by rw [r9.d0,r8d,r7.d0,r6d];rfl⟩
 by_cases hv:Vc s4.j s4.D=0
 ·obtain ⟨m6,q6⟩:=e2 hv
  rw [←r5V] at q6
  obtain ⟨s7,w7,a7,h7,q7,r7⟩:=h5.walk hX (fun g w k=>k.1) (Goes.dm q6)
  rw [←r7.V] at q7
  obtain ⟨s8,w8,a8,h8,q8,r8,r8p,r8d⟩:=h7.says hX q7 fun s1 hs1 B hB=>⟨fun x hx hmm=>by
   have:x=⟨.cell (smA X.N.Wg),false, .said⟩:=by simp [MemAct.ofEvent,MemAct.touch?] at hx;exact hx.symm
   subst this
   exact .inl ⟨.inl ⟨_,rfl,rfl⟩,by simp,fun _=>hs1.2 (r7.sp.2 (r5.sp.2 hsp))⟩,hB,by simp⟩
  have e7:s7.V=s3.V:=r7.V.trans r5V
  rw [r8.V,e7] at q8
  exact last h8 ((r5.trans r7.toP).trans r8) (by rw [r8p,r7.p,r5p]) (by rw [r8d,r7.d0,r5d];rfl) (r8.V.trans e7) q8
 ·exact last h5 r5 r5p r5d r5V (e3 hv)
end
end Go.Proofs.YtjnkcibpkkjniaaGreat.Pool
namespace Go.Proofs.YtjnkcibpkkjniaaGreat.Pool
open Go.Conc Go.ConcN Go.Proofs.YtjnkcibpkkjniaaGreat.Sim
open Go.ConcR (KK wgBlock WgAt stA smA rd wr DC0)
variable [Scope]
theorem WSit.congrJ {P:Program} {N:Nums} {pk:Machine→Nat×Nat×Option (Nat×Nat)} {m0:Machine} {t0:Trace} {Gt:Nat→Tape} {J J':Nat→Work} {i n:Nat} {d:WD} {g:Goroutine} {w:World} (e:J' i=J i)
  (h:WSit P N pk m0 t0 Gt J i n d g w):WSit P N pk m0 t0 Gt J' i n d g w:=by
 cases h with
 | pre h1 h2=>rw [←e] at h1 h2 ⊢;exact .pre h1 h2
 | ride h1 h2 h3 h4 h5 h6 h7 h8=>rw [←e] at h3 h5 h6 h7 h8;exact .ride h1 h2 h3 h4 h5 h6 h7 h8
 | post h1 h2=>rw [←e] at h1 h2;exact .post h1 h2
 | r0 h1 h2=>rw [←e] at h1 h2;exact .r0 h1 h2
 | k1 h1 h2=>rw [←e] at h1 h2;exact .k1 h1 h2
 | d1 h1 h2=>rw [←e] at h1 h2;exact .d1 h1 h2
 | d2 h1 h2=>rw [←e] at h1 h2;exact .d2 h1 h2
 | d3 h1 h2=>rw [←e] at h1 h2;exact .d3 h1 h2
 | d4 h1 h2=>rw [←e] at h1 h2;exact .d4 h1 h2
 | quit h1 h2=>rw [←e] at h2;exact .quit h1 h2
def Work.setS (J:Work) (S:Nat→Prop):Work:={ J with S:=S }
def Ctx.setS (X:Ctx) (j:Nat) (S:Nat→Prop):Ctx:={ X with J:=upd X.J j ((X.J j).setS S) }
theorem Work.Good.setS {P:Program} {J:Work} (h:J.Good P) (S:Nat→Prop):(J.setS S).Good P:=⟨h.okf,h.rel,h.calls,h.shape⟩
theorem setS_ne {X:Ctx} {j i:Nat} {S:Nat→Prop} (h:i≠j):(X.setS j S).J i=X.J i:=upd_ne _ _ h
theorem setS_same {X:Ctx} {j:Nat} {S:Nat→Prop}:(X.setS j S).J j=(X.J j).setS S:=upd_same _ _ _
theorem setS_ρ {X:Ctx} {j:Nat} {S:Nat→Prop} (i:Nat):((X.setS j S).J i).ρ=(X.J i).ρ∧((X.setS j S).J i).wS=(X.J i).wS∧((X.setS j S).J i).msg=(X.J i).msg:=by
 by_cases h:i=j
 ·subst h;rw [setS_same];exact ⟨rfl,rfl,rfl⟩
 ·rw [setS_ne h];exact ⟨rfl,rfl,rfl⟩
theorem Ctx.Good.setS {X:Ctx} (h:X.Good) (j:Nat) (S:Nat→Prop):(X.setS j S).Good where
 sync:=h.sync
 pos:=h.pos
 jobs:=fun i hi=>by
  by_cases e:i=j
  ·subst e;rw [setS_same];exact (h.jobs i hi).setS S
  ·rw [setS_ne e];exact h.jobs i hi
 anch:=h.anch
 anchR:=h.anchR
 glue:=h.glue
 few:=h.few
 pks:=h.pks
 nums:=h.nums
 shun:=h.shun
section
variable {X:Ctx} {s:St} {n:Nat} {gs:Array Goroutine} {w w':World} {sl:Option (Nat×Nat)} {t:Trace} {a a':Goroutine}
theorem spawn_ops (t:Trace) (fn:FuncId) (pos:String) (k:Nat) (x y:MemOp):t++((MemOp.ofEvents 0 fn pos #[]).push x |>.push y)=t++#[x,y]:=by
 simp [ofEvents_eq]
set_option maxHeartbeats 1000000 in
theorem At.fork [Zeros X.P] [Codes X.P] (hX:X.Good) (h:At X s w a) (hr:a.status=.running) (hsp:s.tag=.sp) (hp:s.p=1) (hd:s.d0=0) (hj:s.j < X.N.n) {S':Nat→Prop} (hS:∀ b,S' b→s.V b) {Post:Goroutine→World→Prop}
  (hgo:∀ w₁,RK X.N.ty X.N.Wg s.V w w₁→∃ a' child,stepG X.P true a w₁=.spawn a' child w₁ #[]∧(∃ m,Goes X.P false (RK X.N.ty X.N.Wg S') (DQ S') (AtCall X.P X.N ((X.J s.j).setS S')) m child w₁)∧Post a' w₁) :
  ∃ s' w' a',At (X.setS s.j S') s' w' a'∧Post a' w'∧s'.j=s.j+1∧s'.p=0∧s'.d0=0∧s'.V=s.V∧s'.W=(fun b=>s.W b∧¬ S' b)∧s'.tag=.sp∧s'.got=s.got∧∀ b,s.V b→w'.heap[b]? = w.heap[b]?:=by
 obtain ⟨n,gs,sl,t,hn⟩:=h
 obtain ⟨n1,s1,gs1,w1,sl1,t1,d,sl2,f1,f2,f3,f4,f5⟩:=hn.turn hX hr
 obtain ⟨a',child,e1,⟨m,e2⟩,e3⟩:=hgo (w1.at d) (f4.rk f2)
 have hB:=hX.pos
 have hsp1:s1.tag=.sp:=f2.sp.2 hsp
 have hp1:s1.p=1:=f2.p.trans hp
 have hd1:s1.d0=0:=f2.d0.trans hd
 have hj1:s1.j=s.j:=f2.j
 have hsz:=f4.size.1 hsp1
 have hz:=f4.zone
 have hT:=runT_crowd_spawn (P:=X.P) (sl:=sl2) (i:=0) f1.main e1
 rw [hsz] at hT
 have hun:=f4.un s.j (by omega) hj
 have hchild:child.status=.running:=by
  have:=(WSit.pre (pk:=X.pk) (m0:=X.m0) (t0:=X.t0) (Gt:=X.Gt) (J:=(X.setS s.j S').J) (i:=s.j) (n:=n1+1) (by rw [setS_same];exact e2) (by rw [setS_same];exact hun.2)).runs (by simp)
  exact this
 generalize hx:({ g:=0,fn:=a.frame.fn,pos:=a.frame.place,act:=.go (X.N.B+s1.j) }:MemOp)=x at hT
 generalize hy:({ g:=X.N.B+s1.j,fn:=child.frame.fn,pos:=a.frame.place,act:=.start }:MemOp)=y at hT
 have hx1:x.g=0∧x.act=.go (X.N.B+s1.j):=by subst hx;exact ⟨rfl,rfl⟩
 have hy1:y.g=X.N.B+s1.j∧y.act=.start:=by subst hy;exact ⟨rfl,rfl⟩
 have hDst:∀ op∈#[x,y],op.act≠.mark .disable∧op.act≠.mark .enable:=fun op hop=>by
  simp only [List.mem_toArray,List.mem_cons,List.not_mem_nil,or_false] at hop
  rcases hop with rfl | rfl
  ·rw [hx1.2];simp
  ·rw [hy1.2];simp
 have hmut:∀ op∈#[x,y],op.act.touch? = none:=fun op hop=>by
  simp only [List.mem_toArray,List.mem_cons,List.not_mem_nil,or_false] at hop
  rcases hop with rfl | rfl
  ·rw [hx1.2];rfl
  ·rw [hy1.2];rfl
 have hDeaf:∀ k,Deaf (t1++#[x,y]) k=Deaf t1 k:=fun k=>Deaf_still t1 k _ hDst
 have hDj:Deaf t1 (X.N.B+s1.j)=0:=f4.fresh _ (by omega)
 obtain ⟨st,sm,hw,hm⟩:=f4.wg
 obtain ⟨rfl,rfl,ho,_⟩:=hm.opened (by rw [hsp1];trivial)
 have hDi:∀ i,i < s1.j→upd s1.D s.j (⟨10,m,0,(X.J s.j).ρ,undef⟩:WD) i=s1.D i:=fun i hi=>upd_ne _ _ (by omega)
 have hρ:∀ i,(upd s1.D s.j (⟨10,m,0,(X.J s.j).ρ,undef⟩:WD) i).ρ=(s1.D i).ρ:=fun i=>by
  by_cases e:i=s.j
  ·subst e;rw [upd_same];exact hun.1.symm
  ·rw [upd_ne _ _ e]
 have hV1:∀ b,S' b→s1.V b:=fun b hb=>by rw [f2.V];exact hS b hb
 refine ⟨{ s1 with j:=s1.j+1,p:=0,D:=upd s1.D s.j ⟨10,m,0,(X.J s.j).ρ,undef⟩,W:=fun b=>s1.W b∧¬ S' b },w1.at d,a',⟨n1+1,(gs1.setIfInBounds 0 a').push child,sl2,t1++#[x,y],?_,?_,?_⟩,e3,by simp only [hj1],rfl,hd1,f2.V,by simp only [f2.W],hsp1,f2.got,f2.heap⟩
 ·have:=run_next f1.run (f3.trans hT)
  rw [spawn_ops t1 _ _ 0] at this
  exact this
 ·refine ⟨⟨fun _=>?_,fun e=>absurd hsp1 e⟩,?_,fun i g h0 h1 h2=>?_,fun i hi=>?_,fun i h1 h2=>?_,fun e=>absurd hsp1 e,by rw [hDeaf];exact f4.hear,fun j hj=>?_,⟨_,_,hw,?_⟩,?_,f4.nodup,fun i=>?_,f4.fin,?_,?_,?_,fun i hi hst=>?_,fun e=>?_,fun e=>?_,?_,f4.base⟩
  ·simp only [Array.size_push,Array.size_setIfInBounds,hsz];rfl
  ·simp only;show s1.j+1+0≤X.N.n;omega
  ·have h1':i < X.N.B:=h1
   rw [Array.getElem?_push_lt (by simp;omega),←Array.getElem?_eq_getElem,Array.getElem?_setIfInBounds_ne (by omega)] at h2
   rw [hDeaf]
   exact f4.lv i g h0 h1 h2
  ·have hi':i < s1.j+1:=hi
   have hBB:(X.setS s.j S').N=X.N:=rfl
   rcases Nat.lt_or_ge i s1.j with hlt | hge
   ·obtain ⟨g,k1,k2,k3⟩:=f4.wk i hlt
    refine ⟨g,?_,?_,by rw [hDeaf];simp only [hDi i hlt];exact k3⟩
    ·show ((gs1.setIfInBounds 0 a').push child)[X.N.B+i]? = _
     rw [Array.getElem?_push_lt (by simp;omega),←Array.getElem?_eq_getElem,Array.getElem?_setIfInBounds_ne (by omega)]
     exact k1
    ·simp only [hDi i hlt]
     exact WSit.congrJ (setS_ne (by omega)) (k2.rely hX.sync (f5 i (by omega)) (RK.refl _) (Leaves.refl _ _) rfl)
   ·obtain rfl:i=s.j:=by omega
    refine ⟨child,?_,?_,?_⟩
    ·show ((gs1.setIfInBounds 0 a').push child)[X.N.B+s.j]? = _
     rw [show X.N.B+s.j=(gs1.setIfInBounds 0 a').size by simp [hsz,hj1],Array.getElem?_push_size]
    ·simp only [upd_same]
     have hpre:=WSit.pre (P:=X.P) (N:=X.N) (pk:=X.pk) (m0:=X.m0) (t0:=X.t0) (Gt:=X.Gt) (J:=(X.setS s.j S').J) (i:=s.j) (n:=n1+1) (by rw [setS_same];exact e2) (by rw [setS_same];exact hun.2)
     rw [setS_same] at hpre
     exact hpre
    ·rw [hDeaf]
     simp only [upd_same]
     show Deaf t1 (X.N.B+s.j)=0
     rw [←hj1];exact hDj
  ·have h1':s1.j+1≤i:=h1
   have h2':i < X.N.n:=h2
   have hu:=f4.un i (by omega) h2'
   simp only [upd_ne s1.D (⟨10,m,0,(X.J s.j).ρ,undef⟩:WD) (show i≠s.j by omega),(setS_ρ (X:=X) (j:=s.j) (S:=S') i).1,(setS_ρ (X:=X) (j:=s.j) (S:=S') i).2.1]
   exact hu
  ·rw [hDeaf]
   simp only [Array.size_push,Array.size_setIfInBounds] at hj
   exact f4.fresh j (by omega)
  ·have hv:Vc (s1.j+1) (upd s1.D s.j (⟨10,m,0,(X.J s.j).ρ,undef⟩:WD))=Vc s1.j s1.D+1:=by
    unfold Vc
    rw [sumTo,sumTo_congr (g:=fun i=>cnt (s1.D i)) fun i hi=>by rw [hDi i hi],hj1,upd_same]
    rfl
   rw [hp1,←hv]
   have:=Mode.opn (p:=0) (D:=upd s1.D s.j (⟨10,m,0,(X.J s.j).ρ,undef⟩:WD)) (j:=s1.j+1) (tag:=s1.tag) (by rw [hsp1];trivial) (fun i hi=>?_) (fun vs e=>by rw [hsp1] at e;cases e)
   ·rw [Nat.add_zero] at this;exact this
   ·rcases Nat.lt_or_ge i s1.j with hlt | hge
    ·rw [hDi i hlt];exact ho i hlt
    ·rw [show i=s.j by omega,upd_same];exact .inl (by simp)
  ·have hl:(s1.wait.map fun i=>((X.setS s.j S').J i).msg (upd s1.D s.j (⟨10,m,0,(X.J s.j).ρ,undef⟩:WD) i).v)=s1.wait.map fun i=>(X.J i).msg (s1.D i).v:=List.map_congr_left fun i hi=>by
    have:=((f4.list i).1 (List.mem_append_right _ hi)).1
    rw [hDi i this,(setS_ρ i).2.2]
   simp only
   rw [hl]
   exact f4.back
  ·rw [f4.list]
   simp only
   constructor
   ·rintro ⟨k1,k2⟩
    exact ⟨by omega,by rw [hDi i k1];exact k2⟩
   ·rintro ⟨k1,k2⟩
    rcases Nat.lt_or_ge i s1.j with hlt | hge
    ·rw [hDi i hlt] at k2;exact ⟨hlt,k2⟩
    ·rw [show i=s.j by omega,upd_same] at k2
     simp at k2
  ·have eR:∀ k,KP X s1 k→RdP (X.setS s.j S') k=RdP X k:=fun k hk=>by
    funext l
    unfold RdP
    refine propext (exists_congr fun b=>and_congr_right fun _=>or_congr (exists_congr fun i=>and_congr_right fun hi=>and_congr_right fun e=>?_) Iff.rfl)
    have:i≠s.j:=fun e'=>by
     rcases hk with ⟨a1,a2⟩ | ⟨a1,_⟩
     ·have e2:k=X.N.B+i:=e
      omega
     ·exact a1 hsp1
    rw [setS_ne this]
   have eO:OwnP (X.setS s.j S') { s1 with j:=s1.j+1,p:=0,D:=upd s1.D s.j ⟨10,m,0,(X.J s.j).ρ,undef⟩,W:=fun b=>s1.W b∧¬ S' b }=OwnP X s1:=by
    funext k l
    unfold OwnP
    simp only [hρ]
    rfl
   have eK:KP (X.setS s.j S') { s1 with j:=s1.j+1,p:=0,D:=upd s1.D s.j ⟨10,m,0,(X.J s.j).ρ,undef⟩,W:=fun b=>s1.W b∧¬ S' b }=fun k=>KP X s1 k∨k=X.N.B+s1.j:=by
    funext k
    refine propext ⟨fun hk=>?_,fun hk=>?_⟩
    ·rcases hk with ⟨a1,a2⟩ | ⟨a1,_⟩
     ·have a1':X.N.B≤k:=a1
      have a2':k < X.N.B+(s1.j+1):=a2
      by_cases e:k=X.N.B+s1.j
      ·exact .inr e
      ·exact .inl (.inl ⟨a1',by omega⟩)
     ·exact absurd hsp1 a1
    ·rcases hk with (⟨a1,a2⟩ | ⟨a1,_⟩) | e
     ·exact .inl ⟨a1,show k < X.N.B+(s1.j+1) by omega⟩
     ·exact absurd hsp1 a1
     ·exact .inl ⟨show X.N.B≤k by omega,show k < X.N.B+(s1.j+1) by omega⟩
   have ec:sayer (X.setS s.j S') { s1 with j:=s1.j+1,p:=0,D:=upd s1.D s.j ⟨10,m,0,(X.J s.j).ρ,undef⟩,W:=fun b=>s1.W b∧¬ S' b }=sayer X s1:=rfl
   rw [eO,eK,ec]
   have htr:=f4.tr.congr (Rd':=RdP (X.setS s.j S')) (fun _ _=>rfl) eR
   have A:Apart (ShP X.N) X.Shun (OwnP X s1) (RdP (X.setS s.j S')) (KP X s1):=by
    have A0:=hz.apt hX (show s1.j≤X.N.n by omega)
    exact ⟨A0.own,fun k k' l hk hk'=>by rw [eR k' hk'];exact A0.ownRd k k' l hk hk',A0.ownSh,fun k l hk=>by rw [eR k hk];exact A0.rdSh k l hk,A0.zero,A0.shMem⟩
   refine PT.fork A htr (k:=X.N.B+s1.j) (by omega) (fun hk=>?_) hx1 hy1 (by rw [f4.hear,hd1]) hDj (fun l _ hl=>?_) (fun l _ hl=>?_) (.inl rfl)
   ·rcases hk with ⟨_,a2⟩ | ⟨a1,_⟩
    ·omega
    ·exact a1 hsp1
   ·obtain ⟨i,hi,e,hl⟩:=hl
    have hij:i=s.j:=by omega
    subst hij
    obtain ⟨b,p,k1,k2⟩:=hl.block
    have hb:=hz.lt _ hj b p k1
    refine ⟨fun hs=>?_,hz.shun _ hj b p l k1 k2,fun k' hk'=>⟨fun ⟨i',hi',e',hl'⟩=>?_,fun ⟨b',hb',hS'⟩=>?_⟩⟩
    ·rcases hs.block with q | q | q
     ·exact hb.2.2.1 (k2.uniq q)
     ·exact hb.2.2.2.1 (k2.uniq q)
     ·exact hb.2.2.2.2 (k2.uniq q)
    ·rcases hk' with ⟨a1,a2⟩ | ⟨a1,_⟩
     ·exact (hz.apart s.j i' hj hi' (by omega)).loc hl hl'
     ·exact a1 hsp1
    ·obtain rfl:=k2.uniq hb'
     refine hb.2.1 ?_
     rcases hS' with ⟨i',hi',e',hs'⟩ | ⟨e',_⟩
     ·rcases hk' with ⟨a1,a2⟩ | ⟨a1,_⟩
      ·have e'':k'=X.N.B+i':=e'
       rw [setS_ne (by omega)] at hs'
       exact (hz.sj i' (by omega) _ hs').1
      ·exact absurd hsp1 a1
     ·rcases hk' with ⟨a1,a2⟩ | ⟨a1,_⟩
      ·have e'':k'=X.N.B+X.N.n:=e'
       omega
      ·exact absurd hsp1 a1
   ·obtain ⟨b,hb,hS'⟩:=hl
    have hVb:s1.V b:=by
     rcases hS' with ⟨i',hi',e',hs'⟩ | ⟨e',_⟩
     ·have e'':X.N.B+s1.j=X.N.B+i':=e'
      have:i'=s.j:=by omega
      subst this
      rw [setS_same] at hs'
      exact hV1 b hs'
     ·have e'':X.N.B+s1.j=X.N.B+X.N.n:=e'
      omega
    have hv:=hz.v b hVb
    refine ⟨fun hs=>?_,hv.2.2.2.2 l hb,fun k' hk' ⟨i',hi',e',hl'⟩=>?_⟩
    ·rcases hs.block with q | q | q
     ·exact hv.2.1 (hb.uniq q)
     ·exact hv.2.2.1 (hb.uniq q)
     ·exact hv.2.2.2.1 (hb.uniq q)
    ·obtain ⟨y',p',k1,k2⟩:=hl'.block
     obtain rfl:=hb.uniq k2
     exact (hz.lt i' hi' y' p' k1).2.1 hVb
  ·intro op hop
   rcases Array.mem_append.1 hop with k | k
   ·exact f4.low op k
   ·simp only [List.mem_toArray,List.mem_cons,List.not_mem_nil,or_false] at k
    rcases k with rfl | rfl
    ·rw [hx1.2];trivial
    ·rw [hy1.2];trivial
  ·exact f4.norel.app fun op hop=>by
    simp only [List.mem_toArray,List.mem_cons,List.not_mem_nil,or_false] at hop
    rcases hop with rfl | rfl
    ·rw [hx1.2];simp
    ·rw [hy1.2];simp
  ·rcases Nat.lt_or_ge i s1.j with hlt | hge
   ·simp only [hDi i hlt] at hst
    obtain ⟨r,hr⟩:=f4.rel i hlt hst
    exact ⟨r,hr.mutes hmut⟩
   ·have:i < s1.j+1:=hi
    simp only [show i=s.j by omega,upd_same] at hst
    omega
  ·rw [show ({ s1 with j:=s1.j+1,p:=0,D:=upd s1.D s.j ⟨10,m,0,(X.J s.j).ρ,undef⟩,W:=fun b=>s1.W b∧¬ S' b }:St).tag=s1.tag from rfl,hsp1] at e;cases e
  ·rw [show ({ s1 with j:=s1.j+1,p:=0,D:=upd s1.D s.j ⟨10,m,0,(X.J s.j).ρ,undef⟩,W:=fun b=>s1.W b∧¬ S' b }:St).tag=s1.tag from rfl,hsp1] at e;cases e
  ·refine ⟨fun i hi b p hb=>hz.lt i hi b p (by rw [←hρ i];exact hb),fun i i' h1 h2 hne=>?_,fun i hi b p l hb=>hz.shun i hi b p l (by rw [←hρ i];exact hb),hz.v,fun b hb=>hz.wv b hb.1,fun i hi b hb=>?_,fun e=>absurd hsp1 e,hz.nums,hz.old⟩
   ·simp only [hρ]
    exact hz.apart i i' h1 h2 hne
   ·have hi':i < s1.j+1:=hi
    rcases Nat.lt_or_ge i s1.j with hlt | hge
    ·rw [setS_ne (by omega)] at hb
     have:=hz.sj i hlt b hb
     exact ⟨this.1,fun k=>this.2 k.1⟩
    ·rw [show i=s.j by omega,setS_same] at hb
     exact ⟨hV1 b hb,fun k=>k.2 hb⟩
 ·show ((gs1.setIfInBounds 0 a').push child)[0]? = some a'
  have h0:0 < gs1.size:=(Array.getElem?_eq_some_iff.1 f1.main).1
  rw [Array.getElem?_push_lt (by simpa using h0),←Array.getElem?_eq_getElem,Array.getElem?_setIfInBounds_self_of_lt h0]
end
end Go.Proofs.YtjnkcibpkkjniaaGreat.Pool
namespace Go.Proofs.YtjnkcibpkkjniaaGreat.Pool
open Go.Conc Go.ConcN Go.Proofs.YtjnkcibpkkjniaaGreat.Sim
open Go.ConcR (KK wgBlock WgAt stA smA rd wr DC0)
variable [Scope]
section
variable {X:Ctx} {s:St} {n n':Nat} {gs gs':Array Goroutine} {w w':World} {sl:Option (Nat×Nat)} {t u:Trace} {a a':Goroutine}
set_option maxHeartbeats 1000000 in
theorem At.forkC [Zeros X.P] [Codes X.P] (hX:X.Good) (h:At X s w a) (hr:a.status=.running) (hsp:s.tag=.sp) (hp:s.p=0) (hd:s.d0=0) (hj:s.j=X.N.n) (hS:∀ b,X.Sc b→s.V b) {Post:Goroutine→World→Prop}
  (hgo:∀ w₁,RK X.N.ty X.N.Wg s.V w w₁→∃ a' child,stepG X.P true a w₁=.spawn a' child w₁ #[]∧(∃ m,Goes X.P false (RK X.N.ty X.N.Wg X.Sc) (DQ X.Sc) (Says X.P false (RK X.N.ty X.N.Wg X.Sc) (Go.ConcR.mk .disable) X.Anch) m child w₁)∧Post a' w₁) :
  ∃ s' w' a',At X s' w' a'∧Post a' w'∧s'.j=X.N.n∧s'.p=0∧s'.d0=0∧s'.V=s.V∧s'.W=(fun b=>s.W b∧¬ X.Sc b)∧s'.tag≠.sp∧s'.got=s.got∧∀ b,s.V b→w'.heap[b]? = w.heap[b]?:=by
 obtain ⟨n,gs,sl,t,hn⟩:=h
 obtain ⟨n1,s1,gs1,w1,sl1,t1,d,sl2,f1,f2,f3,f4,f5⟩:=hn.turn hX hr
 obtain ⟨a',child,e1,⟨m,e2⟩,e3⟩:=hgo (w1.at d) (f4.rk f2)
 have hB:=hX.pos
 have hsp1:s1.tag=.sp:=f2.sp.2 hsp
 have hp1:s1.p=0:=f2.p.trans hp
 have hd1:s1.d0=0:=f2.d0.trans hd
 have hj1:s1.j=X.N.n:=f2.j.trans hj
 have hsz:=f4.size.1 hsp1
 have hz:=f4.zone
 have hT:=runT_crowd_spawn (P:=X.P) (sl:=sl2) (i:=0) f1.main e1
 rw [hsz,hj1] at hT
 generalize hx:({ g:=0,fn:=a.frame.fn,pos:=a.frame.place,act:=.go (X.N.B+X.N.n) }:MemOp)=x at hT
 generalize hy:({ g:=X.N.B+X.N.n,fn:=child.frame.fn,pos:=a.frame.place,act:=.start }:MemOp)=y at hT
 have hx1:x.g=0∧x.act=.go (X.N.B+X.N.n):=by subst hx;exact ⟨rfl,rfl⟩
 have hy1:y.g=X.N.B+X.N.n∧y.act=.start:=by subst hy;exact ⟨rfl,rfl⟩
 have hDst:∀ op∈#[x,y],op.act≠.mark .disable∧op.act≠.mark .enable:=fun op hop=>by
  simp only [List.mem_toArray,List.mem_cons,List.not_mem_nil,or_false] at hop
  rcases hop with rfl | rfl
  ·rw [hx1.2];simp
  ·rw [hy1.2];simp
 have hmut:∀ op∈#[x,y],op.act.touch? = none:=fun op hop=>by
  simp only [List.mem_toArray,List.mem_cons,List.not_mem_nil,or_false] at hop
  rcases hop with rfl | rfl
  ·rw [hx1.2];rfl
  ·rw [hy1.2];rfl
 have hDeaf:∀ k,Deaf (t1++#[x,y]) k=Deaf t1 k:=fun k=>Deaf_still t1 k _ hDst
 have hDj:Deaf t1 (X.N.B+X.N.n)=0:=f4.fresh _ (by omega)
 obtain ⟨st,sm,hw,hm⟩:=f4.wg
 obtain ⟨rfl,rfl,ho,_⟩:=hm.opened (by rw [hsp1];trivial)
 have hV1:∀ b,X.Sc b→s1.V b:=fun b hb=>by rw [f2.V];exact hS b hb
 refine ⟨{ s1 with tag:=.kd,fc:=m,dc:=0,W:=fun b=>s1.W b∧¬ X.Sc b },w1.at d,a',⟨n1+1,(gs1.setIfInBounds 0 a').push child,sl2,t1++#[x,y],?_,?_,?_⟩,e3,hj1,hp1,hd1,f2.V,by simp only [f2.W],by simp,f2.got,f2.heap⟩
 ·have:=run_next f1.run (f3.trans hT)
  rw [spawn_ops t1 _ _ 0] at this
  exact this
 ·refine ⟨⟨(fun e=>nomatch e),fun _=>⟨?_,hj1,hp1⟩⟩,f4.jn,fun i g h0 h1 h2=>?_,fun i hi=>?_,fun i h1 h2=>?_,fun _=>⟨child,?_, .kd e2,by rw [hDeaf,hDj]⟩,by rw [hDeaf];exact f4.hear,fun j hj=>?_,⟨_,_,hw, .opn trivial ho fun vs e=>by cases e⟩,f4.back,f4.nodup,f4.list,by rw [f4.fin,hsp1];rfl,?_,?_,?_,fun i hi hst=>?_,(fun e=>nomatch e),(fun e=>nomatch e),?_,f4.base⟩
  ·simp only [Array.size_push,Array.size_setIfInBounds,hsz,hj1]
  ·have h1':i < X.N.B:=h1
   rw [Array.getElem?_push_lt (by simp;omega),←Array.getElem?_eq_getElem,Array.getElem?_setIfInBounds_ne (by omega)] at h2
   rw [hDeaf]
   exact f4.lv i g h0 h1 h2
  ·have hi':i < s1.j:=hi
   obtain ⟨g,k1,k2,k3⟩:=f4.wk i hi'
   refine ⟨g,?_,k2.rely hX.sync (f5 i (by omega)) (RK.refl _) (Leaves.refl _ _) rfl,by rw [hDeaf];exact k3⟩
   rw [Array.getElem?_push_lt (by simp;omega),←Array.getElem?_eq_getElem,Array.getElem?_setIfInBounds_ne (by omega)]
   exact k1
  ·exact f4.un i h1 h2
  ·rw [show X.N.B+X.N.n=(gs1.setIfInBounds 0 a').size by simp [hsz,hj1],Array.getElem?_push_size]
  ·rw [hDeaf]
   simp only [Array.size_push,Array.size_setIfInBounds] at hj
   exact f4.fresh j (by omega)
  ·have eK:KP X { s1 with tag:=.kd,fc:=m,dc:=0,W:=fun b=>s1.W b∧¬ X.Sc b }=fun k=>KP X s1 k∨k=X.N.B+X.N.n:=by
    funext k
    refine propext ⟨fun hk=>?_,fun hk=>?_⟩
    ·rcases hk with k1 | ⟨_,k2⟩
     ·exact .inl (.inl k1)
     ·exact .inr k2
    ·rcases hk with (k1 | ⟨k1,_⟩) | e
     ·exact .inl k1
     ·exact absurd hsp1 k1
     ·exact .inr ⟨by simp,e⟩
   have ec:sayer X { s1 with tag:=.kd,fc:=m,dc:=0,W:=fun b=>s1.W b∧¬ X.Sc b }=X.N.B+X.N.n:=rfl
   have eO:OwnP X { s1 with tag:=.kd,fc:=m,dc:=0,W:=fun b=>s1.W b∧¬ X.Sc b }=OwnP X s1:=rfl
   rw [eO,eK,ec]
   have htr:=f4.tr
   rw [sayer_sp hsp1] at htr
   have A:=hz.apt hX (show s1.j≤X.N.n by omega)
   refine PT.fork A htr (k:=X.N.B+X.N.n) (by omega) (fun hk=>?_) hx1 hy1 (by rw [f4.hear,hd1]) hDj (fun l _ hl=>?_) (fun l _ hl=>?_) (.inr ⟨rfl,rfl⟩)
   ·rcases hk with ⟨_,a2⟩ | ⟨a1,_⟩
    ·omega
    ·exact a1 hsp1
   ·obtain ⟨i,hi,e,_⟩:=hl
    omega
   ·obtain ⟨b,hb,hS'⟩:=hl
    have hVb:s1.V b:=by
     rcases hS' with ⟨i',hi',e',_⟩ | ⟨_,hs'⟩
     ·omega
     ·exact hV1 b hs'
    have hv:=hz.v b hVb
    refine ⟨fun hs=>?_,hv.2.2.2.2 l hb,fun k' hk' ⟨i',hi',e',hl'⟩=>?_⟩
    ·rcases hs.block with q | q | q
     ·exact hv.2.1 (hb.uniq q)
     ·exact hv.2.2.1 (hb.uniq q)
     ·exact hv.2.2.2.1 (hb.uniq q)
    ·obtain ⟨y',p',k1,k2⟩:=hl'.block
     obtain rfl:=hb.uniq k2
     exact (hz.lt i' hi' y' p' k1).2.1 hVb
  ·intro op hop
   rcases Array.mem_append.1 hop with k | k
   ·exact f4.low op k
   ·simp only [List.mem_toArray,List.mem_cons,List.not_mem_nil,or_false] at k
    rcases k with rfl | rfl
    ·rw [hx1.2];trivial
    ·rw [hy1.2];trivial
  ·exact f4.norel.app fun op hop=>by
    simp only [List.mem_toArray,List.mem_cons,List.not_mem_nil,or_false] at hop
    rcases hop with rfl | rfl
    ·rw [hx1.2];simp
    ·rw [hy1.2];simp
  ·obtain ⟨r,hr⟩:=f4.rel i hi hst
   exact ⟨r,hr.mutes hmut⟩
  ·exact ⟨hz.lt,hz.apart,hz.shun,hz.v,fun b hb=>hz.wv b hb.1,fun i hi b hb=>⟨(hz.sj i hi b hb).1,fun k=>(hz.sj i hi b hb).2 k.1⟩,fun _ b hb=>⟨hV1 b hb,fun k=>k.2 hb⟩,hz.nums,hz.old⟩
 ·show ((gs1.setIfInBounds 0 a').push child)[0]? = some a'
  have h0:0 < gs1.size:=(Array.getElem?_eq_some_iff.1 f1.main).1
  rw [Array.getElem?_push_lt (by simpa using h0),←Array.getElem?_eq_getElem,Array.getElem?_setIfInBounds_self_of_lt h0]
theorem Crew.taken (hX:X.Good) (h:Crew X s n gs w t) (hsz:gs'.size=gs.size) (hgo:∀ k,0 < k→gs'[k]? = gs[k]?)
  (hn:∀ i',i' < X.N.n→sums (segOf X.P X.pk (X.N.B+i') X.m0 X.t0) n'=sums (segOf X.P X.pk (X.N.B+i') X.m0 X.t0) n)
  {got' wait':List Nat} (hl:got'++wait'=s.got++s.wait)
  (hCB:w'.heap[X.N.CB]? = some (.chan X.N.n (wait'.map fun i=>(X.J i).msg (s.D i).v).toArray false (got'.length+wait'.length) got'.length false)) (hheap:∀ b,b≠X.N.CB→w'.heap[b]? = w.heap[b]?) (hsize:w'.heap.size=w.heap.size) (hos:w'.os=w.os)
  (hu1:∀ op∈u,op.act.touch? = none) (hu2:∀ op∈u,op.act.low w.heap.size) (hu3:∀ op∈u,op.g=0) (hu4:∀ op∈u,op.act≠.mark .disable∧op.act≠.mark .enable) (hu5:∀ op∈u,op.act≠.mark (.release (stA X.N.Wg))) :
  Crew X { s with got:=got',wait:=wait' } n' gs' w' (t++u):=by
 have hB:=hX.pos
 have hjn:=h.jn
 have hDeaf:∀ k,Deaf (t++u) k=Deaf t k:=fun k=>Deaf_still t k u hu4
 have hRK:∀ S:Nat→Prop,(∀ b,S b→s.V b)→RK X.N.ty X.N.Wg S w w':=fun S hS=>⟨fun b hb=>hheap b (h.zone.v b (hS b hb)).2.2.1,fun ⟨a,b,k⟩=>⟨a,b,getWg k (hheap _ hX.nums.1)⟩⟩
 have hLv:∀ i',i' < X.N.n→Leaves (s.D i').ρ w w':=fun i' hi'=>Leaves.block fun b p hb=>hheap _ (h.zone.lt i' hi' b p hb).2.2.2.1
 obtain ⟨st,sm,hw,hm⟩:=h.wg
 refine ⟨by rw [hsz];exact h.size,h.jn,fun i' g1 h0 h1 h2=>?_,fun i' hi'=>?_,fun i' h1 h2=>?_,fun ht=>?_,by rw [hDeaf];exact h.hear,fun j hj=>?_,⟨st,sm,getWg hw (hheap _ hX.nums.1),hm⟩,hCB,by rw [show ({ s with got:=got',wait:=wait' }:St).got++({ s with got:=got',wait:=wait' }:St).wait=got'++wait' from rfl,hl];exact h.nodup,fun i'=>by
  show i'∈got'++wait'↔_
  rw [hl];exact h.list i',by rw [hheap _ (Ne.symm hX.nums.2.2)];exact h.fin,?_,?_,?_,fun i' hi' hst=>?_,fun ht=>?_,fun ht=>?_,⟨by rw [hsize];exact h.zone.lt,h.zone.apart,h.zone.shun,by rw [hsize];exact h.zone.v,h.zone.wv,h.zone.sj,h.zone.sc,by rw [hsize];exact h.zone.nums,by rw [hsize];exact h.zone.old⟩,by rw [hsize];exact h.base⟩
 ·rw [hgo i' h0] at h2
  rw [hDeaf]
  exact h.lv i' g1 h0 h1 h2
 ·have hi'':i' < s.j:=hi'
  obtain ⟨g1,e1,e2,e3⟩:=h.wk i' hi'
  exact ⟨g1,by rw [hgo _ (by omega)];exact e1,e2.rely hX.sync (hn i' (by omega)) (hRK _ fun b hb=>(h.zone.sj i' hi' b hb).1) (hLv i' (by omega)) hos,by rw [hDeaf];exact e3⟩
 ·have hu':=h.un i' h1 h2
  have hle:=hLv i' h2
  rw [hu'.1] at hle
  exact ⟨hu'.1,HR.leaves hX.sync hu'.2 hle hos⟩
 ·obtain ⟨a,k1,k2,k3⟩:=h.cl ht
  exact ⟨a,by rw [hgo _ (by omega)];exact k1,k2.rely (hRK _ fun b hb=>(h.zone.sc ht b hb).1),by rw [hDeaf];exact k3⟩
 ·rw [hDeaf]
  exact h.fresh j (by rw [←hsz];exact hj)
 ·have:=PT.appMutes u.toList h.tr (fun op hop=>hu1 op (by simpa using hop))
  have h2:PT (ShP X.N) X.Shun (OwnP X s) (RdP X) (KP X s) (sayer X s) (t++u):=by simpa using this
  exact h2
 ·intro op hop
  rw [hsize]
  rcases Array.mem_append.1 hop with k | k
  ·exact h.low op k
  ·exact hu2 op k
 ·exact h.norel.app fun op hop=>hu5 op hop
 ·obtain ⟨r,hr⟩:=h.rel i' hi' hst
  exact ⟨r,hr.mutes hu1⟩
 ·obtain ⟨q,hq⟩:=h.acq ht
  exact ⟨q,hq.app fun i' r _ hr=>hr.mutes hu1⟩
 ·obtain ⟨q,p,hq⟩:=h.cls ht
  exact ⟨q,p,hq.app (fun i' r _ hr=>hr.mutes hu1) fun op hop _=>hu1 op hop⟩
theorem Crew.leave (hX:X.Good) (h:Crew X s n gs w t) (hq:s.tag=.qt) (hd:s.d0=0) (hsz:gs'.size=gs.size) (hgo:∀ k,0 < k→gs'[k]? = gs[k]?) {y:MemOp} (hy:y.g=0∧y.act=.recvClosed X.N.CF) :
  (∃ q,Leavers X.P (t++#[y]) gs' q)∧Past (fun l=>X.Shun l∨ShP X.N l) w.heap.size (t++#[y])∧∀ i,i < X.N.n→Done (X.J i) (s.D i).ρ (s.D i).v w∧i∈s.got++s.wait:=by
 have hB:=hX.pos
 have ht:s.tag≠.sp:=by rw [hq];simp
 obtain ⟨hgsz,hj,hp⟩:=h.size.2 ht
 obtain ⟨st,sm,hw,hm⟩:=h.wg
 obtain ⟨_,_,_,hall⟩:=hm.fins (by rw [hq];trivial)
 obtain ⟨qa,pc,hc⟩:=h.cls hq
 have hmut:∀ op∈#[y],op.act.touch? = none:=fun op hop=>by rw [Array.mem_singleton] at hop;rw [hop,hy.2];rfl
 have hstill:∀ op∈#[y],op.act≠.mark .disable∧op.act≠.mark .enable:=fun op hop=>by rw [Array.mem_singleton] at hop;rw [hop,hy.2];simp
 have hDeaf:∀ k,Deaf (t++#[y]) k=Deaf t k:=fun k=>Deaf_still t k _ hstill
 have hyp:(t++#[y])[t.size]? = some y:=by rw [Array.getElem?_append_right (Nat.le_refl _)];simp
 have hyh:(t++#[y]).heard t.size:=⟨0,by simp [Trace.g?,hyp,hy.1],by rw [deaf_old (Nat.le_refl _)];exact h.hear.trans hd⟩
 have hc':Cls X (t++#[y]) qa pc:=hc.app (fun i r _ hr=>hr.mutes hmut) fun op hop _=>hmut op hop
 have hno:NoRelease (stA X.N.Wg) (t++#[y]):=h.norel.app fun op hop=>by rw [Array.mem_singleton] at hop;rw [hop,hy.2];simp
 have hcl:HappensBefore (t++#[y]) pc t.size:=.single (.inr ⟨.closed (c:=X.N.CF) hc'.act (by rw [act?_of hyp,hy.2]),hc'.heard,hyh⟩)
 have hac:HappensBefore (t++#[y]) qa pc:=.single (.inl ⟨hc'.lt,_,hc'.acq.g,hc'.g⟩)
 have hg0:(t++#[y]).g? t.size=some 0:=by simp [Trace.g?,hyp,hy.1]
 have known:∀ i,HappensBefore (t++#[y]) i t.size→Knows (t++#[y]) 0 i:=fun i hi=>⟨t.size,y,hyp,hy.1, .inr hi⟩
 have wrk:∀ k,k < X.N.n→∃ r,Rl X.N (t++#[y]) (X.N.B+k) r∧∀ i,i≤r→(t++#[y]).g? i=some (X.N.B+k)→HappensBefore (t++#[y]) i t.size:=fun k hk=>by
  obtain ⟨r,hr,hrq⟩:=hc'.acq.all k hk
  have e1:HappensBefore (t++#[y]) r qa:=.single (.inr ⟨.marked hrq (.inr hr.rel.act) hc'.acq.act (fun k _ _=>hno k),hr.rel.heard,hc'.acq.heard⟩)
  refine ⟨r,hr,fun i hi hg=>?_⟩
  rcases Nat.lt_or_ge i r with hlt | hge
  ·have e0:HappensBefore (t++#[y]) i r:=.single (.inl ⟨hlt,_,hg,hr.rel.g⟩)
   exact ((e0.trans e1).trans hac).trans hcl
  ·obtain rfl:i=r:=by omega
   exact (e1.trans hac).trans hcl
 have clo:∀ i op,(t++#[y])[i]? = some op→op.g=X.N.B+X.N.n→op.act.touch?≠none→HappensBefore (t++#[y]) i t.size:=fun i op ho hg htn=>by
  rcases Nat.lt_trichotomy i pc with hlt | rfl | hgt
  ·have e0:HappensBefore (t++#[y]) i pc:=.single (.inl ⟨hlt,_,by unfold Trace.g?;rw [ho];exact congrArg some hg,hc'.g⟩)
   exact e0.trans hcl
  ·exact hcl
  ·exact absurd (hc'.after i op hgt ho hg) htn
 have hK:∀ g,KP X s g→(∃ k,k < X.N.n∧g=X.N.B+k)∨g=X.N.B+X.N.n:=fun g hg=>by
  rcases hg with ⟨a1,a2⟩ | ⟨_,a2⟩
  ·exact .inl ⟨g - X.N.B,by omega,by omega⟩
  ·exact .inr a2
 have htr:=h.tr.appMute (g:=0) (u:=#[y]) (fun op hop=>by rw [Array.mem_singleton] at hop;rw [hop];exact hy.1) hmut
 refine ⟨?_,?_,fun i hi=>?_⟩
 ·refine ⟨fun i=>if i < X.N.B then s.q i else if i < X.N.B+s.j then (s.D (i - X.N.B)).fuel else s.fc,fun i g h0 hg=>?_,fun k hk=>?_⟩
  ·rw [hgo i h0] at hg
   rw [hDeaf]
   have hlt:i < gs.size:=(Array.getElem?_eq_some_iff.1 hg).1
   by_cases h1:i < X.N.B
   ·simp only [h1,if_true];exact h.lv i g h0 h1 hg
   ·by_cases h2:i < X.N.B+s.j
    ·simp only [h1,h2,if_true,if_false]
     obtain ⟨g1,e1,e2,e3⟩:=h.wk (i - X.N.B) (by omega)
     rw [show X.N.B+(i - X.N.B)=i by omega] at e1 e3
     rw [hg] at e1
     obtain rfl:=Option.some.inj e1
     rw [e3]
     have hs1:=hall (i - X.N.B) (by omega)
     generalize s.D (i - X.N.B)=dd at e2 hs1
     cases e2 with
     | quit hq _=>exact hq
     | _=>simp at hs1
    ·simp only [h1,h2,if_false]
     obtain ⟨g1,e1,e2,e3⟩:=h.cl ht
     have:i=X.N.B+X.N.n:=by omega
     subst this
     rw [hg] at e1
     obtain rfl:=Option.some.inj e1
     rw [e3]
     rw [hq] at e2
     generalize s.fc=fc,s.dc=dc at e2
     cases e2 with
     | qt hq=>exact hq
  ·rw [hsz] at hk
   rw [hDeaf]
   exact h.fresh _ hk
 ·refine htr.past (by rw [hDeaf];exact h.hear.trans hd) (fun op hop=>?_) (fun i op x ho hg hk hx hmm=>?_) (fun i g hg hk hcn=>?_)
  ·rcases Array.mem_append.1 hop with k | k
   ·exact h.low op k
   ·rw [Array.mem_singleton] at k
    rw [k,hy.2];exact h.zone.nums.2.2
  ·rcases hK _ hk with ⟨k,hk',e⟩ | e
   ·obtain ⟨r,hr,hkn⟩:=wrk k hk'
    rcases Nat.lt_or_ge r i with hlt | hge
    ·exact .inr (hr.soft i op x hlt ho e hx hmm)
    ·exact .inl (known i (hkn i hge (by unfold Trace.g?;rw [ho];exact congrArg some e)))
   ·exact .inl (known i (clo i op ho e (by rw [hx];simp)))
  ·refine ⟨t.size,hg0,?_⟩
   obtain ⟨op,ho,hog⟩:=Option.map_eq_some_iff.1 hg
   rcases hK _ hk with ⟨k,hk',e⟩ | e
   ·obtain ⟨r,hr,hkn⟩:=wrk k hk'
    rcases Nat.lt_or_ge r i with hlt | hge
    ·exact absurd hcn (hr.rel.after i hlt (by rw [hg,e]))
    ·exact hkn i hge (by rw [hg,e])
   ·refine clo i op ho (hog.trans e) fun hn=>?_
    obtain ⟨x,hx,_⟩:=hcn
    obtain ⟨op',ho',hx'⟩:=touch_of hx
    rw [ho] at ho'
    obtain rfl:=Option.some.inj ho'
    rw [hn] at hx';cases hx'
 ·have hs1:=hall i (by omega)
  obtain ⟨g1,e1,e2,e3⟩:=h.wk i (by omega)
  exact ⟨e2.done (by omega),(h.list i).2 ⟨by omega,by omega⟩⟩
end
end Go.Proofs.YtjnkcibpkkjniaaGreat.Pool
