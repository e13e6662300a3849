import Derived.Test.YtjnkcibpkkjniaaGreatA13
set_option linter.unusedVariables false
set_option linter.unusedSimpArgs false
set_option linter.unusedSectionVars false
namespace Go.Proofs.YtjnkcibpkkjniaaGreat.Pool
open Go.Conc Go.ConcN Go.Conc.Lib Go.ConcR.Gen Go.ConcN.Gen Go.Proofs.YtjnkcibpkkjniaaGreat.Sim
open Go.ConcR (KK wgBlock WgAt stA smA rd wr mk DC0)
variable [Scope]
theorem tab0 (p:Wk) (ret:Value):Tab w1ops (p.val ret) p.fix 22 (Array.replicate w1ops.size false) ⟨p.caps++Array.replicate 18 undef,[]⟩ where
 defers:=rfl
 size:=by simp [Wk.caps]
 fix:=fun x hx=>by
  simp only [Wk.fix,List.mem_cons,List.not_mem_nil,or_false] at hx
  rcases hx with rfl | rfl | rfl | rfl <;> (simp only;rw [Array.getElem?_append_left (by simp [Wk.caps])];rfl)
 val:=fun i o d _ hl=>by
  simp [Array.getD_eq_getD_getElem?,Array.getElem?_replicate] at hl
  split at hl <;> simp at hl
 lsz:=by simp
 deps:=fun i o _ hl=>by
  simp [Array.getD_eq_getD_getElem?,Array.getElem?_replicate] at hl
  split at hl <;> simp at hl
theorem sp1_cases {i:Nat} (h:sp1 i=true):i=16∨i=18:=by simpa [sp1] using h
theorem unl_le (ops:Array Oper) (l:Array Bool):unl ops l≤ops.size:=by
 unfold unl
 exact Nat.le_trans (List.length_filter_le _ _) (by simp)
theorem ready_not {ops:Array Oper} {listed:Array Bool} {i:Nat} (hs:listed.size=ops.size) (h:i∈Region.ready .any ops listed):listed.getD i false=false:=by
 obtain ⟨h1,o,ho,_⟩:=mem_ready.1 h
 have hi:i < listed.size:=by rw [hs];exact (Array.getElem?_eq_some_iff.1 ho).1
 rw [Array.getD_eq_getD_getElem?,Array.getElem?_eq_getElem hi] at h1 ⊢
 simpa using h1
theorem RKp.refl (p:Wk) (w:World):RKp p w w:=RK.refl w
theorem lit_kind:lit.kind≠.early:=by decide
theorem ready18 {val:Nat→Value} {fix:List (Nat×Value)} {T:Nat} {listed:Array Bool} {a:Act} (ht:Tab w1ops val fix T listed a) (hr:18∈Region.ready .any w1ops listed):listed.getD 16 false=true∧listed.getD 17 false=true∧listed.getD 0 false=true:=by
 obtain ⟨_,o,ho,h⟩:=mem_ready.1 hr
 have e:w1ops[18]? = some o:=ho
 simp only [w1ops,Tryz.f59,List.getElem?_toArray,List.getElem?_cons_succ,List.getElem?_cons_zero,Option.some.injEq] at e
 subst e
 simp [Region.binds] at h
 simp only [Array.getD_eq_getD_getElem?]
 exact ⟨h.2.2,h.2.1,h.1⟩
theorem dep16 {val:Nat→Value} {fix:List (Nat×Value)} {T:Nat} {listed:Array Bool} {a:Act} (ht:Tab w1ops val fix T listed a) (h:listed.getD 17 false=true):listed.getD 16 false=true:=by
 obtain ⟨o,ho⟩:∃ o,w1ops[17]? = some o:=⟨_,rfl⟩
 have hd:=ht.deps 17 o ho h
 have e:w1ops[17]? = some o:=ho
 simp only [w1ops,Tryz.f59,List.getElem?_toArray,List.getElem?_cons_succ,List.getElem?_cons_zero,Option.some.injEq] at e
 subst e
 simp [Region.binds] at hd
 rw [Array.getD_eq_getD_getElem?]
 exact hd.2
theorem ready16 {p:Wk} {ret:Value} {listed:Array Bool} {a:Act} (ht:Tab w1ops (p.val ret) p.fix 22 listed a) (hr:16∈Region.ready .any w1ops listed) :
  a.tmps[11]? = some (p.val ret 7)∧a.tmps[15]? = some (p.val ret 11)∧a.tmps[19]? = some (p.val ret 15):=by
 obtain ⟨o,ho,h1,h2,h3⟩:=w1_16
 have hd:=dep ht ho hr
 have e:w1ops[16]? = some o:=ho
 simp only [w1ops,Tryz.f59,List.getElem?_toArray,List.getElem?_cons_succ,List.getElem?_cons_zero,Option.some.injEq] at e
 subst e
 exact ⟨hd ⟨7, .data⟩ (by simp) (by rw [w1_size];decide) rfl _ 11 (by rfl) rfl,hd ⟨11, .data⟩ (by simp) (by rw [w1_size];decide) rfl _ 15 (by rfl) rfl,hd ⟨15, .data⟩ (by simp) (by rw [w1_size];decide) rfl _ 19 (by rfl) rfl⟩
noncomputable def litAt (p:Wk) (a:Act) (l:List Nat):Goroutine:=G (lit.at a [.inRegion w1ops l]) (under p)
theorem w_call {p:Wk} {ρ:Ren} {args:Array Value} {wS:World} {R:Value→World→Prop} {B n CF:Nat}
  (hsend:∀ (c0 c1:Value) (a:Act) (listed:Array Bool) (fuel t:Nat) (w:World),WF p w→Tab w1ops (p.val (.agg #[c0,c1])) p.fix 22 listed a→listed.getD 16 false=true→listed.getD 18 false=false→unl w1ops listed≤fuel →
   ∃ m,Goes Tryz.prog false (RKp p) (DQ p.S) (AtSend Tryz.prog (p.nums B n CF) p.S (.agg (#[.int .i64 p.i]++#[c0,c1]))) m (litAt p a (Region.linearise.go .any w1ops fuel t listed [])) w)
  {w:World} (hF:WF p w) (m:Bool) (t:Nat) :
  Goes Tryz.prog false (RKp p) (DQ p.S) (AtCall Tryz.prog (p.nums B n CF) (p.job ρ args wS R)) 19 (G (lit.at ⟨p.caps++Array.replicate 18 undef,[]⟩ [.inRegion w1ops (Region.schedule m w1ops t)]) (under p)) w:=by
 rw [sched_w1]
 unfold Region.linearise
 have hw:=lin_walk (P:=Tryz.prog) (mn:=false) (R:=RKp p) (S:=p.S) (ops:=w1ops) (val:=p.val (.agg #[undef,undef])) (fix:=p.fix) (T:=22) (sp:=sp1) (L0:=fun _=>false) (Sok:=WF p) (b:=lit) (k:=[]) (cs:=under p)
  RK.trans (fun w w₁ h hF=>hF.rely h) ok_w1 lit_kind w1_hop w1ops.size t _ _ w (tab0 p _) (fun j _=>by simp [Array.getD_eq_getD_getElem?,Array.getElem?_replicate];split <;> rfl) hF (unl_le _ _)
 rw [show w1ops.size=19 from w1_size] at hw ⊢
 refine Goes.bind (m2:=0) RK.refl (fun g w0 hs=>Goes.stop fun w' h'=>?_) hw
 obtain ⟨hF',a,listed,ht,hL,⟨i,fuel,t',hi,hr,hu,rfl⟩ | ⟨hall,rfl⟩⟩:=hs
 ·rcases sp1_cases hi with rfl | rfl
  ·replace hF':=hF'.rely h'
   obtain ⟨e11,e15,e19⟩:=ready16 ht hr
   obtain ⟨o,ho,od,oop,og⟩:=w1_16
   have hio:16 < listed.size:=by rw [ht.lsz,w1_size];decide
   have hargs:#[Operand.tmp 11,Operand.tmp 15,Operand.tmp 19].map a.eval=(p.job ρ args wS R).args':=by
    simp [Act.eval,Array.getD_eq_getD_getElem?,e11,e15,e19,Wk.job,Wk.val]
   refine ⟨rfl,lit.at a [.inRegion w1ops (16::Region.linearise.go .any w1ops fuel t' (listed.setIfInBounds 16 true) [])],under p,fun w₁ _=>?_,fun v' hv=>?_⟩
   ·have hw':Region.wanted o (yielded w1ops a.tmps)=true:=by simp [Region.wanted,og]
    rw [stepG_enter ho hw' lit_kind (run_call_body oop Tryz.func60 rfl rfl),hargs]
    have:listed=listed:=rfl
    have hl:Go.Conc.listed Tryz.prog lit.fn a o w₁=#[]:=by unfold Go.Conc.listed;rw [events_call_body oop Tryz.func60 rfl rfl];exact seen_none _ _
    rw [hl]
    rfl
   ·obtain ⟨sa,sl,sc,sb,hv⟩:=hv
    generalize (Value.slice sa sl sc)=c0,(Value.bool sb)=c1 at hv
    subst hv
    have hT:Tab w1ops (p.val (.agg #[c0,c1])) p.fix 22 (listed.setIfInBounds 16 true) (a.put o.dst (.agg #[c0,c1])):=ht.put ok_w1 ho hr rfl fun j hj=>by
     have h16:j≠16:=fun e=>by
      subst e
      rw [hL 16 rfl] at hj
      cases hj
     have h17:j≠17:=fun e=>by
      subst e
      have:=dep16 ht hj
      rw [hL 16 rfl] at this
      cases this
     unfold Wk.val
     split <;> first | rfl | exact absurd rfl h16 | exact absurd rfl h17
    have hs16:(listed.setIfInBounds 16 true).getD 16 false=true:=by rw [getD_set _ _ _ hio,if_pos rfl]
    have hs18:(listed.setIfInBounds 16 true).getD 18 false=false:=by rw [getD_set _ _ _ hio,if_neg (by decide)];exact hL 18 rfl
    have hun:=unl_set (ops:=w1ops) (listed:=listed) (i:=16) (by rw [w1_size];decide) ht.lsz (hL 16 rfl)
    obtain ⟨m,hm⟩:=hsend c0 c1 _ _ fuel t' w' hF' hT hs16 hs18 (by omega)
    refine ⟨m,?_⟩
    have e:({ frame:=(lit.at a [.inRegion w1ops (16::Region.linearise.go .any w1ops fuel t' (listed.setIfInBounds 16 true) [])]).finish (.agg #[c0,c1]),callers:=under p,status:=.running,dying:=none }:Goroutine)=litAt p (a.put o.dst (.agg #[c0,c1])) (Region.linearise.go .any w1ops fuel t' (listed.setIfInBounds 16 true) []):=by
     rw [Frame.finish_at,ho]
     rfl
    rw [e]
    exact hm
  ·have:=(ready18 ht hr).1
   rw [hL 16 rfl] at this
   cases this
 ·have:=hall 16 (by rw [w1_size];decide)
  rw [hL 16 rfl] at this
  cases this
theorem w1_18:∃ o,w1ops[18]? = some o∧o.dst=none∧o.op=.send (.tmp 4) (.tmp 21)∧o.guard=none:=⟨_,rfl,rfl,rfl,rfl⟩
theorem w_send {p:Wk} {B n CF:Nat}
  {mo:Nat} (hout:∀ (a:Act) (w:World),WF p w→a.defers=[]→Goes Tryz.prog false (RKp p) (DQ p.S) (DnR Tryz.prog false (RKp p) Tryz.link.tWg p.Wg) mo (litAt p a []) w)
  {c0 c1:Value} {a:Act} {listed:Array Bool} {fuel t:Nat} {w:World} (hF:WF p w) (hT:Tab w1ops (p.val (.agg #[c0,c1])) p.fix 22 listed a) (h16:listed.getD 16 false=true) (h18:listed.getD 18 false=false) (hu:unl w1ops listed≤fuel) :
   ∃ m,Goes Tryz.prog false (RKp p) (DQ p.S) (AtSend Tryz.prog (p.nums B n CF) p.S (.agg (#[.int .i64 p.i]++#[c0,c1]))) m (litAt p a (Region.linearise.go .any w1ops fuel t listed [])) w:=by
 have hw:=lin_walk (P:=Tryz.prog) (mn:=false) (R:=RKp p) (S:=p.S) (ops:=w1ops) (val:=p.val (.agg #[c0,c1])) (fix:=p.fix) (T:=22) (sp:=sp1) (L0:=fun i=>i == 16) (Sok:=WF p) (b:=lit) (k:=[]) (cs:=under p)
  RK.trans (fun w w₁ h hF=>hF.rely h) ok_w1 lit_kind w1_hop fuel t _ _ w hT (fun j hj=>by rcases sp1_cases hj with rfl | rfl <;> simp [h16,h18]) hF hu
 refine ⟨_,Goes.bind (m2:=0) RK.refl (fun g w0 hs=>Goes.stop fun w' h'=>?_) hw⟩
 obtain ⟨hF',a,listed,ht,hL,⟨i,fuel,t',hi,hr,hu,rfl⟩ | ⟨hall,rfl⟩⟩:=hs
 ·rcases sp1_cases hi with rfl | rfl
  ·have:=ready_not ht.lsz hr
   rw [hL 16 rfl] at this
   cases this
  ·replace hF':=hF'.rely h'
   obtain ⟨o,ho,od,oop,og⟩:=w1_18
   obtain ⟨k16,k17,k0⟩:=ready18 ht hr
   obtain ⟨o0,ho0,od0⟩:∃ o,w1ops[0]? = some o∧o.dst=some 4:=⟨_,rfl,rfl⟩
   obtain ⟨o17,ho17,od17⟩:∃ o,w1ops[17]? = some o∧o.dst=some 21:=⟨_,rfl,rfl⟩
   have e4:=ht.val 0 o0 4 ho0 k0 od0
   have e21:=ht.val 17 o17 21 ho17 k17 od17
   have hio:18 < listed.size:=by rw [ht.lsz,w1_size];decide
   have hw':Region.wanted o (yielded w1ops a.tmps)=true:=by simp [Region.wanted,og]
   have hrun:(execOp a.eval o).run Tryz.prog w'=.ok (.comm #[scase p.CB (.agg (#[.int .i64 p.i]++#[c0,c1])) (.tuple #[])] true .send) w':=by
    unfold execOp
    simp [oop,scase,Act.eval,Array.getD_eq_getD_getElem?,e4,e21,Wk.val,Value.cells]
   have hev:(execOp a.eval o).events Tryz.prog w' #[]=#[]:=by
    unfold execOp
    simp [oop]
   refine ⟨rfl,?_,?_⟩
   ·rw [stepG_comm ho hw' lit_kind hrun]
    unfold Go.Conc.listed
    rw [hev,seen_none]
    rfl
   ·have hT':Tab w1ops (p.val (.agg #[c0,c1])) p.fix 22 (listed.setIfInBounds 18 true) (a.put o.dst undef):=ht.put ok_w1 ho hr rfl fun _ _=>rfl
    have hun:=unl_set (ops:=w1ops) (listed:=listed) (i:=18) (by rw [w1_size];decide) ht.lsz (hL 18 rfl)
    have hw:=lin_walk (P:=Tryz.prog) (mn:=false) (R:=RKp p) (S:=p.S) (ops:=w1ops) (val:=p.val (.agg #[c0,c1])) (fix:=p.fix) (T:=22) (sp:=sp1) (L0:=fun _=>true) (Sok:=WF p) (b:=lit) (k:=[]) (cs:=under p)
     RK.trans (fun w w₁ h hF=>hF.rely h) ok_w1 lit_kind w1_hop fuel t' _ _ w' hT' (fun j hj=>by
      rw [getD_set _ _ _ hio]
      rcases sp1_cases hj with rfl | rfl
      ·rw [if_neg (by decide)];exact k16
      ·rw [if_pos rfl]) hF' (by omega)
    obtain ⟨e⟩:Nonempty (Go.Conc.served (G (lit.at a [.inRegion w1ops (18::Region.linearise.go .any w1ops fuel t' (listed.setIfInBounds 18 true) [])]) (under p)) undef=litAt p (a.put o.dst undef) (Region.linearise.go .any w1ops fuel t' (listed.setIfInBounds 18 true) [])):=⟨by
     unfold Go.Conc.served litAt G
     simp only
     rw [Frame.finish_at,ho]
     rfl⟩
    rw [e]
    refine ⟨_,Goes.bind (m2:=mo) RK.refl (fun g w0 hs=>?_) hw⟩
    obtain ⟨hF',a,listed,ht,hL,⟨i,fuel,t',hi,hr,hu,rfl⟩ | ⟨hall,rfl⟩⟩:=hs
    ·have:=ready_not ht.lsz hr
     rw [hL i hi] at this
     cases this
    ·exact hout a w0 hF' ht.defers
 ·have:=hall 18 (by rw [w1_size];decide)
  rw [hL 18 rfl] at this
  cases this
theorem terms_p (p:Wk):Terms2 (RKp p) (fun _=>True) Tryz.link.tWg p.Wg:=⟨RK.trans,fun _ _ h=>h.live,fun _ _ _ h=>h,fun _ _ _ _ h=>h⟩
theorem ev_eqI (d:Nat) (w:World) (es:Array Event):(Op.equalIn (d+1) 20 .nilIface .nilIface).events Tryz.prog w es=es:=by
 have h:=Tryz.underlying20
 simp [Op.equalIn,run_underlying h,underlying,h]
theorem ev_eq (w:World) (es:Array Event):(Op.equal 20 .nilIface .nilIface).events Tryz.prog w es=es:=ev_eqI 9999 w es
noncomputable def doneOps:Array Oper:=match Tryz.f78.body with
 | some (.region _ ops _)=>ops
 | _=>#[]
noncomputable def d11ops:Array Oper:=match Tryz.f77.body with
 | some (.seq _ (.region _ ops _))=>ops
 | _=>#[]
theorem w_tail {c:Frame} {cs:List Frame} {q:Nat} (hc:c.mode=.returning) (hq:QuitsD Tryz.prog q 0 (G c cs)) (T9 T0:Array Value) :
  QuitsD Tryz.prog (q+6) 0 (G ((base 78).at (Act.put ⟨T9,[]⟩ ((doneOps[1]?).bind (·.dst)) (.tuple #[])) [.inRegion doneOps []]) ((baseD 77).at ⟨T0,[]⟩ [.inRegion d11ops [1]]::c::cs)):=by
 q_c stepG_region_end
 q_c stepG_end
 refine QuitsD.leave0 rfl rfl Tryz.func78 rfl ?_
 q_c stepG_region_end
 q_c stepG_end
 refine QuitsD.ctl rfl (fun _=>stepG_leaveD rfl Tryz.func77 rfl hc) ?_
 exact hq
set_option maxRecDepth 100000 in
set_option maxHeartbeats 4000000 in
theorem w_done {p:Wk} {c:Frame} {cs:List Frame} {q:Nat} (hc:c.mode=.returning) (hq:QuitsD Tryz.prog q 0 (G c cs)) (w:World) (hF:WF p w) :
  Goes Tryz.prog false (RKp p) (DQ p.S) (DnR Tryz.prog false (RKp p) Tryz.link.tWg p.Wg) 50 (G ((baseD 77).at ⟨#[box p.bW]++Array.replicate 7 undef,[]⟩ [.code (Tryz.f77.body.getD .skip)]) (c::cs)) w:=by
 simp only [Tryz.f77,Option.getD_some]
 walk_nrm
 ((refine Goes.step rfl (fun _ h₁=>?_);replace hF:=WF.rely hF h₁;clear h₁);rw [stepG_seq];simp only [goes_go];refine ⟨DQ.nil,?_⟩)
 ((refine Goes.step rfl (fun _ h₁=>?_);replace hF:=WF.rely hF h₁;clear h₁);rw [stepG_seq];simp only [goes_go];refine ⟨DQ.nil,?_⟩)
 ((refine Goes.step rfl (fun _ h₁=>?_);replace hF:=WF.rely hF h₁;clear h₁);rw [stepG_region];simp only [goes_go,List.size_toArray,List.length_cons,List.length_nil,Nat.reduceAdd,Nat.zero_add,List.range,List.range.loop];refine ⟨DQ.nil,?_⟩)
 (refine Goes.step rfl (fun _ h₁=>?_);replace hF:=WF.rely hF h₁;clear h₁)
 rw [stepG_recover rfl rfl rfl hc]
 simp only [goes_go]
 refine ⟨DQ.nil,?_⟩
 walk_nrm
 ((refine Goes.step rfl (fun _ h₁=>?_);replace hF:=WF.rely hF h₁;clear h₁);refine goes_oper_k rfl rfl (by decide) (fun K hK=>?_);have e1:=WF.hW hF;have e2:=WF.hF hF;simp only [box] at *;go_simp;refine hK _ _ ⟨⟨⟨_,rfl⟩,fun e he=>?_⟩,?_⟩;(focus (have hm:=mem_listed he;simp [go_sem, *] at hm;(try (subst hm;exact ⟨_,rfl,by simp [Wk.S]⟩))));clear hK K e1 e2)
 ((refine Goes.step rfl (fun _ h₁=>?_);replace hF:=WF.rely hF h₁;clear h₁);rw [stepG_region_end];simp only [goes_go];refine ⟨DQ.nil,?_⟩)
 ((refine Goes.step rfl (fun _ h₁=>?_);replace hF:=WF.rely hF h₁;clear h₁);rw [stepG_seq];simp only [goes_go];refine ⟨DQ.nil,?_⟩)
 ((refine Goes.step rfl (fun _ h₁=>?_);replace hF:=WF.rely hF h₁;clear h₁);rw [stepG_region];simp only [goes_go,List.size_toArray,List.length_cons,List.length_nil,Nat.reduceAdd,Nat.zero_add,List.range,List.range.loop];refine ⟨DQ.nil,?_⟩)
 ((refine Goes.step rfl (fun _ h₁=>?_);replace hF:=WF.rely hF h₁;clear h₁);refine goes_oper_k rfl rfl (by decide) (fun K hK=>?_);have e1:=WF.hW hF;have e2:=WF.hF hF;simp only [box] at *;go_simp;refine hK _ _ ⟨⟨⟨_,rfl⟩,fun e he=>?_⟩,?_⟩;(focus (have hm:=mem_listed he;simp [go_sem, *] at hm;(try (subst hm;exact ⟨_,rfl,by simp [Wk.S]⟩))));clear hK K e1 e2)
 (refine Goes.step rfl (fun _ h₁=>?_);replace hF:=WF.rely hF h₁;clear h₁)
 refine goes_oper_k rfl rfl (by decide) (fun K hK=>?_)
 go_simp
 refine hK _ _ ⟨⟨⟨_,rfl⟩,fun e he=>?_⟩,?_⟩
 ·clear hK
  have hm:=mem_listed he
  clear he
  simp [binOp,go_sem,ev_eq] at hm
 clear hK K
 ((refine Goes.step rfl (fun _ h₁=>?_);replace hF:=WF.rely hF h₁;clear h₁);rw [stepG_region_end];simp only [goes_go];refine ⟨DQ.nil,?_⟩)
 ((refine Goes.step rfl (fun _ h₁=>?_);replace hF:=WF.rely hF h₁;clear h₁);rw [stepG_cond (t:=false) rfl];simp only [goes_go,if_true,if_false,Bool.false_eq_true,↓reduceIte];refine ⟨DQ.nil,?_⟩)
 ((refine Goes.step rfl (fun _ h₁=>?_);replace hF:=WF.rely hF h₁;clear h₁);rw [stepG_skip];simp only [goes_go];refine ⟨DQ.nil,?_⟩)
 ((refine Goes.step rfl (fun _ h₁=>?_);replace hF:=WF.rely hF h₁;clear h₁);rw [stepG_region];simp only [goes_go,List.size_toArray,List.length_cons,List.length_nil,Nat.reduceAdd,Nat.zero_add,List.range,List.range.loop];refine ⟨DQ.nil,?_⟩)
 ((refine Goes.step rfl (fun _ h₁=>?_);replace hF:=WF.rely hF h₁;clear h₁);refine goes_oper_k rfl rfl (by decide) (fun K hK=>?_);have e1:=WF.hW hF;have e2:=WF.hF hF;simp only [box] at *;go_simp;refine hK _ _ ⟨⟨⟨_,rfl⟩,fun e he=>?_⟩,?_⟩;(focus (have hm:=mem_listed he;simp [go_sem, *] at hm;(try (subst hm;exact ⟨_,rfl,by simp [Wk.S]⟩))));clear hK K e1 e2)
 (refine Goes.step rfl (fun _ h₁=>?_);replace hF:=WF.rely hF h₁;clear h₁)
 refine goes_call rfl rfl (by decide) rfl Tryz.func78 rfl rfl ⟨DQ.nil,?_⟩
 walk_nrmf Tryz.f78
 ((refine Goes.step rfl (fun _ h₁=>?_);replace hF:=WF.rely hF h₁;clear h₁);rw [stepG_region];simp only [goes_go,List.size_toArray,List.length_cons,List.length_nil,Nat.reduceAdd,Nat.zero_add,List.range,List.range.loop];refine ⟨DQ.nil,?_⟩)
 ((refine Goes.step rfl (fun _ h₁=>?_);replace hF:=WF.rely hF h₁;clear h₁);refine goes_oper_k rfl rfl (by decide) (fun K hK=>?_);have e1:=WF.hW hF;have e2:=WF.hF hF;simp only [box] at *;go_simp;refine hK _ _ ⟨⟨⟨_,rfl⟩,fun e he=>?_⟩,?_⟩;(focus (have hm:=mem_listed he;simp [go_sem, *] at hm;(try (subst hm;exact ⟨_,rfl,by simp [Wk.S]⟩))));clear hK K e1 e2)
 (refine Goes.step rfl (fun _ h₁=>?_);replace hF:=WF.rely hF h₁;clear h₁)
 refine goes_call rfl rfl (by decide) rfl Tryz.wgLib.f_add rfl rfl ⟨DQ.nil,?_⟩
 walk_nrm
 refine Goes.mono (n:=20) (Goes.monoD (fun _ _ _ h=>DQ.of0 h) ?_) (by decide)
 have hA:=neg_walk (R:=RKp p) (F:=fun _=>True) (Wg:=p.Wg) (ops₀:=doneOps) (i₀:=1) (rest₀:=[]) (k₀:=[]) Tryz.wgLib (terms_p p) (w_tail hc hq #[.pointer (some ⟨p.Wg,0,none⟩),undef, .pointer (some ⟨p.Wg,0,none⟩),undef] #[.pointer (some ⟨p.bW,0,none⟩), .nilIface, .nilIface, .nilIface, .bool false,undef, .pointer (some ⟨p.Wg,0,none⟩),undef]) _ ⟨trivial,hF.live⟩
 simp only [body_add,addFn,Option.getD_some] at hA
 exact hA
set_option maxRecDepth 100000 in
set_option maxHeartbeats 4000000 in
theorem w_out {p:Wk} (a:Act) (w:World) (hF:WF p w) (hd:a.defers=[]):Goes Tryz.prog false (RKp p) (DQ p.S) (DnR Tryz.prog false (RKp p) Tryz.link.tWg p.Wg) 60 (litAt p a []) w:=by
 unfold litAt
 ((refine Goes.step rfl (fun _ h₁=>?_);replace hF:=WF.rely hF h₁;clear h₁);rw [stepG_region_end];simp only [goes_go];refine ⟨DQ.nil,?_⟩)
 ((refine Goes.step rfl (fun _ h₁=>?_);replace hF:=WF.rely hF h₁;clear h₁);rw [stepG_end];simp only [goes_go];refine ⟨DQ.nil,?_⟩)
 (refine Goes.step rfl (fun _ h₁=>?_);replace hF:=WF.rely hF h₁;clear h₁)
 refine goes_leave0 rfl hd Tryz.func59 rfl ⟨DQ.nil,?_⟩
 ((refine Goes.step rfl (fun _ h₁=>?_);replace hF:=WF.rely hF h₁;clear h₁);rw [stepG_region_end];simp only [goes_go];refine ⟨DQ.nil,?_⟩)
 ((refine Goes.step rfl (fun _ h₁=>?_);replace hF:=WF.rely hF h₁;clear h₁);rw [stepG_end];simp only [goes_go];refine ⟨DQ.nil,?_⟩)
 (refine Goes.step rfl (fun _ h₁=>?_);replace hF:=WF.rely hF h₁;clear h₁)
 rw [stepG_unwind_clos rfl Tryz.func77 rfl rfl]
 simp only [goes_go]
 refine ⟨DQ.nil,?_⟩
 exact Goes.mono (w_done rfl (quits_bot Tryz.func76 rfl) _ hF) (by decide)
theorem work_script {p:Wk} {ρ:Ren} {args:Array Value} {wS:World} {R:Value→World→Prop} {B n CF:Nat} {w:World} (hF:WF p w) :
  Goes Tryz.prog false (RKp p) (DQ p.S) (AtCall Tryz.prog (p.nums B n CF) (p.job ρ args wS R)) (10+19) (born Tryz.prog (ccall 76 #[box p.bW,box p.bF])) w :=
 Goes.bind RK.refl (fun g w0 hs=>by
  obtain ⟨hF',m,t,rfl⟩:=hs
  exact w_call (fun c0 c1 a listed fuel t w h1 h2 h3 h4 h5=>w_send (mo:=60) w_out h1 h2 h3 h4 h5) hF' m t) (w_born hF)
end Go.Proofs.YtjnkcibpkkjniaaGreat.Pool
namespace Go.Proofs.YtjnkcibpkkjniaaGreat.Pool
open Go.Conc Go.ConcN Go.Proofs.YtjnkcibpkkjniaaGreat.Sim
open Go.ConcR (KK wgBlock WgAt stA smA rd wr mk DC0)
def InBlock (b:Nat):Loc→Prop
 | .cell a=>a.block=b
 | .obj r=>r=b
 | _=>False
theorem InBlock.mem {b:Nat} {l:Loc} (h:InBlock b l):l.isMemory=true:=by cases l <;> first | rfl | exact h.elim
theorem InBlock.uniq {b b':Nat} {l:Loc} (h:InBlock b l) (h':InBlock b' l):b=b':=by cases l <;> first | exact h.elim | exact h.symm.trans h'
variable [Scope]
def InLoc (ρ:Ren):Loc→Prop
 | .cell a=>In ρ a
 | .obj r=>∃ b,ρ b=some ⟨r,none⟩
 | _=>False
theorem InLoc.block {ρ:Ren} {l:Loc} (h:InLoc ρ l):∃ b p,ρ b=some p∧InBlock p.block l:=by
 cases l with
 | cell a=>obtain ⟨b,p,h1,h2,_⟩:=h;exact ⟨b,p,h1,h2.symm⟩
 | obj r=>obtain ⟨b,hb⟩:=h;exact ⟨b,_,hb,rfl⟩
 | _=>exact h.elim
theorem InLoc.mono {ρ ρ':Ren} {l:Loc} (h:InLoc ρ l) (k:ρ.le ρ'):InLoc ρ' l:=by
 cases l with
 | cell a=>exact In.mono h k
 | obj r=>obtain ⟨b,hb⟩:=h;exact ⟨b,k _ _ hb⟩
 | _=>exact h.elim
def Apart2 (ρ ρ':Ren):Prop:=∀ b p b' p',ρ b=some p→ρ' b'=some p'→p.block=p'.block →
 ∃ x x':Span,p.part=some x∧p'.part=some x'∧(x.start+x.len≤x'.start∨x'.start+x'.len≤x.start)
theorem Apart2.symm {ρ ρ':Ren} (h:Apart2 ρ ρ'):Apart2 ρ' ρ:=fun b p b' p' hb hb' e=>by
 obtain ⟨x,x',h1,h2,h3⟩:=h b' p' b p hb' hb e.symm
 exact ⟨x',x,h2,h1,h3.symm⟩
theorem Apart2.loc {ρ ρ':Ren} (h:Apart2 ρ ρ') {l:Loc} (k:InLoc ρ l) (k':InLoc ρ' l):False:=by
 cases l with
 | cell a =>
  obtain ⟨b,p,h1,h2,h3⟩:=k
  obtain ⟨b',p',h1',h2',h3'⟩:=k'
  obtain ⟨⟨s,l,ty⟩,⟨s',l',ty'⟩,e,e',h4⟩:=h b p b' p' h1 h1' (h2.trans h2'.symm)
  have:=h3 s l ty e
  have:=h3' s' l' ty' e'
  simp only at h4
  omega
 | obj r =>
  obtain ⟨b,hb⟩:=k
  obtain ⟨b',hb'⟩:=k'
  obtain ⟨x,x',e,_⟩:=h b _ b' _ hb hb' rfl
  cases e
 | _=>exact k.elim
theorem Kept.leaves {ρ ρ':Ren} {w w':World} (h:Kept ρ w w') (a:Apart2 ρ ρ') (hl:∀ b p,ρ' b=some p→p.block < w.heap.size):Leaves ρ' w w':=by
 intro b p hb
 by_cases hx:∃ y q,ρ y=some q∧q.block=p.block
 ·obtain ⟨y,q,hy,e⟩:=hx
  obtain ⟨⟨s,l,ty⟩,⟨s',l',ty'⟩,e1,e2,h3⟩:=a y q b p hy hb e
  rw [e2]
  intro C E hC
  obtain ⟨C1,E1,C2,k1,k2,k3,k4⟩:=h.part y q s l ty hy e1
  rw [e] at k1 k2
  rw [hC] at k1
  cases k1
  refine ⟨C2,k2,k3,fun i h1 h2=>k4 i ?_⟩
  simp only at h1 h2 h3
  omega
 ·have e:=h.other p.block (hl b p hb) fun y q hy e=>hx ⟨y,q,hy,e⟩
  split
  ·exact e
  ·exact fun C E hC=>⟨C,e.trans hC,rfl,fun _ _ _=>rfl⟩
theorem Grow.apart {ρ ρ1 ρ':Ren} {w:World} (g:Grow ρ w ρ1) (a:Apart2 ρ ρ') (hl:∀ b p,ρ' b=some p→p.block < w.heap.size):Apart2 ρ1 ρ':=by
 intro b p b' p' hb hb' e
 rcases g.new b p hb with h | ⟨_,h⟩
 ·exact a b p b' p' h hb' e
 ·have:=hl b' p' hb';omega
theorem Grow.loc {ρ ρ1:Ren} {w:World} (g:Grow ρ w ρ1) {l:Loc} (h:InLoc ρ1 l):InLoc ρ l∨∃ b,InBlock b l∧w.heap.size≤b:=by
 cases l with
 | cell a =>
  obtain ⟨b,p,h1,h2,h3⟩:=h
  rcases g.new b p h1 with k | ⟨_,k⟩
  ·exact .inl ⟨b,p,k,h2,h3⟩
  ·exact .inr ⟨p.block,h2.symm,k⟩
 | obj r =>
  obtain ⟨b,hb⟩:=h
  rcases g.new b _ hb with k | ⟨_,k⟩
  ·exact .inl ⟨b,k⟩
  ·exact .inr ⟨r,rfl,k⟩
 | _=>exact h.elim
def ShP (N:Nums) (l:Loc):Prop:=(∃ a,l=.cell a∧a.block=N.Wg)∨l=.obj N.CB∨l=.obj N.CF
theorem ShP.mem {N:Nums} {l:Loc} (h:ShP N l):l.isMemory=true:=by
 rcases h with ⟨a,rfl,_⟩ | rfl | rfl <;> rfl
theorem ShP.block {N:Nums} {l:Loc} (h:ShP N l):InBlock N.Wg l∨InBlock N.CB l∨InBlock N.CF l:=by
 rcases h with ⟨a,rfl,e⟩ | rfl | rfl
 ·exact .inl e
 ·exact .inr (.inl rfl)
 ·exact .inr (.inr rfl)
structure Rl (N:Nums) (t:Trace) (k r:Nat):Prop where
 rel:RelBy (stA N.Wg) t k r
 soft:∀ (i:Nat) op x,r < i→t[i]? = some op→op.g=k→op.act.touch? = some x→x.loc.isMemory=true→ShP N x.loc∧x.kind=.atomic
theorem Rl.appNot {N:Nums} {t u:Trace} {k r:Nat} (h:Rl N t k r) (hu:∀ op∈u,op.g≠k):Rl N (t++u) k r :=
 ⟨h.rel.appNot hu,fun i op x hr hi hg hx hm=>by
  rcases getElem?_append_cases hi with ⟨_,hi'⟩ | ⟨_,hiu⟩
  ·exact h.soft i op x hr hi' hg hx hm
  ·exact absurd hg (hu op hiu)⟩
theorem Rl.appOwn {N:Nums} {t:Trace} {k r:Nat} (h:Rl N t k r) (fn:FuncId) (pos:String) (es:Array Event)
  (hes:∀ j e,es[j]? = some e→(MemAct.ofEvent e).touch? = none∨((∃ ad wr,e=⟨.cell ad,wr,true⟩∧ad.block=N.Wg)∧0 < deafBehind (Deaf t k) (es.extract 0 j))):Rl N (t++MemOp.ofEvents k fn pos es) k r:=by
 refine ⟨h.rel.appOwn fn pos es fun j e he=>(hes j e he).imp id fun ⟨⟨ad,wr,e1,_⟩,hd⟩=>⟨⟨ad,wr,e1⟩,hd⟩,fun i op x hr hi hg hx hm=>?_⟩
 rcases getElem?_append_cases hi with ⟨_,hi'⟩ | ⟨_,hiu⟩
 ·exact h.soft i op x hr hi' hg hx hm
 ·rw [ofEvents_eq] at hiu
  obtain ⟨e,he,rfl⟩:=Array.mem_map.1 hiu
  obtain ⟨j,hj⟩:=Array.mem_iff_getElem?.1 he
  rcases hes j e hj with h0 | ⟨⟨ad,wr,rfl,hb⟩,_⟩
  ·simp only at hx;rw [h0] at hx;cases hx
  ·have:x=⟨.cell ad,wr, .atomic⟩:=by
    cases wr <;> simp [MemAct.ofEvent,MemAct.touch?] at hx <;> exact hx.symm
   subst this
   exact ⟨.inl ⟨ad,rfl,hb⟩,rfl⟩
theorem Rl.new {N:Nums} {t:Trace} {k:Nat} (hd:Deaf t k=0) (fn:FuncId) (pos:String):Rl N (t++MemOp.ofEvents k fn pos #[Go.ConcR.mk (.releaseMerge (stA N.Wg))]) k t.size:=by
 refine ⟨RelBy.new hd fn pos,fun i op x hr hi hg hx hm=>?_⟩
 have:=lt_size_of_getElem? hi
 simp [ofEvents_eq] at this
 omega
def isQt:Tg→Bool
 | .qt=>true
 | _=>false
structure St where
 j:Nat
 p:Nat
 D:Nat→WD
 tag:Tg
 fc:Nat
 dc:Nat
 d0:Nat
 q:Nat→Nat
 V:Nat→Prop
 W:Nat→Prop
 got:List Nat
 wait:List Nat
structure Ctx where
 P:Program
 N:Nums
 pk:Machine→Nat×Nat×Option (Nat×Nat)
 m0:Machine
 t0:Trace
 Gt:Nat→Tape
 J:Nat→Work
 Sc:Nat→Prop
 Anch:Goroutine→World→Prop
 mC:Nat
 Shun:Loc→Prop
section
variable (X:Ctx)
structure Ctx.Good:Prop where
 sync:Scope.sync=false
 pos:0 < X.N.B
 jobs:∀ i,i < X.N.n→(X.J i).Good X.P
 anch:∀ g w,X.Anch g w→∃ m,Goes X.P false (RK X.N.ty X.N.Wg X.Sc) DC0 (Wa1 X.P false (RK X.N.ty X.N.Wg X.Sc) X.N.ty X.N.Wg X.Anch (Nx X.P X.N X.Sc X.mC)) m g w
 anchR:∀ g w,X.Anch g w→g.status=.running
 glue:∀ i n j q,(segOf X.P X.pk (X.N.B+i) X.m0 X.t0 n).1+j < (segOf X.P X.pk (X.N.B+i) X.m0 X.t0 n).2→X.Gt i (sums (segOf X.P X.pk (X.N.B+i) X.m0 X.t0) n+j) q=tapeOf X.P X.m0 X.t0 n ((segOf X.P X.pk (X.N.B+i) X.m0 X.t0 n).1+j) q
 few:X.N.n < 2147483647
 pks:∀ gs w sl,(∀ g∈gs,awake g)→(∃ (i:Nat) (g:Goroutine),gs[i]? = some g∧g.status=.running) →
  ∃ g,gs[(X.pk (crowd gs w sl)).1]? = some g∧g.status=.running∧stepT X.P (crowd gs w sl)=runT X.P (crowd gs (w.at (X.pk (crowd gs w sl)).2.1) (X.pk (crowd gs w sl)).2.2) (X.pk (crowd gs w sl)).1
 nums:X.N.Wg≠X.N.CB∧X.N.Wg≠X.N.CF∧X.N.CB≠X.N.CF
 shun:∀ l,X.Shun l→l.isMemory=true∧¬ ShP X.N l∧¬ InBlock X.N.Wg l∧¬ InBlock X.N.CB l∧¬ InBlock X.N.CF l
def OwnP (s:St) (k:Nat) (l:Loc):Prop:=∃ i,i < X.N.n∧k=X.N.B+i∧InLoc (s.D i).ρ l
def RdP (k:Nat) (l:Loc):Prop:=∃ b,InBlock b l∧((∃ i,i < X.N.n∧k=X.N.B+i∧(X.J i).S b)∨(k=X.N.B+X.N.n∧X.Sc b))
def KP (s:St) (k:Nat):Prop:=(X.N.B≤k∧k < X.N.B+s.j)∨(s.tag≠.sp∧k=X.N.B+X.N.n)
def isSp:Tg→Bool
 | .sp=>true
 | _=>false
def sayer (s:St):Nat:=if isSp s.tag then 0 else X.N.B+X.N.n
structure Zone (s:St) (w:World):Prop where
 lt:∀ i,i < X.N.n→∀ b p,(s.D i).ρ b=some p→p.block < w.heap.size∧¬ s.V p.block∧p.block≠X.N.Wg∧p.block≠X.N.CB∧p.block≠X.N.CF
 apart:∀ i i',i < X.N.n→i' < X.N.n→i≠i'→Apart2 (s.D i).ρ (s.D i').ρ
 shun:∀ i,i < X.N.n→∀ b p l,(s.D i).ρ b=some p→InBlock p.block l→¬ X.Shun l
 v:∀ b,s.V b→b < w.heap.size∧b≠X.N.Wg∧b≠X.N.CB∧b≠X.N.CF∧∀ l,InBlock b l→¬ X.Shun l
 wv:∀ b,s.W b→s.V b
 sj:∀ i,i < s.j→∀ b,(X.J i).S b→s.V b∧¬ s.W b
 sc:s.tag≠.sp→∀ b,X.Sc b→s.V b∧¬ s.W b
 nums:X.N.Wg < w.heap.size∧X.N.CB < w.heap.size∧X.N.CF < w.heap.size
 old:∀ l b,X.Shun l→InBlock b l→b < w.heap.size
structure Acq (t:Trace) (q:Nat):Prop where
 act:t.act? q=some (.mark (.acquire (stA X.N.Wg)))
 g:t.g? q=some (X.N.B+X.N.n)
 heard:t.heard q
 all:∀ i,i < X.N.n→∃ r,Rl X.N t (X.N.B+i) r∧r < q
structure Cls (t:Trace) (q p:Nat):Prop where
 acq:Acq X t q
 lt:q < p
 act:t.act? p=some (.close X.N.CF)
 g:t.g? p=some (X.N.B+X.N.n)
 heard:t.heard p
 after:∀ (i:Nat) op,p < i→t[i]? = some op→op.g=X.N.B+X.N.n→op.act.touch? = none
structure Crew (s:St) (n:Nat) (gs:Array Goroutine) (w:World) (t:Trace):Prop where
 size:(s.tag=.sp→gs.size=X.N.B+s.j)∧(s.tag≠.sp→gs.size=X.N.B+X.N.n+1∧s.j=X.N.n∧s.p=0)
 jn:s.j+s.p≤X.N.n
 lv:∀ i g,0 < i→i < X.N.B→gs[i]? = some g→QuitsD X.P (s.q i) (Deaf t i) g
 wk:∀ i,i < s.j→∃ g,gs[X.N.B+i]? = some g∧WSit X.P X.N X.pk X.m0 X.t0 X.Gt X.J i n (s.D i) g w∧Deaf t (X.N.B+i)=(s.D i).deaf
 un:∀ i,s.j≤i→i < X.N.n→(s.D i).ρ=(X.J i).ρ∧HR (X.J i).ρ (X.J i).wS w
 cl:s.tag≠.sp→∃ g,gs[X.N.B+X.N.n]? = some g∧CSit X.P X.N X.Sc X.Anch X.mC s.tag s.fc s.dc g w∧Deaf t (X.N.B+X.N.n)=s.dc
 hear:Deaf t 0=s.d0
 fresh:∀ j,gs.size≤j→Deaf t j=0
 wg:∃ st sm,WgAt X.N.ty X.N.Wg w st sm∧Mode s.j s.p s.D s.tag st sm
 back:w.heap[X.N.CB]? = some (.chan X.N.n (s.wait.map fun i=>(X.J i).msg (s.D i).v).toArray false (s.got.length+s.wait.length) s.got.length false)
 nodup:(s.got++s.wait).Nodup
 list:∀ i,i∈s.got++s.wait↔i < s.j∧(s.D i).stage≤7
 fin:w.heap[X.N.CF]? = some (.chan 0 #[] (isQt s.tag) 0 0 false)
 tr:PT (ShP X.N) X.Shun (OwnP X s) (RdP X) (KP X s) (sayer X s) t
 low:∀ op∈t,op.act.low w.heap.size
 norel:NoRelease (stA X.N.Wg) t
 rel:∀ i,i < s.j→(s.D i).stage≤6→∃ r,Rl X.N t (X.N.B+i) r
 acq:s.tag=.cl→∃ q,Acq X t q
 cls:s.tag=.qt→∃ q p,Cls X t q p
 zone:Zone X s w
 base:Scope.base≤w.heap.size
def meas (s:St):Nat×Nat:=(phi X.N.n (Vc s.j s.D) s.tag+Ssum s.j s.D,s.fc+2 * (Fsum s.j s.D+sumTo X.N.B s.q))
end
section
variable {X:Ctx} {s:St} {w:World}
theorem Zone.apt (hX:X.Good) (h:Zone X s w) (hj:s.j≤X.N.n):Apart (ShP X.N) X.Shun (OwnP X s) (RdP X) (KP X s) where
 own:=fun k k' l _ _ ⟨i,hi,e,h1⟩ ⟨i',hi',e',h1'⟩=>by
  by_cases hne:i=i'
  ·subst hne;exact e.trans e'.symm
  ·exact ((h.apart i i' hi hi' hne).loc h1 h1').elim
 ownRd:=fun k k' l _ hk' ⟨i,hi,e,h1⟩ ⟨b,hb,hs⟩=>by
  obtain ⟨y,p,h2,h3⟩:=h1.block
  obtain rfl:=hb.uniq h3
  have hV:s.V p.block:=by
   rcases hs with ⟨i',hi',e',hs'⟩ | ⟨e',hs'⟩
   ·rcases hk' with ⟨k1,k2⟩ | ⟨k1,k2⟩
    ·exact (h.sj i' (by omega) _ hs').1
    ·omega
   ·rcases hk' with ⟨k1,k2⟩ | ⟨k1,k2⟩
    ·omega
    ·exact (h.sc k1 _ hs').1
  exact (h.lt i hi y p h2).2.1 hV
 ownSh:=fun k l _ ⟨i,hi,e,h1⟩=>by
  obtain ⟨y,p,h2,h3⟩:=h1.block
  have:=h.lt i hi y p h2
  refine ⟨fun hs=>?_,h.shun i hi y p l h2 h3⟩
  rcases hs.block with hb | hb | hb
  ·exact this.2.2.1 (h3.uniq hb)
  ·exact this.2.2.2.1 (h3.uniq hb)
  ·exact this.2.2.2.2 (h3.uniq hb)
 rdSh:=fun k l hk ⟨b,hb,hs⟩=>by
  have hV:s.V b:=by
   rcases hs with ⟨i',hi',e',hs'⟩ | ⟨e',hs'⟩
   ·rcases hk with ⟨k1,k2⟩ | ⟨k1,k2⟩
    ·exact (h.sj i' (by omega) _ hs').1
    ·omega
   ·rcases hk with ⟨k1,k2⟩ | ⟨k1,k2⟩
    ·omega
    ·exact (h.sc k1 _ hs').1
  have:=h.v b hV
  refine ⟨fun hs=>?_,this.2.2.2.2 l hb⟩
  rcases hs.block with hb' | hb' | hb'
  ·exact this.2.1 (hb.uniq hb')
  ·exact this.2.2.1 (hb.uniq hb')
  ·exact this.2.2.2.1 (hb.uniq hb')
 zero:=fun hk=>by
  have:=hX.pos
  rcases hk with ⟨h1,_⟩ | ⟨_,h1⟩ <;> omega
 shMem:=fun l hl=>hl.mem
theorem Crew.at {n n':Nat} {gs:Array Goroutine} {t:Trace} (hX:X.Good) (h:Crew X s n gs w t) (d:Nat) (hn:∀ i,i < X.N.n→sums (segOf X.P X.pk (X.N.B+i) X.m0 X.t0) n'=sums (segOf X.P X.pk (X.N.B+i) X.m0 X.t0) n):Crew X s n' gs (w.at d) t :=
 {size:=h.size,jn:=h.jn,lv:=h.lv,hear:=h.hear,fresh:=h.fresh,back:=h.back,nodup:=h.nodup,list:=h.list,fin:=h.fin,tr:=h.tr,low:=h.low,norel:=h.norel,rel:=h.rel,acq:=h.acq,cls:=h.cls,base:=h.base,wg:=h.wg
  zone:=⟨h.zone.lt,h.zone.apart,h.zone.shun,h.zone.v,h.zone.wv,h.zone.sj,h.zone.sc,h.zone.nums,h.zone.old⟩
  wk:=fun i hi=>by
   obtain ⟨g,h1,h2,h3⟩:=h.wk i hi
   have:=h.jn
   exact ⟨g,h1,h2.rely hX.sync (hn i (by omega)) (RK.at w d) (Leaves.of_heap rfl) rfl,h3⟩
  un:=fun i h1 h2=>⟨(h.un i h1 h2).1,HR.leaves hX.sync (h.un i h1 h2).2 (Leaves.of_heap rfl) rfl⟩
  cl:=fun ht=>by
   obtain ⟨g,h1,h2,h3⟩:=h.cl ht
   exact ⟨g,h1,h2.rely (RK.at w d),h3⟩ }
end
end Go.Proofs.YtjnkcibpkkjniaaGreat.Pool
namespace Go.Proofs.YtjnkcibpkkjniaaGreat.Pool
open Go.Conc Go.ConcN Go.Proofs.YtjnkcibpkkjniaaGreat.Sim
open Go.ConcR (KK wgBlock WgAt stA smA rd wr mk DC0)
variable [Scope]
theorem touch_low {B:Nat} {op:MemOp} {x:Touch} (h:op.act.low B) (hx:op.act.touch? = some x) {b:Nat} (hb:InBlock b x.loc):b < B:=by
 obtain ⟨g,fn,pos,act⟩:=op
 cases act with
 | access e =>
  simp only [MemAct.touch?,Option.some.injEq] at hx
  subst hx
  obtain ⟨loc,wr,sy⟩:=e
  cases loc <;> first | exact hb.elim | (simp only [InBlock] at hb;subst hb;exact h)
 | mark m=>cases m <;> simp only [MemAct.touch?] at hx <;> first | (cases hx;simp only [InBlock] at hb;subst hb;exact h) | cases hx
 | _=>simp only [MemAct.touch?] at hx;cases hx
theorem untouched {t:Trace} {B b:Nat} (h:∀ op∈t,op.act.low B) (hb:B≤b) {l:Loc} (hl:InBlock b l):∀ i a,touchAt t i=some a→a.loc≠l:=by
 intro i a ha e
 obtain ⟨x,hx,hxa⟩:=touch_of ha
 have:=touch_low (h x (mem_of_getElem? hx)) hxa (b:=b) (e▸hl)
 omega
theorem mem_ops {g:Nat} {fn:FuncId} {pos:String} {es:Array Event} {op:MemOp} (h:op∈MemOp.ofEvents g fn pos es):op.g=g∧∃ e∈es,op.act=.ofEvent e:=by
 obtain ⟨e,he,rfl⟩:=Go.Conc.mem_ofEvents h
 exact ⟨rfl,e,he,rfl⟩
theorem ofEvent_norel {e:Event} {a:Addr} (h:e.loc≠.mark (.release a)):MemAct.ofEvent e≠.mark (.release a):=by
 obtain ⟨loc,wr,sy⟩:=e
 cases loc with
 | mark m=>intro k;apply h;simpa [MemAct.ofEvent] using k
 | obj c=>cases wr <;> cases sy <;> simp [MemAct.ofEvent]
 | _=>simp [MemAct.ofEvent]
section
variable {X:Ctx} {s:St} {n:Nat} {gs:Array Goroutine} {w w':World} {t:Trace}
theorem Mode.allQuit {j p:Nat} {D:Nat→WD} {tag:Tg} {st sm:Int} (h:Mode j p D tag st sm) (hf:isFin tag):AllQuit j D:=by
 cases h with
 | opn h1 _ _=>cases tag <;> first | exact hf.elim | exact h1.elim
 | reg h1=>cases tag <;> first | exact hf.elim | exact h1.elim
 | last L h1=>cases tag <;> first | exact hf.elim | exact h1.elim
 | sema h1=>rcases h1 with rfl | rfl <;> exact hf.elim
 | fin _ _ h=>exact h
theorem Acq.app {q:Nat} {u:Trace} (h:Acq X t q) (hu:∀ i r,i < X.N.n→Rl X.N t (X.N.B+i) r→Rl X.N (t++u) (X.N.B+i) r):Acq X (t++u) q:=by
 have hq:=lt_of_act? h.act
 exact ⟨by rw [act?_old hq];exact h.act,by rw [g?_old hq];exact h.g,(heard_old hq).2 h.heard,fun i hi=>by
  obtain ⟨r,h1,h2⟩:=h.all i hi
  exact ⟨r,hu i r hi h1,h2⟩⟩
theorem Cls.app {q p:Nat} {u:Trace} (h:Cls X t q p) (hu:∀ i r,i < X.N.n→Rl X.N t (X.N.B+i) r→Rl X.N (t++u) (X.N.B+i) r)
  (hc:∀ op∈u,op.g=X.N.B+X.N.n→op.act.touch? = none):Cls X (t++u) q p:=by
 have hp:=lt_of_act? h.act
 exact ⟨h.acq.app hu,h.lt,by rw [act?_old hp];exact h.act,by rw [g?_old hp];exact h.g,(heard_old hp).2 h.heard,fun i op hi ho hg=>by
  rcases getElem?_append_cases ho with ⟨_,ho'⟩ | ⟨_,hou⟩
  ·exact h.after i op hi ho' hg
  ·exact hc op hou hg⟩
theorem Zone.upd (h:Zone X s w) {i:Nat} (hi:i < X.N.n) {x:WD} {tag':Tg} (ht:tag'≠.sp→s.tag≠.sp) {fc':Nat} (hg:Grow (s.D i).ρ w x.ρ) (hlt:∀ b p,x.ρ b=some p→p.block < w'.heap.size) (hsz:w.heap.size≤w'.heap.size) :
  Zone X { s with D:=upd s.D i x,tag:=tag',fc:=fc' } w':=by
 refine ⟨fun i' hi' b p hb=>?_,fun i1 i2 h1 h2 hne=>?_,fun i' hi' b p l hb hl hs=>?_,fun b hb=>?_,h.wv,h.sj,fun k=>h.sc (ht k),⟨Nat.lt_of_lt_of_le h.nums.1 hsz,Nat.lt_of_lt_of_le h.nums.2.1 hsz,Nat.lt_of_lt_of_le h.nums.2.2 hsz⟩,fun l b hl hb=>Nat.lt_of_lt_of_le (h.old l b hl hb) hsz⟩
 ·by_cases e:i'=i
  ·subst e
   simp only [upd_same] at hb
   refine ⟨hlt b p hb,?_⟩
   rcases hg.new b p hb with k | ⟨_,k⟩
   ·exact (h.lt i' hi' b p k).2
   ·refine ⟨fun hv=>?_,?_,?_,?_⟩
    ·have:=(h.v _ hv).1;omega
    ·have:=h.nums.1;omega
    ·have:=h.nums.2.1;omega
    ·have:=h.nums.2.2;omega
  ·simp only [upd_ne s.D x e] at hb
   have:=h.lt i' hi' b p hb
   exact ⟨Nat.lt_of_lt_of_le this.1 hsz,this.2⟩
 ·have old:∀ i',i' < X.N.n→∀ b p,(s.D i').ρ b=some p→p.block < w.heap.size:=fun i' hi' b p hb=>(h.lt i' hi' b p hb).1
  by_cases e1:i1=i
  ·subst e1
   simp only [upd_same,upd_ne s.D x (Ne.symm hne)]
   exact Grow.apart hg (h.apart i1 i2 h1 h2 hne) (old i2 h2)
  ·by_cases e2:i2=i
   ·subst e2
    simp only [upd_same,upd_ne s.D x e1]
    exact (Grow.apart hg (h.apart i2 i1 h2 h1 (Ne.symm hne)) (old i1 h1)).symm
   ·simp only [upd_ne s.D x e1,upd_ne s.D x e2]
    exact h.apart i1 i2 h1 h2 hne
 ·by_cases e:i'=i
  ·subst e
   simp only [upd_same] at hb
   rcases hg.new b p hb with k | ⟨_,k⟩
   ·exact h.shun i' hi' b p l k hl hs
   ·have:=h.old l _ hs hl;omega
  ·simp only [upd_ne s.D x e] at hb
   exact h.shun i' hi' b p l hb hl hs
 ·have:=h.v b hb
  exact ⟨Nat.lt_of_lt_of_le this.1 hsz,this.2⟩
def SameBut (s s':St):Prop:=s'.j=s.j∧s'.p=s.p∧s'.d0=s.d0∧s'.V=s.V∧s'.W=s.W∧(s'.tag=s.tag∨(s.tag=.blk∧s'.tag=.w3))∧s'.dc=s.dc∧∀ i,i < s.j→(s.D i).stage≤7→(s'.D i).v=(s.D i).v
theorem Crew.closer (hX:X.Good) (h:Crew X s n gs w t) (hV:∀ b,s.V b→w'.heap[b]? = w.heap[b]?) (hl:WgLive X.N.ty X.N.Wg w') (g g':Goroutine) :
  ∃ tag' fc',(s.tag≠.sp→∃ a,gs[X.N.B+X.N.n]? = some a∧CSit X.P X.N X.Sc X.Anch X.mC tag' fc' s.dc (woken X.P g g' w' a) w'∧Deaf t (X.N.B+X.N.n)=s.dc)∧fc'≤s.fc+1∧(tag'=s.tag∨(s.tag=.blk∧tag'=.w3))∧(mayWake X.P g=true→g'.status=.running→tag'≠.blk):=by
 by_cases ht:s.tag=.sp
 ·exact ⟨s.tag,s.fc,fun e=>absurd ht e,by omega, .inl rfl,fun _ _ e=>by rw [ht] at e;cases e⟩
 ·obtain ⟨a,h1,h2,h3⟩:=h.cl ht
  obtain ⟨tag',f',k1,k2,k3,k4⟩:=h2.wokenBy hX.anchR ⟨fun b hb=>hV b (h.zone.sc ht b hb).1,fun _=>hl⟩ g g'
  exact ⟨tag',f',fun _=>⟨a,h1,k1,h3⟩,k2,k3,k4⟩
theorem tag_sp {s:St} {tag':Tg} (h:tag'=s.tag∨(s.tag=.blk∧tag'=.w3)):tag'=.sp↔s.tag=.sp:=by
 rcases h with rfl | ⟨h,rfl⟩
 ·exact Iff.rfl
 ·rw [h];simp
theorem tag_qt {s:St} {tag':Tg} (h:tag'=s.tag∨(s.tag=.blk∧tag'=.w3)):isQt tag'=isQt s.tag:=by
 rcases h with rfl | ⟨h,rfl⟩
 ·rfl
 ·rw [h];rfl
theorem Crew.worker (hX:X.Good) (h:Crew X s n gs w t) {i:Nat} (hi:i < s.j) {g g':Goroutine} {es:Array Event} {x:WD} {st' sm':Int} (hg:gs[X.N.B+i]? = some g)
  (hs:WSit X.P X.N X.pk X.m0 X.t0 X.Gt X.J i (n+1) x g' w')
  (hn:∀ i',i' < X.N.n→i'≠i→sums (segOf X.P X.pk (X.N.B+i') X.m0 X.t0) (n+1)=sums (segOf X.P X.pk (X.N.B+i') X.m0 X.t0) n)
  (hsz:w.heap.size≤w'.heap.size) (hos:w'.os=w.os) (hV:∀ b,s.V b→w'.heap[b]? = w.heap[b]?) (hCB:w'.heap[X.N.CB]? = w.heap[X.N.CB]?) (hCF:w'.heap[X.N.CF]? = w.heap[X.N.CF]?)
  (hL:∀ i',i' < X.N.n→i'≠i→Leaves (s.D i').ρ w w') (hgr:Grow (s.D i).ρ w x.ρ) (hlt:∀ b p,x.ρ b=some p→p.block < w'.heap.size)
  (hwg:WgAt X.N.ty X.N.Wg w' st' sm') (hmode:∀ tag',(tag'=s.tag∨(s.tag=.blk∧tag'=.w3))→(mayWake X.P g=true→g'.status=.running→tag'≠.blk)→Mode s.j s.p (upd s.D i x) tag' st' sm')
  (hok:∀ op∈MemOp.ofEvents (X.N.B+i) g.frame.fn g.frame.place es,∀ a,op.act.touch? = some a→a.loc.isMemory=true→(ShP X.N a.loc∧a.kind≠.plain∧a.kind≠.said)∨InLoc x.ρ a.loc∨(∃ b,InBlock b a.loc∧(X.J i).S b∧a.write=false))
  (hlow:∀ e∈es,(MemAct.ofEvent e).low w'.heap.size) (hnr:∀ e∈es,e.loc≠.mark (.release (stA X.N.Wg))) (hdeaf:deafBehind (s.D i).deaf es=x.deaf)
  (hrel:(s.D i).stage≤6→∀ r,Rl X.N t (X.N.B+i) r→Rl X.N (t++MemOp.ofEvents (X.N.B+i) g.frame.fn g.frame.place es) (X.N.B+i) r)
  (hrel':x.stage≤6→(s.D i).stage≤6∨∃ r,Rl X.N (t++MemOp.ofEvents (X.N.B+i) g.frame.fn g.frame.place es) (X.N.B+i) r)
  (hsent:x.stage≤7↔(s.D i).stage≤7) (hval:(s.D i).stage≤7→x.v=(s.D i).v)
  (hmeas:(x.stage < (s.D i).stage∧cnt x≤cnt (s.D i))∨(x.stage=(s.D i).stage∧x.fuel < (s.D i).fuel)) :
  ∃ s',Crew X s' (n+1) ((gs.map (woken X.P g g' w')).setIfInBounds (X.N.B+i) g') w' (t++MemOp.ofEvents (X.N.B+i) g.frame.fn g.frame.place es)∧Lt2 (meas X s') (meas X s)∧SameBut s s'∧s'.got=s.got∧s'.wait=s.wait:=by
 have hjn:=h.jn
 have hin:i < X.N.n:=by omega
 have hlive:WgLive X.N.ty X.N.Wg w':=⟨_,_,hwg⟩
 obtain ⟨tag',fc',hcl,hfc,htag,hwk⟩:=h.closer hX hV hlive g g'
 have hlti:X.N.B+i < gs.size:=(Array.getElem?_eq_some_iff.1 hg).1
 have hB:=hX.pos
 have hgi:∀ op∈MemOp.ofEvents (X.N.B+i) g.frame.fn g.frame.place es,op.g=X.N.B+i:=fun op hop=>(mem_ops hop).1
 have hRK:∀ i',i' < s.j→RK X.N.ty X.N.Wg (X.J i').S w w':=fun i' hi'=>⟨fun b hb=>hV b (h.zone.sj i' hi' b hb).1,fun _=>hlive⟩
 have hz:Zone X { s with D:=upd s.D i x,tag:=tag',fc:=fc' } w':=h.zone.upd hin (fun e k=>e ((tag_sp htag).2 k)) hgr hlt hsz
 have hDeaf:∀ k,k≠X.N.B+i→Deaf (t++MemOp.ofEvents (X.N.B+i) g.frame.fn g.frame.place es) k=Deaf t k:=fun k hk=>Deaf_other t (Ne.symm hk) _ hgi
 have hK:∀ k,KP X { s with D:=upd s.D i x,tag:=tag',fc:=fc' } k↔KP X s k:=fun k=>by
  unfold KP
  simp only [ne_eq,tag_sp htag]
 have hRl:∀ i' r,i' < X.N.n→Rl X.N t (X.N.B+i') r→((s.D i).stage≤6∨i'≠i)→Rl X.N (t++MemOp.ofEvents (X.N.B+i) g.frame.fn g.frame.place es) (X.N.B+i') r:=fun i' r hi' hr hc=>by
  by_cases e:i'=i
  ·subst e
   exact hrel (hc.resolve_right (fun k=>k rfl)) r hr
  ·exact hr.appNot fun op hop=>by rw [hgi op hop];omega
 refine ⟨{ s with D:=upd s.D i x,tag:=tag',fc:=fc' },⟨?_,h.jn,fun i' g1 h0 h1 h2=>?_,fun i' hi'=>?_,fun i' h1 h2=>?_,fun ht=>?_,?_,fun j hj=>?_,⟨st',sm',hwg,hmode tag' htag hwk⟩,?_,h.nodup,fun i'=>?_,?_,?_,?_,?_,fun i' hi' hst=>?_,fun ht=>?_,fun ht=>?_,hz,Nat.le_trans h.base hsz⟩,?_,⟨rfl,rfl,rfl,rfl,rfl,htag,rfl,fun i' _ k=>by
   by_cases e:i'=i
   ·subst e;simp only [upd_same];exact hval k
   ·simp only [upd_ne s.D x e]⟩,rfl,rfl⟩
 ·simp only [Array.size_setIfInBounds,Array.size_map]
  exact ⟨fun e=>h.size.1 ((tag_sp htag).1 e),fun e=>h.size.2 fun k=>e ((tag_sp htag).2 k)⟩
 ·rw [get_map_set _ _ _ _ (by omega)] at h2
  obtain ⟨y,hy,rfl⟩:=Option.map_eq_some_iff.1 h2
  have hq:=h.lv i' y h0 h1 hy
  rw [woken_quitsD hq,hDeaf i' (by omega)]
  exact hq
 ·have hi'':i' < s.j:=hi'
  by_cases e:i'=i
  ·subst e
   refine ⟨g',by rw [get_map_set_same _ _ _ hlti],by simp only [upd_same];exact hs,?_⟩
   obtain ⟨g1,e1,_,e3⟩:=h.wk i' hi'
   rw [Deaf_own,e3,hdeaf]
   simp only [upd_same]
  ·obtain ⟨g1,e1,e2,e3⟩:=h.wk i' hi'
   refine ⟨g1,by rw [get_map_set _ _ _ _ (by omega),e1,Option.map_some,e2.woken],?_,by rw [hDeaf _ (by omega),e3];simp only [upd_ne s.D x e]⟩
   simp only [upd_ne s.D x e]
   exact e2.rely hX.sync (hn i' (by omega) e) (hRK i' hi') (hL i' (by omega) e) hos
 ·have e:i'≠i:=by have:s.j≤i':=h1;omega
  simp only [upd_ne s.D x e]
  have hu:=h.un i' h1 h2
  have hle:=hL i' h2 e
  rw [hu.1] at hle
  exact ⟨hu.1,HR.leaves hX.sync hu.2 hle hos⟩
 ·obtain ⟨a,k1,k2,k3⟩:=hcl fun k=>ht ((tag_sp htag).2 k)
  refine ⟨_,by rw [get_map_set _ _ _ _ (by omega),k1];rfl,k2,?_⟩
  rw [hDeaf _ (by omega)]
  exact k3
 ·rw [hDeaf 0 (by omega)];exact h.hear
 ·have hj':gs.size≤j:=by simpa using hj
  rw [hDeaf j (by omega)]
  exact h.fresh j hj'
 ·rw [hCB,h.back]
  have hl:(s.wait.map fun i'=>(X.J i').msg (upd s.D i x i').v)=s.wait.map fun i'=>(X.J i').msg (s.D i').v:=by
   refine List.map_congr_left fun i' hi'=>?_
   by_cases e:i'=i
   ·subst e
    rw [upd_same,hval ((h.list i').1 (List.mem_append_right _ hi')).2]
   ·rw [upd_ne s.D x e]
  rw [hl]
 ·rw [h.list]
  by_cases e:i'=i
  ·subst e
   simp only [upd_same,hsent]
  ·simp only [upd_ne s.D x e]
 ·rw [hCF,h.fin,←tag_qt htag]
 ·have g1:PT (ShP X.N) X.Shun (OwnP X { s with D:=upd s.D i x,tag:=tag',fc:=fc' }) (RdP X) (KP X s) (sayer X s) t:=by
   refine h.tr.grow (fun k l hk ⟨i',hi',e,hl⟩=>⟨i',hi',e,?_⟩) (fun k l hk ⟨i',hi',e,hl⟩=>?_)
   ·by_cases e':i'=i
    ·subst e';simp only [upd_same];exact hl.mono hgr.le
    ·simp only [upd_ne s.D x e'];exact hl
   ·by_cases e':i'=i
    ·subst e'
     simp only [upd_same] at hl
     rcases Grow.loc hgr hl with k1 | ⟨b,k1,k2⟩
     ·exact .inl ⟨i',hi',e,k1⟩
     ·exact .inr (untouched h.low k2 k1)
    ·simp only [upd_ne s.D x e'] at hl
     exact .inl ⟨i',hi',e,hl⟩
  have eK:KP X { s with D:=upd s.D i x,tag:=tag',fc:=fc' }=KP X s:=funext fun k=>propext (hK k)
  have ec:sayer X { s with D:=upd s.D i x,tag:=tag',fc:=fc' }=sayer X s:=by
   unfold sayer
   rcases htag with e | ⟨e1,e2⟩
   ·simp only [e]
   ·simp only [e1,e2,isSp]
  rw [eK,ec]
  have A:=hz.apt hX (show s.j≤X.N.n by omega)
  rw [eK] at A
  refine g1.appK A (k:=X.N.B+i) (.inl ⟨by omega,by omega⟩) fun op hop=>⟨hgi op hop,fun a ha hm=>?_⟩
  rcases hok op hop a ha hm with ⟨k1,k2,k3⟩ | k1 | ⟨b,k1,k2,k3⟩
  ·exact .inl ⟨k1,k2,fun e=>absurd e k3⟩
  ·exact .inr (.inl ⟨i,hin,rfl,by simp only [upd_same];exact k1⟩)
  ·exact .inr (.inr ⟨⟨b,k1, .inl ⟨i,hin,rfl,k2⟩⟩,k3⟩)
 ·intro op hop
  rcases Array.mem_append.1 hop with k | k
  ·exact MemAct.low_mono hsz (h.low op k)
  ·obtain ⟨_,e,he,ha⟩:=mem_ops k
   rw [ha];exact hlow e he
 ·refine h.norel.app fun op hop=>?_
  obtain ⟨_,e,he,ha⟩:=mem_ops hop
  rw [ha]
  exact ofEvent_norel (hnr e he)
 ·have hi'':i' < s.j:=hi'
  by_cases e:i'=i
  ·subst e
   simp only [upd_same] at hst
   rcases hrel' hst with k | k
   ·obtain ⟨r,hr⟩:=h.rel i' hi' k
    exact ⟨r,hrel k r hr⟩
   ·exact k
  ·simp only [upd_ne s.D x e] at hst
   obtain ⟨r,hr⟩:=h.rel i' hi' hst
   exact ⟨r,hRl i' r (by omega) hr (.inr e)⟩
 ·have ht':s.tag=.cl:=by
   rcases htag with e | ⟨_,e⟩
   ·exact e.symm.trans ht
   ·rw [show tag'=Tg.cl from ht] at e;cases e
  obtain ⟨q,hq⟩:=h.acq ht'
  obtain ⟨_,_,_,hm⟩:=h.wg
  have:=hm.allQuit (by rw [ht'];exact trivial) i hi
  exact ⟨q,hq.app fun i' r hi' hr=>hRl i' r hi' hr (.inl (by omega))⟩
 ·have ht':s.tag=.qt:=by
   rcases htag with e | ⟨_,e⟩
   ·exact e.symm.trans ht
   ·rw [show tag'=Tg.qt from ht] at e;cases e
  obtain ⟨q,p,hq⟩:=h.cls ht'
  obtain ⟨_,_,_,hm⟩:=h.wg
  have:=hm.allQuit (by rw [ht'];exact trivial) i hi
  exact ⟨q,p,hq.app (fun i' r hi' hr=>hRl i' r hi' hr (.inl (by omega))) fun op hop hg=>by rw [hgi op hop] at hg;omega⟩
 ·have e1:=sumTo_upd s.D x cnt hi
  have e2:=sumTo_upd s.D x WD.stage hi
  have e3:=sumTo_upd s.D x WD.fuel hi
  unfold meas
  simp only
  rw [phi_retag X.N.n _ htag]
  simp only [Vc,Ssum,Fsum] at *
  rcases hmeas with ⟨h1,h2⟩ | ⟨h1,h2⟩
  ·refine Prod.Lex.left _ _ ?_
   have:=phi_mono X.N.n (v':=sumTo s.j fun a=>cnt (upd s.D i x a)) (v:=sumTo s.j fun a=>cnt (s.D a)) (by omega) s.tag
   omega
  ·have ec:cnt x=cnt (s.D i):=by simp only [cnt,h1]
   have ev:(sumTo s.j fun a=>cnt (upd s.D i x a))=sumTo s.j fun a=>cnt (s.D a):=by omega
   have es':(sumTo s.j fun a=>(upd s.D i x a).stage)=sumTo s.j fun a=>(s.D a).stage:=by omega
   rw [ev,es']
   refine Prod.Lex.right _ ?_
   omega
end
end Go.Proofs.YtjnkcibpkkjniaaGreat.Pool
namespace Go.Proofs.YtjnkcibpkkjniaaGreat.Pool
open Go.Conc Go.ConcN Go.Proofs.YtjnkcibpkkjniaaGreat.Sim
open Go.ConcR (KK wgBlock WgAt stA smA rd wr mk DC0)
variable [Scope]
theorem getWg {ty:TypeId} {Wg:Nat} {w w':World} {st sm:Int} (h:WgAt ty Wg w st sm) (e:w'.heap[Wg]? = w.heap[Wg]?):WgAt ty Wg w' st sm:=e.trans h
theorem setCell_off (w:World) (a:Addr) (v:Value) {b:Nat} (h:b≠a.block):(w.setCell a v).heap[b]? = w.heap[b]?:=by rw [setCell_get,if_neg h]
theorem still_le {es:Array Event} (h:∀ e∈es,e.loc≠.mark .disable∧e.loc≠.mark .enable) (d:Nat):deafBehind d es=d:=Go.Conc.deafBehind_still h d
section
variable {X:Ctx} {s:St} {n:Nat} {gs:Array Goroutine} {w w':World} {t:Trace}
theorem Rl.appNone {N:Nums} {k r:Nat} (h:Rl N t k r) (fn:FuncId) (pos:String) {es:Array Event} (hes:∀ e∈es,(MemAct.ofEvent e).touch? = none):Rl N (t++MemOp.ofEvents k fn pos es) k r :=
 h.appOwn fn pos es fun j e he=>.inl (hes e (Array.mem_of_getElem? he))
theorem Crew.quiet (hX:X.Good) (h:Crew X s n gs w t) {i:Nat} (hi:i < s.j) {g g':Goroutine} {es:Array Event} {x:WD} {st' sm':Int} (hg:gs[X.N.B+i]? = some g)
  (hs:WSit X.P X.N X.pk X.m0 X.t0 X.Gt X.J i (n+1) x g' w')
  (hn:∀ i',i' < X.N.n→i'≠i→sums (segOf X.P X.pk (X.N.B+i') X.m0 X.t0) (n+1)=sums (segOf X.P X.pk (X.N.B+i') X.m0 X.t0) n)
  (hheap:∀ b,b≠X.N.Wg→w'.heap[b]? = w.heap[b]?) (hsz:w'.heap.size=w.heap.size) (hos:w'.os=w.os) (hρ:x.ρ=(s.D i).ρ)
  (hwg:WgAt X.N.ty X.N.Wg w' st' sm') (hmode:∀ tag',(tag'=s.tag∨(s.tag=.blk∧tag'=.w3))→(mayWake X.P g=true→g'.status=.running→tag'≠.blk)→Mode s.j s.p (upd s.D i x) tag' st' sm')
  (hok:∀ e∈es,(MemAct.ofEvent e).touch? = none∨(∃ a wr,e=⟨.cell a,wr,true⟩∧a.block=X.N.Wg)∨(∃ a:Addr,e=⟨.cell a,false,false⟩∧(X.J i).S a.block))
  (hlow:∀ e∈es,(MemAct.ofEvent e).low w.heap.size) (hnr:∀ e∈es,e.loc≠.mark (.release (stA X.N.Wg))) (hdeaf:deafBehind (s.D i).deaf es=x.deaf)
  (hrel:(s.D i).stage≤6→∀ r,Rl X.N t (X.N.B+i) r→Rl X.N (t++MemOp.ofEvents (X.N.B+i) g.frame.fn g.frame.place es) (X.N.B+i) r)
  (hrel':x.stage≤6→(s.D i).stage≤6∨∃ r,Rl X.N (t++MemOp.ofEvents (X.N.B+i) g.frame.fn g.frame.place es) (X.N.B+i) r)
  (hsent:x.stage≤7↔(s.D i).stage≤7) (hval:(s.D i).stage≤7→x.v=(s.D i).v)
  (hmeas:(x.stage < (s.D i).stage∧cnt x≤cnt (s.D i))∨(x.stage=(s.D i).stage∧x.fuel < (s.D i).fuel)) :
  ∃ s',Crew X s' (n+1) ((gs.map (woken X.P g g' w')).setIfInBounds (X.N.B+i) g') w' (t++MemOp.ofEvents (X.N.B+i) g.frame.fn g.frame.place es)∧Lt2 (meas X s') (meas X s)∧SameBut s s'∧s'.got=s.got∧s'.wait=s.wait:=by
 have hin:i < X.N.n:=by have:=h.jn;omega
 refine h.worker hX hi hg hs hn (by omega) hos (fun b hb=>hheap b (h.zone.v b hb).2.1) (hheap _ (Ne.symm hX.nums.1)) (hheap _ (Ne.symm hX.nums.2.1))
  (fun i' h1 h2=>Leaves.block fun b p hb=>hheap _ (h.zone.lt i' h1 b p hb).2.2.1) (by rw [hρ];exact Grow.refl _ _) (fun b p hb=>by rw [hρ] at hb;rw [hsz];exact (h.zone.lt i hin b p hb).1) hwg hmode
  (fun op hop a ha hm=>?_) (fun e he=>by rw [hsz];exact hlow e he) hnr hdeaf hrel hrel' hsent hval hmeas
 obtain ⟨_,e,he,hoa⟩:=mem_ops hop
 rw [hoa] at ha
 rcases hok e he with k | ⟨ad,wr,rfl,k⟩ | ⟨ad,rfl,k⟩
 ·rw [k] at ha;cases ha
 ·have:a=⟨.cell ad,wr, .atomic⟩:=by cases wr <;> simp [MemAct.ofEvent,MemAct.touch?] at ha <;> exact ha.symm
  subst this
  exact .inl ⟨.inl ⟨ad,rfl,k⟩,by simp,by simp⟩
 ·have:a=⟨.cell ad,false, .plain⟩:=by simp [MemAct.ofEvent,MemAct.touch?] at ha;exact ha.symm
  subst this
  exact .inr (.inr ⟨ad.block,rfl,k,rfl⟩)
theorem Crew.reads (hX:X.Good) (h:Crew X s n gs w t) {i:Nat} (hi:i < s.j) {g g':Goroutine} {es:Array Event} {x:WD} (hg:gs[X.N.B+i]? = some g)
  (hs:WSit X.P X.N X.pk X.m0 X.t0 X.Gt X.J i (n+1) x g' w')
  (hn:∀ i',i' < X.N.n→i'≠i→sums (segOf X.P X.pk (X.N.B+i') X.m0 X.t0) (n+1)=sums (segOf X.P X.pk (X.N.B+i') X.m0 X.t0) n)
  (hd:DQ (X.J i).S w w' es) (hρ:x.ρ=(s.D i).ρ) (h7:7≤(s.D i).stage) (h7':7≤x.stage) (hdeaf:x.deaf=(s.D i).deaf)
  (hsent:x.stage≤7↔(s.D i).stage≤7) (hval:(s.D i).stage≤7→x.v=(s.D i).v)
  (hmeas:(x.stage < (s.D i).stage∧cnt x≤cnt (s.D i))∨(x.stage=(s.D i).stage∧x.fuel < (s.D i).fuel)) :
  ∃ s',Crew X s' (n+1) ((gs.map (woken X.P g g' w')).setIfInBounds (X.N.B+i) g') w' (t++MemOp.ofEvents (X.N.B+i) g.frame.fn g.frame.place es)∧Lt2 (meas X s') (meas X s)∧SameBut s s'∧s'.got=s.got∧s'.wait=s.wait:=by
 obtain ⟨⟨d,rfl⟩,hev⟩:=hd
 obtain ⟨st,sm,hw,hm⟩:=h.wg
 have hm':Mode s.j s.p (upd s.D i x) s.tag st sm:=hm.counted hi (by omega) (by omega)
 refine h.quiet hX hi hg hs hn (fun _ _=>rfl) rfl rfl hρ (st':=st) (sm':=sm) hw (fun tag' ht _=>hm'.retag ht) (fun e he=>?_) (fun e he=>?_) (fun e he=>?_) ?_ (fun k=>by omega) (fun k=>by omega) hsent hval hmeas
 ·obtain ⟨a,rfl,hS⟩:=hev e he
  exact .inr (.inr ⟨a,rfl,hS⟩)
 ·obtain ⟨a,rfl,hS⟩:=hev e he
  exact (h.zone.v _ (h.zone.sj i hi _ hS).1).1
 ·obtain ⟨a,rfl,hS⟩:=hev e he
  simp
 ·rw [hdeaf]
  refine still_le (fun e he=>?_) _
  obtain ⟨a,rfl,hS⟩:=hev e he
  simp
theorem Crew.idle (hX:X.Good) (h:Crew X s n gs w t) {i:Nat} (hi:i < s.j) {g g':Goroutine} {es:Array Event} {x:WD} (hg:gs[X.N.B+i]? = some g)
  (hs:WSit X.P X.N X.pk X.m0 X.t0 X.Gt X.J i (n+1) x g' w')
  (hn:∀ i',i' < X.N.n→i'≠i→sums (segOf X.P X.pk (X.N.B+i') X.m0 X.t0) (n+1)=sums (segOf X.P X.pk (X.N.B+i') X.m0 X.t0) n)
  (hd:DC0 w w' es) (hρ:x.ρ=(s.D i).ρ) (hst:x.stage=(s.D i).stage) (hdeaf:x.deaf=(s.D i).deaf) (hval:x.v=(s.D i).v) (hmeas:x.fuel < (s.D i).fuel) :
  ∃ s',Crew X s' (n+1) ((gs.map (woken X.P g g' w')).setIfInBounds (X.N.B+i) g') w' (t++MemOp.ofEvents (X.N.B+i) g.frame.fn g.frame.place es)∧Lt2 (meas X s') (meas X s)∧SameBut s s'∧s'.got=s.got∧s'.wait=s.wait:=by
 obtain ⟨rfl,rfl⟩:=hd
 obtain ⟨st,sm,hw,hm⟩:=h.wg
 have hm':Mode s.j s.p (upd s.D i x) s.tag st sm:=hm.congr fun a _=>by
  by_cases e:a=i
  ·subst e;rw [upd_same,hst]
  ·rw [upd_ne s.D x e]
 refine h.quiet hX hi hg hs hn (fun _ _=>rfl) rfl rfl hρ (st':=st) (sm':=sm) hw (fun tag' ht _=>hm'.retag ht) (by simp) (by simp) (by simp) ?_ (fun k r hr=>hr.appNone _ _ (by simp)) (fun k=>.inl (by omega)) (by rw [hst]) (fun _=>hval) (.inr ⟨hst,hmeas⟩)
 rw [hdeaf];rfl
theorem Mode.add {j p i:Nat} {D:Nat→WD} {tag:Tg} {st sm:Int} (hm:Mode j p D tag st sm) (hi:i < j) (h5:(D i).stage=5) :
  sm=0∧∃ v wt:Nat,wt≤1∧v < j+p∧st=((v:Int)+1) * KK+wt ∧
   ((v=0∧wt=1)→∀ x:WD,x.stage=4→Mode j p (upd D i x) tag ((v:Int) * KK+wt) 0)∧(¬ (v=0∧wt=1)→∀ x:WD,x.stage=1→Mode j p (upd D i x) tag ((v:Int) * KK+wt) 0):=by
 have c1:cnt (D i)=1:=by simp [cnt,h5]
 have hv1:1≤Vc j D:=by
  have:=le_sumTo (f:=fun i=>cnt (D i)) hi
  simp only [c1] at this
  exact this
 have hvj:=Vc_le j D
 have up:∀ x:WD,cnt x=0→Vc j (upd D i x)=Vc j D - 1:=fun x hx=>by
  have:=Vc_upd D x hi
  omega
 have op:OpenSt j D→∀ x:WD,x.stage=1→OpenSt j (upd D i x):=fun ho x hx a ha=>by
  by_cases e:a=i
  ·subst e;rw [upd_same];exact .inr hx
  ·rw [upd_ne D _ e];exact ho a ha
 cases hm with
 | opn h1 h2 h3 =>
  refine ⟨rfl,Vc j D+p - 1,0,by omega,by omega,?_,fun h=>absurd h.2 (by omega),fun _ x hx=>?_⟩
  ·have:((Vc j D+p - 1:Nat):Int)+1=((Vc j D+p:Nat):Int):=by omega
   rw [this];simp
  ·have e:=up x (by simp [cnt,hx])
   have:((Vc j D+p - 1:Nat):Int) * KK+((0:Nat):Int)=((Vc j (upd D i x)+p:Nat):Int) * KK:=by rw [e];simp only [KK];omega
   rw [this]
   exact .opn h1 (op h2 x hx) fun vs ev=>by have:=h3 vs ev;omega
 | reg h1 h0 h2 h3 =>
  refine ⟨rfl,Vc j D - 1,1,by omega,by omega,?_,fun h x hx=>?_,fun h x hx=>?_⟩
  ·have:((Vc j D - 1:Nat):Int)+1=((Vc j D:Nat):Int):=by omega
   rw [this];simp
  ·have e1:Vc j D=1:=by omega
   have hoth:=others_uncounted hi e1 c1
   have:((Vc j D - 1:Nat):Int) * KK+((1:Nat):Int)=if (upd D i x i).stage=2 then 0 else 1:=by rw [upd_same,hx,e1];simp
   rw [this]
   refine .last i h1 h0 hi (.inl (by rw [upd_same,hx])) fun a ha e=>?_
   rw [upd_ne D _ e]
   rcases h2 a ha with k | k
   ·have:=hoth a ha e;simp [cnt,k] at this
   ·exact k
  ·have e:=up x (by simp [cnt,hx])
   have hge:1≤Vc j (upd D i x):=by
    rw [e]
    rcases Nat.lt_or_ge 1 (Vc j D) with k | k
    ·omega
    ·exact absurd ⟨by omega,rfl⟩ h
   have:((Vc j D - 1:Nat):Int) * KK+((1:Nat):Int)=((Vc j (upd D i x):Nat):Int) * KK+1:=by rw [e];simp
   rw [this]
   exact .reg h1 h0 (op h2 x hx) hge
 | last L _ _ h2 h3 h4 =>
  by_cases e:i=L
  ·subst e;omega
  ·have:=h4 i hi e;omega
 | sema _ _ h2=>have:=h2 i hi;omega
 | fin _ _ h2=>have:=h2 i hi;omega
theorem hes_cells {X:Ctx} {a:Addr} (ha:a.block=X.N.Wg) {es:Array Event} (h:es=#[rd a,wr a]∨es=#[rd a]∨es=#[wr a]∨es=semEvents a) :
  (∀ e∈es,(MemAct.ofEvent e).touch? = none∨(∃ a wr,e=⟨.cell a,wr,true⟩∧a.block=X.N.Wg))∧(∀ B,X.N.Wg < B→∀ e∈es,(MemAct.ofEvent e).low B)∧(∀ e∈es,e.loc≠.mark (.release (stA X.N.Wg)))∧deafBehind 1 es=1 ∧
   (∀ j e,es[j]? = some e→(MemAct.ofEvent e).touch? = none∨((∃ ad wr,e=⟨.cell ad,wr,true⟩∧ad.block=X.N.Wg)∧0 < deafBehind 1 (es.extract 0 j))):=by
 have lowc:∀ (x:Bool) B,X.N.Wg < B→(MemAct.ofEvent ⟨.cell a,x,true⟩).low B:=fun x B hB=>by
  show a.block < B
  rw [ha];exact hB
 rcases h with rfl | rfl | rfl | rfl
 ·refine ⟨fun e he=>?_,fun B hB e he=>?_,fun e he=>?_,rfl,fun j e he=>?_⟩
  ·simp [rd,wr] at he;rcases he with rfl | rfl <;> exact .inr ⟨a,_,rfl,ha⟩
  ·simp [rd,wr] at he;rcases he with rfl | rfl <;> exact lowc _ B hB
  ·simp [rd,wr] at he;rcases he with rfl | rfl <;> simp
  ·match j,he with
   | 0,he=>simp [rd,wr] at he;subst he;exact .inr ⟨⟨a,_,rfl,ha⟩,by simp [deafBehind]⟩
   | 1,he=>simp [rd,wr] at he;subst he;exact .inr ⟨⟨a,_,rfl,ha⟩,by simp [rd,wr,deafBehind]⟩
   | j+2,he=>simp at he
 ·refine ⟨fun e he=>?_,fun B hB e he=>?_,fun e he=>?_,rfl,fun j e he=>?_⟩
  ·simp [rd,wr] at he;subst he;exact .inr ⟨a,_,rfl,ha⟩
  ·simp [rd,wr] at he;subst he;exact lowc _ B hB
  ·simp [rd,wr] at he;subst he;simp
  ·match j,he with
   | 0,he=>simp [rd,wr] at he;subst he;exact .inr ⟨⟨a,_,rfl,ha⟩,by simp [deafBehind]⟩
   | j+1,he=>simp at he
 ·refine ⟨fun e he=>?_,fun B hB e he=>?_,fun e he=>?_,rfl,fun j e he=>?_⟩
  ·simp [rd,wr] at he;subst he;exact .inr ⟨a,_,rfl,ha⟩
  ·simp [rd,wr] at he;subst he;exact lowc _ B hB
  ·simp [rd,wr] at he;subst he;simp
  ·match j,he with
   | 0,he=>simp [rd,wr] at he;subst he;exact .inr ⟨⟨a,_,rfl,ha⟩,by simp [deafBehind]⟩
   | j+1,he=>simp at he
 ·refine ⟨fun e he=>?_,fun B hB e he=>?_,fun e he=>?_,rfl,fun j e he=>?_⟩
  ·simp [semEvents] at he
   rcases he with rfl | rfl | rfl | rfl
   ·exact .inl rfl
   ·exact .inr ⟨a,_,rfl,ha⟩
   ·exact .inr ⟨a,_,rfl,ha⟩
   ·exact .inl rfl
  ·simp [semEvents] at he
   rcases he with rfl | rfl | rfl | rfl
   ·trivial
   ·exact lowc _ B hB
   ·exact lowc _ B hB
   ·trivial
  ·simp [semEvents] at he;rcases he with rfl | rfl | rfl | rfl <;> simp
  ·match j,he with
   | 0,he=>simp [semEvents] at he;subst he;exact .inl rfl
   | 1,he=>simp [semEvents] at he;subst he;exact .inr ⟨⟨a,_,rfl,ha⟩,by simp [semEvents,deafBehind]⟩
   | 2,he=>simp [semEvents] at he;subst he;exact .inr ⟨⟨a,_,rfl,ha⟩,by simp [semEvents,deafBehind]⟩
   | 3,he=>simp [semEvents] at he;subst he;exact .inl rfl
   | j+4,he=>simp [semEvents] at he
theorem Crew.wgs (hX:X.Good) (h:Crew X s n gs w t) {i:Nat} (hi:i < s.j) {g g':Goroutine} {es:Array Event} {x:WD} {st' sm':Int} (hg:gs[X.N.B+i]? = some g)
  (hs:WSit X.P X.N X.pk X.m0 X.t0 X.Gt X.J i (n+1) x g' w')
  (hn:∀ i',i' < X.N.n→i'≠i→sums (segOf X.P X.pk (X.N.B+i') X.m0 X.t0) (n+1)=sums (segOf X.P X.pk (X.N.B+i') X.m0 X.t0) n)
  {a:Addr} (ha:a.block=X.N.Wg) (hw':(∃ v,w'=w.setCell a v)∨w'=w) (hes:es=#[rd a,wr a]∨es=#[rd a]∨es=#[wr a]∨es=semEvents a) (hρ:x.ρ=(s.D i).ρ)
  (hwg:WgAt X.N.ty X.N.Wg w' st' sm') (hmode:∀ tag',(tag'=s.tag∨(s.tag=.blk∧tag'=.w3))→(mayWake X.P g=true→g'.status=.running→tag'≠.blk)→Mode s.j s.p (upd s.D i x) tag' st' sm')
  (h6:(s.D i).stage≤6) (h6':x.stage < (s.D i).stage) (hd:(s.D i).deaf=1) (hd':x.deaf=1) (hval:x.v=(s.D i).v) :
  ∃ s',Crew X s' (n+1) ((gs.map (woken X.P g g' w')).setIfInBounds (X.N.B+i) g') w' (t++MemOp.ofEvents (X.N.B+i) g.frame.fn g.frame.place es)∧Lt2 (meas X s') (meas X s)∧SameBut s s'∧s'.got=s.got∧s'.wait=s.wait:=by
 obtain ⟨k1,k2,k3,k4,k5⟩:=hes_cells (X:=X) ha hes
 have hheap:∀ b,b≠X.N.Wg→w'.heap[b]? = w.heap[b]?:=fun b hb=>by
  rcases hw' with ⟨v,rfl⟩ | rfl
  ·rw [setCell_get,if_neg (by rw [ha];exact hb)]
  ·rfl
 have hsz:w'.heap.size=w.heap.size:=by
  rcases hw' with ⟨v,rfl⟩ | rfl
  ·simp [World.setCell]
  ·rfl
 have hos:w'.os=w.os:=by rcases hw' with ⟨v,rfl⟩ | rfl <;> rfl
 obtain ⟨g0,hg0,hs0,hdf⟩:=h.wk i hi
 refine h.quiet hX hi hg hs hn hheap hsz hos hρ hwg hmode (fun e he=>(k1 e he).imp id .inl) (k2 _ h.zone.nums.1) k3 (by rw [hd,hd',k4]) (fun _ r hr=>hr.appOwn _ _ _ fun j e he=>?_) (fun _=>.inl h6) (by omega) (fun _=>hval) (.inl ⟨h6',?_⟩)
 ·rw [hdf,hd];exact k5 j e he
 ·simp only [cnt];split <;> split <;> omega
theorem Crew.turns [Zeros X.P] [Codes X.P] (hX:X.Good) {sl:Option (Nat×Nat)} (h:Crew X s n gs w t) (hrun:runNT X.P n X.m0 X.t0=(.next (crowd gs w sl),t)) {i d:Nat} {sl':Option (Nat×Nat)} (hi:i < s.j) {g:Goroutine}
  (hg:gs[X.N.B+i]? = some g) (hgr:g.status=.running) (hpk:X.pk (crowd gs w sl)=(X.N.B+i,d,sl')) (h':Crew X s n gs (w.at d) t) :
  (∃ v' ,(s.D i).stage=8∧(s.D i).v=v'∧AtSend X.P X.N (X.J i).S ((X.J i).msg v') g (w.at d)∧Sim.sums (segOf X.P X.pk (X.N.B+i) X.m0 X.t0) (n+1)=Sim.sums (segOf X.P X.pk (X.N.B+i) X.m0 X.t0) (n+1)) ∨
  ∃ g' w' es s',stepG X.P false g (w.at d)=.go g' w' es∧Crew X s' (n+1) ((gs.map (woken X.P g g' w')).setIfInBounds (X.N.B+i) g') w' (t++MemOp.ofEvents (X.N.B+i) g.frame.fn g.frame.place es)∧Lt2 (meas X s') (meas X s)∧SameBut s s'∧s'.got=s.got∧s'.wait=s.wait∧∀ b,s.V b→w'.heap[b]? = w.heap[b]?:=by
 have hin:i < X.N.n:=by have:=h.jn;omega
 have hB:=hX.pos
 have hi0:(X.N.B+i == 0)=false:=by simp;omega
 have hseg:=segOf_own (P:=X.P) (pk:=X.pk) (i0:=X.N.B+i) hrun hg (by rw [hpk])
 rw [hpk,hi0] at hseg
 simp only at hseg
 have hn:∀ i',i' < X.N.n→i'≠i→sums (segOf X.P X.pk (X.N.B+i') X.m0 X.t0) (n+1)=sums (segOf X.P X.pk (X.N.B+i') X.m0 X.t0) n:=fun i' _ hne=>by
  have:=segOf_other (P:=X.P) (pk:=X.pk) (i0:=X.N.B+i') hrun (by rw [hpk];simp only;omega)
  simp [sums,this]
 obtain ⟨g0,hg0,hs,hdf⟩:=h'.wk i hi
 obtain rfl:g0=g:=by rw [hg] at hg0;exact (Option.some.inj hg0).symm
 obtain ⟨st,sm,hw,hm⟩:=h'.wg
 have keepV:∀ {w1:World},(∀ b,b≠X.N.Wg→w1.heap[b]? = (w.at d).heap[b]?)→∀ b,s.V b→w1.heap[b]? = w.heap[b]?:=fun e b hb=>e b (h.zone.v b hb).2.1
 generalize hDi:s.D i=x0 at hs hdf
 cases hs with
 | @pre m g w1 h1 h2 =>
  rcases Goes.cases h1 with hstop | ⟨m',rfl,hstep⟩
  ·obtain ⟨_,c,cs,hst,hback⟩:=hstop _ (RK.refl _)
   have hst:=hst _ (RK.refl _)
   have es0:sums (segOf X.P X.pk (X.N.B+i) X.m0 X.t0) (n+1)=sums (segOf X.P X.pk (X.N.B+i) X.m0 X.t0) n:=by
    have:wof (stepG X.P false g0 (w.at d))=w.at d:=by rw [hst];rfl
    simp only [sums,hseg,this]
    show _+(d - d)=_
    omega
   have hJ:=hX.jobs i hin
   obtain ⟨K,frE,wE,e,hK,⟨v,rfl,hR⟩,hfn,hlv,hae⟩:=calls_lone (hJ.calls fun x q=>X.Gt i (sums (segOf X.P X.pk (X.N.B+i) X.m0 X.t0) (n+1)+x) q) (by rintro w' ⟨v,hv,_⟩;cases hv)
   have hE:EndsAt X.P (loneOf X.P (X.J i) fun x q=>X.Gt i (sums (segOf X.P X.pk (X.N.B+i) X.m0 X.t0) (n+1)+x) q) K frE wE:=⟨hK,hae.2.2,hae.2.1⟩
   have hride:=Ride.start (P:=X.P) hJ.okf hJ.rel h2 (c::cs) (fun x q=>X.Gt i (sums (segOf X.P X.pk (X.N.B+i) X.m0 X.t0) (n+1)+x) q) K
   have hsit:WSit X.P X.N X.pk X.m0 X.t0 X.Gt X.J i (n+1) ⟨9,K - 0,0,(X.J i).ρ,undef⟩ { frame:=Frame.enter X.P (X.J i).f (X.J i).args' .normal,callers:=c::cs,status:=.running,dying:=none } (w.at d):=.ride rfl (Nat.add_zero _) hE hlv hR hride hback (Gn.refl _)
   obtain ⟨s',kk⟩:=h'.reads hX hi hg hsit hn (DQ.of0 ⟨rfl,rfl⟩) (by rw [hDi]) (by rw [hDi];simp) (by simp) (by rw [hDi]) (by rw [hDi];simp) (by rw [hDi];intro k;exact absurd k (by simp)) (.inl (by rw [hDi];exact ⟨by simp,by simp [cnt]⟩))
   exact .inr ⟨_,_,_,s',hst,kk.1,kk.2.1,kk.2.2.1,kk.2.2.2.1,kk.2.2.2.2,fun _ _=>rfl⟩
  ·obtain ⟨g',w',es,e1,e2,e3⟩:=hstep _ (RK.refl _)
   have hsit:WSit X.P X.N X.pk X.m0 X.t0 X.Gt X.J i (n+1) ⟨10,m',0,(X.J i).ρ,undef⟩ g' w':=by
    obtain ⟨⟨d',rfl⟩,_⟩:=e2
    exact .pre e3 (HR.leaves hX.sync h2 (Leaves.of_heap rfl) rfl)
   obtain ⟨s',kk⟩:=h'.reads hX hi hg hsit hn e2 (by rw [hDi]) (by rw [hDi];simp) (by simp) (by rw [hDi]) (by rw [hDi]) (by rw [hDi];simp) (.inr (by rw [hDi];simp))
   exact .inr ⟨_,_,_,s',e1,kk.1,kk.2.1,kk.2.2.1,kk.2.2.2.1,kk.2.2.2.2,keepV fun b _=>by obtain ⟨⟨d',rfl⟩,_⟩:=e2;rfl⟩
 | @ride k K d0 D T ρ c cs gS g wS w1 wE frE v hT hd0 hE hlv hR hride hback hgn =>
  have htape:∀ j q,(w.at d).drawn+j < (wof (stepG X.P false g0 (w.at d))).drawn→(w.at d).tape ((w.at d).drawn+j) q=T (D+j) q:=by
   intro j q hj
   have:=hX.glue i n j q (by rw [hseg];exact hj)
   rw [hseg,tapeOf_at hrun] at this
   rw [hT]
   simp only
   rw [←Nat.add_assoc,hd0]
   exact this.symm
  have hzl:∀ b p,ρ b=some p→p.block < (w.at d).heap.size∧¬ s.V p.block∧p.block≠X.N.Wg∧p.block≠X.N.CB∧p.block≠X.N.CF:=fun b p hb=>h'.zone.lt i hin b p (by rw [hDi];exact hb)
  have hev:∀ {ρ':Ren} {w':World} {es:Array Event},Grow ρ (w.at d) ρ'→(∀ b p,ρ' b=some p→p.block < w'.heap.size)→(∀ e∈es,EvOk ρ' e) →
    (∀ e∈es,(∀ a,(MemAct.ofEvent e).touch? = some a→a.loc.isMemory=true→InLoc ρ' a.loc)∧(MemAct.ofEvent e).low w'.heap.size∧e.loc≠.mark (.release (stA X.N.Wg))∧e.loc≠.mark .disable∧e.loc≠.mark .enable):=by
   intro ρ' w' es _ hl hes e he
   have:=hes e he
   obtain ⟨loc,wr,sy⟩:=e
   unfold EvOk at this
   cases loc with
   | cell a =>
    refine ⟨fun b hb hm=>?_,?_,by simp,by simp,by simp⟩
    ·simp only [MemAct.ofEvent,MemAct.touch?,Option.some.injEq] at hb
     subst hb
     exact this
    ·obtain ⟨b,p,h1,h2,_⟩:=this
     show a.block < _
     rw [←h2];exact hl b p h1
   | obj r =>
    refine ⟨fun b hb hm=>?_,?_,by simp,by simp,by simp⟩
    ·cases wr <;> cases sy <;> simp [MemAct.ofEvent,MemAct.touch?] at hb <;> subst hb <;> exact this
    ·obtain ⟨b,hb⟩:=this
     have:=hl b _ hb
     cases wr <;> cases sy <;> exact this
   | mark m =>
    obtain rfl:m=.noRoom:=this
    exact ⟨fun b hb hm=>by simp [MemAct.ofEvent,MemAct.touch?] at hb,trivial,by simp,by simp,by simp⟩
   | output =>
    refine ⟨fun b hb hm=>?_,trivial,by simp,by simp,by simp⟩
    simp only [MemAct.ofEvent,MemAct.touch?,Option.some.injEq] at hb
    subst hb
    cases hm
   | _=>exact this.elim
  have hlt:∀ {ρ':Ren} {wS' w':World},HR ρ' wS' w'→∀ b p,ρ' b=some p→p.block < w'.heap.size:=fun hr b p hb=>(hr.lt hb).2
  by_cases hend:AtEnd [cap X.P] gS
  ·obtain ⟨rfl,e1,rfl⟩:=hride.at_end hE hend
   obtain ⟨v',w',es,ρ',r0,r1,r2,r3,r4,r5⟩:=hride.leave (v:=v) (by rw [e1];exact hlv) hend.1 false htape
   have hother:∀ b,b < (w.at d).heap.size→(∀ y p,ρ y=some p→p.block≠b)→w'.heap[b]? = (w.at d).heap[b]?:=fun b hb hn'=>r2.other b hb hn'
   have hVk:∀ b,s.V b→w'.heap[b]? = (w.at d).heap[b]?:=fun b hb=>hother b (h'.zone.v b hb).1 fun y p hy e=>(hzl y p hy).2.1 (e▸hb)
   have hWg:w'.heap[X.N.Wg]? = (w.at d).heap[X.N.Wg]?:=hother _ h'.zone.nums.1 fun y p hy=>(hzl y p hy).2.2.1
   have hok:(X.J i).ok v':=(hX.jobs i hin).shape v _ _ _ hR r5
   obtain ⟨m,hm'⟩:=(hback.rely (w₁:=w') ⟨fun b hb=>hVk b (h'.zone.sj i hi b hb).1,fun ⟨a,b,k⟩=>⟨a,b,getWg k hWg⟩⟩) v' hok
   have hsit:WSit X.P X.N X.pk X.m0 X.t0 X.Gt X.J i (n+1) ⟨8,m,0,ρ',v'⟩ _ w':=.post hm' ⟨hok,hgn.grow h'.base r1,v,_,r4,r5,hR⟩
   have hes:=hev r1 (hlt r4) r3
   obtain ⟨s',kk⟩:=h'.worker hX hi hg hsit hn r2.size r2.os hVk (hother _ h'.zone.nums.2.1 fun y p hy=>(hzl y p hy).2.2.2.1) (hother _ h'.zone.nums.2.2 fun y p hy=>(hzl y p hy).2.2.2.2)
    (fun i' h1 h2=>Kept.leaves r2 (by have:=h'.zone.apart i i' hin h1 (Ne.symm h2);rw [hDi] at this;exact this) fun b p hb=>(h'.zone.lt i' h1 b p hb).1) (by rw [hDi];exact r1) (hlt r4) (st':=st) (sm':=sm) (getWg hw hWg)
    (fun tag' ht _=>(hm.counted hi (by rw [hDi];simp) (by simp)).retag ht) (fun op hop a ha hmm=>by
     obtain ⟨_,e,he,hoa⟩:=mem_ops hop
     rw [hoa] at ha
     exact .inr (.inl ((hes e he).1 a ha hmm))) (fun e he=>(hes e he).2.1) (fun e he=>(hes e he).2.2.1) (by rw [hDi];exact still_le (fun e he=>(hes e he).2.2.2) _) (fun k=>by rw [hDi] at k;simp at k) (fun k=>by simp at k) (by rw [hDi];simp) (by rw [hDi];intro k;exact absurd k (by simp)) (.inl (by rw [hDi];exact ⟨by simp,by simp [cnt]⟩))
   exact .inr ⟨_,_,_,s',r0,kk.1,kk.2.1,kk.2.2.1,kk.2.2.2.1,kk.2.2.2.2,hVk⟩
  ·obtain ⟨g',w',es,ρ',gS',wS',r0,r1,r2,r3,r4⟩:=hride.step hE hend false htape
   have hother:∀ b,b < (w.at d).heap.size→(∀ y p,ρ y=some p→p.block≠b)→w'.heap[b]? = (w.at d).heap[b]?:=fun b hb hn'=>r2.other b hb hn'
   have hVk:∀ b,s.V b→w'.heap[b]? = (w.at d).heap[b]?:=fun b hb=>hother b (h'.zone.v b hb).1 fun y p hy e=>(hzl y p hy).2.1 (e▸hb)
   have hWg:w'.heap[X.N.Wg]? = (w.at d).heap[X.N.Wg]?:=hother _ h'.zone.nums.1 fun y p hy=>(hzl y p hy).2.2.1
   have hlek:=r4.le
   have hsum:d0+(D+(w'.drawn - (w.at d).drawn))=sums (segOf X.P X.pk (X.N.B+i) X.m0 X.t0) (n+1):=by
    have:wof (stepG X.P false g0 (w.at d))=w':=by rw [r0];rfl
    simp only [sums,hseg,this]
    show d0+(D+(w'.drawn - d))=_
    omega
   have hsit:WSit X.P X.N X.pk X.m0 X.t0 X.Gt X.J i (n+1) ⟨9,K - (k+1),0,ρ',undef⟩ g' w':=.ride hT hsum hE hlv hR r4 (hback.rely ⟨fun b hb=>hVk b (h'.zone.sj i hi b hb).1,fun ⟨a,b,k⟩=>⟨a,b,getWg k hWg⟩⟩) (hgn.grow h'.base r1)
   have hes:=hev r1 (hlt r4.hr) r3
   obtain ⟨s',kk⟩:=h'.worker hX hi hg hsit hn r2.size r2.os hVk (hother _ h'.zone.nums.2.1 fun y p hy=>(hzl y p hy).2.2.2.1) (hother _ h'.zone.nums.2.2 fun y p hy=>(hzl y p hy).2.2.2.2)
    (fun i' h1 h2=>Kept.leaves r2 (by have:=h'.zone.apart i i' hin h1 (Ne.symm h2);rw [hDi] at this;exact this) fun b p hb=>(h'.zone.lt i' h1 b p hb).1) (by rw [hDi];exact r1) (hlt r4.hr) (st':=st) (sm':=sm) (getWg hw hWg)
    (fun tag' ht _=>(hm.counted hi (by rw [hDi];simp) (by simp)).retag ht) (fun op hop a ha hmm=>by
     obtain ⟨_,e,he,hoa⟩:=mem_ops hop
     rw [hoa] at ha
     exact .inr (.inl ((hes e he).1 a ha hmm))) (fun e he=>(hes e he).2.1) (fun e he=>(hes e he).2.2.1) (by rw [hDi];exact still_le (fun e he=>(hes e he).2.2.2) _) (fun k=>by rw [hDi] at k;simp at k) (fun k=>by simp at k) (by rw [hDi]) (by rw [hDi];intro k;exact absurd k (by simp)) (.inr (by rw [hDi];exact ⟨rfl,by show K - (k+1) < K - k;omega⟩))
   exact .inr ⟨_,_,_,s',r0,kk.1,kk.2.1,kk.2.2.1,kk.2.2.2.1,kk.2.2.2.2,hVk⟩
 | @post m ρ v' g w1 h1 h2 =>
  rcases Goes.cases h1 with hstop | ⟨m',rfl,hstep⟩
  ·exact .inl ⟨v',rfl,rfl,hstop _ (RK.refl _),rfl⟩
  ·obtain ⟨g',w',es,e1,e2,e3⟩:=hstep _ (RK.refl _)
   have hsit:WSit X.P X.N X.pk X.m0 X.t0 X.Gt X.J i (n+1) ⟨8,m',0,ρ,v'⟩ g' w':=by
    obtain ⟨⟨d',rfl⟩,_⟩:=e2
    exact .post e3 (h2.leaves hX.sync (Leaves.of_heap rfl) rfl)
   obtain ⟨s',kk⟩:=h'.reads hX hi hg hsit hn e2 (by rw [hDi]) (by rw [hDi];simp) (by simp) (by rw [hDi]) (by rw [hDi]) (by rw [hDi];simp) (.inr (by rw [hDi];simp))
   exact .inr ⟨_,_,_,s',e1,kk.1,kk.2.1,kk.2.2.1,kk.2.2.2.1,kk.2.2.2.2,keepV fun b _=>by obtain ⟨⟨d',rfl⟩,_⟩:=e2;rfl⟩
 | @r0 m ρ v' g w1 h1 h2 =>
  rcases Goes.cases h1 with hstop | ⟨m',rfl,hstep⟩
  ·obtain ⟨_,g',e1,m',e2⟩:=hstop _ (RK.refl _)
   have hsit:WSit X.P X.N X.pk X.m0 X.t0 X.Gt X.J i (n+1) ⟨6,m',0,ρ,v'⟩ g' (w.at d):=.k1 e2 h2
   obtain ⟨s',kk⟩:=h'.quiet hX hi hg hsit hn (fun _ _=>rfl) rfl rfl (by rw [hDi]) (st':=st) (sm':=sm) hw (fun tag' ht _=>(hm.counted hi (by rw [hDi];simp) (by simp)).retag ht) (es:=#[Go.ConcR.mk (.releaseMerge (stA X.N.Wg))])
    (fun e he=>by simp at he;subst he;exact .inl rfl) (fun e he=>by simp at he;subst he;exact h'.zone.nums.1) (fun e he=>by simp at he;subst he;simp [Go.ConcR.mk]) (by rw [hDi];rfl) (fun k=>by rw [hDi] at k;simp at k)
    (fun _=>.inr ⟨_,Rl.new hdf _ _⟩) (by rw [hDi];simp) (by rw [hDi];simp) (.inl (by rw [hDi];exact ⟨by simp,by simp [cnt]⟩))
   exact .inr ⟨_,_,_,s',e1,kk.1,kk.2.1,kk.2.2.1,kk.2.2.2.1,kk.2.2.2.2,fun _ _=>rfl⟩
  ·obtain ⟨g',w',es,e1,e2,e3⟩:=hstep _ (RK.refl _)
   have hsit:WSit X.P X.N X.pk X.m0 X.t0 X.Gt X.J i (n+1) ⟨7,m',0,ρ,v'⟩ g' w':=by
    obtain ⟨⟨d',rfl⟩,_⟩:=e2
    exact .r0 e3 (h2.leaves hX.sync (Leaves.of_heap rfl) rfl)
   obtain ⟨s',kk⟩:=h'.reads hX hi hg hsit hn e2 (by rw [hDi]) (by rw [hDi];simp) (by simp) (by rw [hDi]) (by rw [hDi]) (by rw [hDi];simp) (.inr (by rw [hDi];simp))
   exact .inr ⟨_,_,_,s',e1,kk.1,kk.2.1,kk.2.2.1,kk.2.2.2.1,kk.2.2.2.2,keepV fun b _=>by obtain ⟨⟨d',rfl⟩,_⟩:=e2;rfl⟩
 | @k1 m ρ v' g w1 h1 h2 =>
  rcases Goes.cases h1 with hstop | ⟨m',rfl,hstep⟩
  ·obtain ⟨_,g',e1,m',e2⟩:=hstop _ (RK.refl _)
   have hsit:WSit X.P X.N X.pk X.m0 X.t0 X.Gt X.J i (n+1) ⟨5,m',1,ρ,v'⟩ g' (w.at d):=.d1 e2 h2
   obtain ⟨s',kk⟩:=h'.quiet hX hi hg hsit hn (fun _ _=>rfl) rfl rfl (by rw [hDi]) (st':=st) (sm':=sm) hw (fun tag' ht _=>(hm.counted hi (by rw [hDi];simp) (by simp)).retag ht) (es:=#[Go.ConcR.mk .disable])
    (fun e he=>by simp at he;subst he;exact .inl rfl) (fun e he=>by simp at he;subst he;trivial) (fun e he=>by simp at he;subst he;simp [Go.ConcR.mk]) (by rw [hDi];rfl) (fun _ r hr=>hr.appNone _ _ (fun e he=>by simp at he;subst he;rfl))
    (fun _=>.inl (by rw [hDi];simp)) (by rw [hDi];simp) (by rw [hDi];simp) (.inl (by rw [hDi];exact ⟨by simp,by simp [cnt]⟩))
   exact .inr ⟨_,_,_,s',e1,kk.1,kk.2.1,kk.2.2.1,kk.2.2.2.1,kk.2.2.2.2,fun _ _=>rfl⟩
  ·obtain ⟨g',w',es,e1,e2,e3⟩:=hstep _ (RK.refl _)
   have hsit:WSit X.P X.N X.pk X.m0 X.t0 X.Gt X.J i (n+1) ⟨6,m',0,ρ,v'⟩ g' w':=.k1 e3 (by obtain ⟨rfl,_⟩:=e2;exact h2)
   obtain ⟨s',kk⟩:=h'.idle hX hi hg hsit hn e2 (by rw [hDi]) (by rw [hDi]) (by rw [hDi]) (by rw [hDi]) (by rw [hDi];simp)
   exact .inr ⟨_,_,_,s',e1,kk.1,kk.2.1,kk.2.2.1,kk.2.2.2.1,kk.2.2.2.2,by obtain ⟨rfl,_⟩:=e2;exact fun _ _=>rfl⟩
 | @d1 m ρ v' g w1 h1 h2 =>
  rcases Goes.cases h1 with hstop | ⟨m',rfl,hstep⟩
  ·obtain ⟨hsm,v,wt,a1,a2,a3,a4,a5⟩:=hm.add hi (by rw [hDi])
   subst hsm a3
   have hfew:=hX.few
   have hjn:=h.jn
   obtain ⟨_,hst⟩:=hstop _ (RK.refl _)
   obtain ⟨g',e1,e2,e3⟩:=hst v wt a1 (by omega) hw
   have hdone:Done (X.J i) ρ v' ((w.at d).setCell (stA X.N.Wg) (.int .u64 ((v:Int) * KK+wt))):=h2.leaves hX.sync (Leaves.block fun b p hb=>setCell_off _ _ _ (h'.zone.lt i hin b p (by rw [hDi];exact hb)).2.2.1) rfl
   have hw':=hw.setSt ((v:Int) * KK+wt)
   by_cases hl:v=0∧wt=1
   ·obtain ⟨m',e4⟩:=e2 hl
    have hsit:WSit X.P X.N X.pk X.m0 X.t0 X.Gt X.J i (n+1) ⟨4,m',1,ρ,v'⟩ g' _:=.d2 e4 hdone
    obtain ⟨s',kk⟩:=h'.wgs hX hi hg hsit hn (a:=stA X.N.Wg) rfl (.inl ⟨_,rfl⟩) (.inl rfl) (by rw [hDi]) hw' (fun tag' ht _=>(a4 hl _ rfl).retag ht) (by rw [hDi];simp) (by rw [hDi];simp) (by rw [hDi]) rfl (by rw [hDi])
    exact .inr ⟨_,_,_,s',e1,kk.1,kk.2.1,kk.2.2.1,kk.2.2.2.1,kk.2.2.2.2,keepV fun b hb=>setCell_off _ _ _ hb⟩
   ·obtain ⟨q,e4⟩:=e3 hl
    have hsit:WSit X.P X.N X.pk X.m0 X.t0 X.Gt X.J i (n+1) ⟨1,q,1,ρ,v'⟩ g' _:=.quit e4 hdone
    obtain ⟨s',kk⟩:=h'.wgs hX hi hg hsit hn (a:=stA X.N.Wg) rfl (.inl ⟨_,rfl⟩) (.inl rfl) (by rw [hDi]) hw' (fun tag' ht _=>(a5 hl _ rfl).retag ht) (by rw [hDi];simp) (by rw [hDi];simp) (by rw [hDi]) rfl (by rw [hDi])
    exact .inr ⟨_,_,_,s',e1,kk.1,kk.2.1,kk.2.2.1,kk.2.2.2.1,kk.2.2.2.2,keepV fun b hb=>setCell_off _ _ _ hb⟩
  ·obtain ⟨g',w',es,e1,e2,e3⟩:=hstep _ (RK.refl _)
   have hsit:WSit X.P X.N X.pk X.m0 X.t0 X.Gt X.J i (n+1) ⟨5,m',1,ρ,v'⟩ g' w':=.d1 e3 (by obtain ⟨rfl,_⟩:=e2;exact h2)
   obtain ⟨s',kk⟩:=h'.idle hX hi hg hsit hn e2 (by rw [hDi]) (by rw [hDi]) (by rw [hDi]) (by rw [hDi]) (by rw [hDi];simp)
   exact .inr ⟨_,_,_,s',e1,kk.1,kk.2.1,kk.2.2.1,kk.2.2.2.1,kk.2.2.2.2,by obtain ⟨rfl,_⟩:=e2;exact fun _ _=>rfl⟩
 | @d2 m ρ v' g w1 h1 h2 =>
  rcases Goes.cases h1 with hstop | ⟨m',rfl,hstep⟩
  ·obtain ⟨l1,l0,l2,l3,rfl⟩:=hm.isLast hi (.inl (by rw [hDi]))
   rw [hDi] at l3
   obtain rfl:st=1:=by simpa using l3
   obtain ⟨_,hst⟩:=hstop _ (RK.refl _)
   obtain ⟨g',e1,m',e2⟩:=hst hw
   have hsit:WSit X.P X.N X.pk X.m0 X.t0 X.Gt X.J i (n+1) ⟨3,m',1,ρ,v'⟩ g' (w.at d):=.d3 e2 h2
   obtain ⟨s',kk⟩:=h'.wgs hX hi hg hsit hn (a:=stA X.N.Wg) rfl (.inr rfl) (.inr (.inl rfl)) (by rw [hDi]) hw (fun tag' ht _=>by
    have:Mode s.j s.p (upd s.D i ⟨3,m',1,ρ,v'⟩) s.tag (if (upd s.D i ⟨3,m',1,ρ,v'⟩ i).stage=2 then 0 else 1) 0:=.last i l1 l0 hi (.inr (.inl (by rw [upd_same]))) fun a ha e=>by rw [upd_ne s.D _ e];exact l2 a ha e
    rw [upd_same] at this
    exact this.retag ht) (by rw [hDi];simp) (by rw [hDi];simp) (by rw [hDi]) rfl (by rw [hDi])
   exact .inr ⟨_,_,_,s',e1,kk.1,kk.2.1,kk.2.2.1,kk.2.2.2.1,kk.2.2.2.2,fun _ _=>rfl⟩
  ·obtain ⟨g',w',es,e1,e2,e3⟩:=hstep _ (RK.refl _)
   have hsit:WSit X.P X.N X.pk X.m0 X.t0 X.Gt X.J i (n+1) ⟨4,m',1,ρ,v'⟩ g' w':=.d2 e3 (by obtain ⟨rfl,_⟩:=e2;exact h2)
   obtain ⟨s',kk⟩:=h'.idle hX hi hg hsit hn e2 (by rw [hDi]) (by rw [hDi]) (by rw [hDi]) (by rw [hDi]) (by rw [hDi];simp)
   exact .inr ⟨_,_,_,s',e1,kk.1,kk.2.1,kk.2.2.1,kk.2.2.2.1,kk.2.2.2.2,by obtain ⟨rfl,_⟩:=e2;exact fun _ _=>rfl⟩
 | @d3 m ρ v' g w1 h1 h2 =>
  rcases Goes.cases h1 with hstop | ⟨m',rfl,hstep⟩
  ·obtain ⟨l1,l0,l2,l3,rfl⟩:=hm.isLast hi (.inr (.inl (by rw [hDi])))
   rw [hDi] at l3
   obtain rfl:st=1:=by simpa using l3
   obtain ⟨_,hst⟩:=hstop _ (RK.refl _)
   obtain ⟨g',e1,m',e2⟩:=hst hw
   have hdone:Done (X.J i) ρ v' ((w.at d).setCell (stA X.N.Wg) (.int .u64 0)):=h2.leaves hX.sync (Leaves.block fun b p hb=>setCell_off _ _ _ (h'.zone.lt i hin b p (by rw [hDi];exact hb)).2.2.1) rfl
   have hsit:WSit X.P X.N X.pk X.m0 X.t0 X.Gt X.J i (n+1) ⟨2,m',1,ρ,v'⟩ g' _:=.d4 e2 hdone
   obtain ⟨s',kk⟩:=h'.wgs hX hi hg hsit hn (a:=stA X.N.Wg) rfl (.inl ⟨_,rfl⟩) (.inr (.inr (.inl rfl))) (by rw [hDi]) (hw.setSt 0) (fun tag' ht _=>by
    have:Mode s.j s.p (upd s.D i ⟨2,m',1,ρ,v'⟩) s.tag (if (upd s.D i ⟨2,m',1,ρ,v'⟩ i).stage=2 then 0 else 1) 0:=.last i l1 l0 hi (.inr (.inr (by rw [upd_same]))) fun a ha e=>by rw [upd_ne s.D _ e];exact l2 a ha e
    rw [upd_same] at this
    exact this.retag ht) (by rw [hDi];simp) (by rw [hDi];simp) (by rw [hDi]) rfl (by rw [hDi])
   exact .inr ⟨_,_,_,s',e1,kk.1,kk.2.1,kk.2.2.1,kk.2.2.2.1,kk.2.2.2.2,keepV fun b hb=>setCell_off _ _ _ hb⟩
  ·obtain ⟨g',w',es,e1,e2,e3⟩:=hstep _ (RK.refl _)
   have hsit:WSit X.P X.N X.pk X.m0 X.t0 X.Gt X.J i (n+1) ⟨3,m',1,ρ,v'⟩ g' w':=.d3 e3 (by obtain ⟨rfl,_⟩:=e2;exact h2)
   obtain ⟨s',kk⟩:=h'.idle hX hi hg hsit hn e2 (by rw [hDi]) (by rw [hDi]) (by rw [hDi]) (by rw [hDi]) (by rw [hDi];simp)
   exact .inr ⟨_,_,_,s',e1,kk.1,kk.2.1,kk.2.2.1,kk.2.2.2.1,kk.2.2.2.2,by obtain ⟨rfl,_⟩:=e2;exact fun _ _=>rfl⟩
 | @d4 m ρ v' g w1 h1 h2 =>
  rcases Goes.cases h1 with hstop | ⟨m',rfl,hstep⟩
  ·obtain ⟨l1,l0,l2,l3,rfl⟩:=hm.isLast hi (.inr (.inr (by rw [hDi])))
   rw [hDi] at l3
   obtain rfl:st=0:=by simpa using l3
   obtain ⟨_,hmw,hst⟩:=hstop _ (RK.refl _)
   obtain ⟨g',e1,q,e2⟩:=hst hw
   have hdone:Done (X.J i) ρ v' ((w.at d).setCell (smA X.N.Wg) (.int .u32 1)):=h2.leaves hX.sync (Leaves.block fun b p hb=>setCell_off _ _ _ (h'.zone.lt i hin b p (by rw [hDi];exact hb)).2.2.1) rfl
   have hsit:WSit X.P X.N X.pk X.m0 X.t0 X.Gt X.J i (n+1) ⟨1,q,1,ρ,v'⟩ g' _:=.quit e2 hdone
   have hrung:g'.status=.running:=by
    cases q with
    | zero=>exact absurd e2.2 (by decide)
    | succ q=>rcases e2 with k | k;exact absurd k.2 (by decide);exact k.1
   obtain ⟨s',kk⟩:=h'.wgs hX hi hg hsit hn (a:=smA X.N.Wg) rfl (.inl ⟨_,rfl⟩) (.inr (.inr (.inr rfl))) (by rw [hDi]) (hw.setSm 1) (fun tag' ht hk=>by
    refine .sema ?_ l0 fun a ha=>?_
    ·have:=hk hmw hrung
     rcases ht with rfl | ⟨_,rfl⟩
     ·cases hh:s.tag <;> rw [hh] at l1 this <;> first | exact .inl rfl | exact .inr rfl | exact l1.elim | exact absurd rfl this
     ·exact .inl rfl
    ·by_cases e:a=i
     ·subst e;rw [upd_same]
     ·rw [upd_ne s.D _ e];exact l2 a ha e) (by rw [hDi];simp) (by rw [hDi];simp) (by rw [hDi]) rfl (by rw [hDi])
   exact .inr ⟨_,_,_,s',e1,kk.1,kk.2.1,kk.2.2.1,kk.2.2.2.1,kk.2.2.2.2,keepV fun b hb=>setCell_off _ _ _ hb⟩
  ·obtain ⟨g',w',es,e1,e2,e3⟩:=hstep _ (RK.refl _)
   have hsit:WSit X.P X.N X.pk X.m0 X.t0 X.Gt X.J i (n+1) ⟨2,m',1,ρ,v'⟩ g' w':=.d4 e3 (by obtain ⟨rfl,_⟩:=e2;exact h2)
   obtain ⟨s',kk⟩:=h'.idle hX hi hg hsit hn e2 (by rw [hDi]) (by rw [hDi]) (by rw [hDi]) (by rw [hDi]) (by rw [hDi];simp)
   exact .inr ⟨_,_,_,s',e1,kk.1,kk.2.1,kk.2.2.1,kk.2.2.2.1,kk.2.2.2.2,by obtain ⟨rfl,_⟩:=e2;exact fun _ _=>rfl⟩
 | @quit q dd ρ v' g w1 h1 h2 =>
  cases q with
  | zero=>rw [h1.1] at hgr;cases hgr
  | succ q =>
   rcases h1 with ⟨hf,_⟩ | ⟨_,g',es,hmu,hstp,hq⟩
   ·rw [hf] at hgr;cases hgr
   have hsit:WSit X.P X.N X.pk X.m0 X.t0 X.Gt X.J i (n+1) ⟨1,q,deafBehind dd es,ρ,v'⟩ g' (w.at d):=.quit hq h2
   obtain ⟨s',kk⟩:=h'.quiet hX hi hg hsit hn (fun _ _=>rfl) rfl rfl (by rw [hDi]) (st':=st) (sm':=sm) hw (fun tag' ht _=>(hm.congr fun a _=>by
     by_cases e:a=i
     ·subst e;rw [upd_same,hDi]
     ·rw [upd_ne s.D _ e]).retag ht)
    (fun e he=>.inl (touch_mute (hmu e he))) (fun e he=>low_mute (hmu e he) _) (fun e he=>by have:=hmu e he;intro k;obtain ⟨loc,wr,sy⟩:=e;simp only at k;subst k;cases this) (by rw [hDi]) (fun _ r hr=>hr.appNone _ _ (fun e he=>touch_mute (hmu e he)))
    (fun _=>.inl (by rw [hDi];simp)) (by rw [hDi]) (by rw [hDi];simp) (.inr (by rw [hDi];simp))
   exact .inr ⟨_,_,_,s',hstp _,kk.1,kk.2.1,kk.2.2.1,kk.2.2.2.1,kk.2.2.2.2,fun _ _=>rfl⟩
end
end Go.Proofs.YtjnkcibpkkjniaaGreat.Pool
namespace Go.Proofs.YtjnkcibpkkjniaaGreat.Pool
open Go.Conc Go.ConcN Go.Proofs.YtjnkcibpkkjniaaGreat.Sim
open Go.ConcR (KK wgBlock WgAt stA smA rd wr mk DC0)
variable [Scope]
theorem PT.appMutes {Sh Shun:Loc→Prop} {Own Rd:Nat→Loc→Prop} {K:Nat→Prop} {c:Nat}:∀ (u:List MemOp) {t:Trace},PT Sh Shun Own Rd K c t→(∀ op∈u,op.act.touch? = none)→PT Sh Shun Own Rd K c (t++u.toArray)
 | [],t,h,_=>by simpa using h
 | x::l,t,h,hn=>by
  have e:t++(x::l).toArray=(t++#[x])++l.toArray:=by apply Array.ext';simp
  rw [e]
  exact PT.appMutes l (h.appMute (g:=x.g) (fun op hop=>by simp at hop;rw [hop]) (fun op hop=>by simp at hop;rw [hop];exact hn x (by simp))) fun op hop=>hn op (by simp [hop])
section
variable {X:Ctx} {s:St} {n:Nat} {gs gs':Array Goroutine} {w w':World} {t u:Trace}
theorem setChan_get (w:World) (c cap:Nat) (buf:Array Value) (cl:Bool) (a b:Nat) (tm:Bool) (x:Nat):(w.setChan c cap buf cl a b tm).heap[x]? = if c=x∧c < w.heap.size then some (.chan cap buf cl a b tm) else w.heap[x]?:=by
 unfold World.setChan
 simp only
 rw [Array.getElem?_setIfInBounds]
 by_cases h:c=x
 ·subst h
  by_cases hl:c < w.heap.size
  ·simp [hl]
  ·simp [hl]
 ·simp [h]
structure Mutes (X:Ctx) (s:St) (i:Nat) (w:World) (u:Trace):Prop where
 touch:∀ op∈u,op.act.touch? = none
 low:∀ op∈u,op.act.low w.heap.size
 who:∀ op∈u,op.g=0∨op.g=X.N.B+i
 still:∀ op∈u,op.act≠.mark .disable∧op.act≠.mark .enable
 norel:∀ op∈u,op.act≠.mark (.release (stA X.N.Wg))
theorem Rl.mutes {N:Nums} {k r:Nat} (h:Rl N t k r) (hu:∀ op∈u,op.act.touch? = none):Rl N (t++u) k r:=by
 refine ⟨h.rel.app fun i hi hgi hc=>?_,fun i op x hr hi hg hx hm=>?_⟩
 ·obtain ⟨x,hx,_⟩:=hc
  obtain ⟨op,hop,hox⟩:=touch_of hx
  rcases getElem?_append_cases hop with ⟨hlt,_⟩ | ⟨_,hou⟩
  ·omega
  ·rw [hu op hou] at hox;cases hox
 ·rcases getElem?_append_cases hi with ⟨_,hi'⟩ | ⟨_,hiu⟩
  ·exact h.soft i op x hr hi' hg hx hm
  ·rw [hu op hiu] at hx;cases hx
theorem Crew.sent (hX:X.Good) (h:Crew X s n gs w t) {i:Nat} (hi:i < s.j) (h8:(s.D i).stage=8) {m:Nat} (hsz:gs'.size=gs.size) {g':Goroutine} (hgi:gs'[X.N.B+i]? = some g') (hgo:∀ k,k≠X.N.B+i→0 < k→gs'[k]? = gs[k]?)
  (hs:WSit X.P X.N X.pk X.m0 X.t0 X.Gt X.J i (n+1) ⟨7,m,0,(s.D i).ρ,(s.D i).v⟩ g' w')
  (hn:∀ i',i' < X.N.n→i'≠i→sums (segOf X.P X.pk (X.N.B+i') X.m0 X.t0) (n+1)=sums (segOf X.P X.pk (X.N.B+i') X.m0 X.t0) n)
  {got' wait':List Nat} (hl:got'++wait'=s.got++s.wait++[i]) {d:Nat}
  (hw':w'=(w.at d).setChan X.N.CB X.N.n (wait'.map fun i=>(X.J i).msg (s.D i).v).toArray false (got'.length+wait'.length) got'.length false)
  (hu:Mutes X s i w u) :
  ∃ s',Crew X s' (n+1) gs' w' (t++u)∧Lt2 (meas X s') (meas X s)∧SameBut s s'∧s'.got=got'∧s'.wait=wait'∧s'.D i=⟨7,m,0,(s.D i).ρ,(s.D i).v⟩∧∀ i',i'≠i→s'.D i'=s.D i':=by
 have hjn:=h.jn
 have hin:i < X.N.n:=by omega
 have hB:=hX.pos
 have hnew:w'.heap[X.N.CB]? = some (.chan X.N.n (wait'.map fun i=>(X.J i).msg (s.D i).v).toArray false (got'.length+wait'.length) got'.length false):=by
  rw [hw',setChan_get,if_pos ⟨rfl,h.zone.nums.2.1⟩]
 have hheap:∀ b,b≠X.N.CB→w'.heap[b]? = w.heap[b]?:=fun b hb=>by
  rw [hw',setChan_get,if_neg (fun e=>hb e.1.symm)];rfl
 have hsize:w'.heap.size=w.heap.size:=by rw [hw'];simp [World.setChan,World.at]
 have hos:w'.os=w.os:=by rw [hw'];rfl
 have hDeaf:∀ k,Deaf (t++u) k=Deaf t k:=fun k=>Deaf_still t k u hu.still
 have hRK:∀ S:Nat→Prop,(∀ b,S b→s.V b)→RK X.N.ty X.N.Wg S w w':=fun S hS=>⟨fun b hb=>hheap b (h.zone.v b (hS b hb)).2.2.1,fun ⟨a,b,k⟩=>⟨a,b,getWg k (hheap _ hX.nums.1)⟩⟩
 have hLv:∀ i',i' < X.N.n→Leaves (s.D i').ρ w w':=fun i' hi'=>Leaves.block fun b p hb=>hheap _ (h.zone.lt i' hi' b p hb).2.2.2.1
 obtain ⟨st,sm,hw,hm⟩:=h.wg
 have hg:Grow (s.D i).ρ w (⟨7,m,0,(s.D i).ρ,(s.D i).v⟩:WD).ρ:=Grow.refl _ _
 have hz:Zone X { s with D:=upd s.D i ⟨7,m,0,(s.D i).ρ,(s.D i).v⟩,tag:=s.tag,fc:=s.fc } w':=h.zone.upd hin id hg (fun b p hb=>by rw [hsize];exact (h.zone.lt i hin b p hb).1) (by omega)
 have hρ:∀ i',(upd s.D i ⟨7,m,0,(s.D i).ρ,(s.D i).v⟩ i').ρ=(s.D i').ρ∧(upd s.D i ⟨7,m,0,(s.D i).ρ,(s.D i).v⟩ i').v=(s.D i').v:=fun i'=>by
  by_cases e:i'=i
  ·subst e;rw [upd_same];exact ⟨rfl,rfl⟩
  ·rw [upd_ne s.D _ e];exact ⟨rfl,rfl⟩
 have hnotin:i ∉ s.got++s.wait:=fun k=>by have:=((h.list i).1 k).2;omega
 refine ⟨{ s with D:=upd s.D i ⟨7,m,0,(s.D i).ρ,(s.D i).v⟩,got:=got',wait:=wait' },⟨by rw [hsz];exact h.size,h.jn,fun i' g1 h0 h1 h2=>?_,fun i' hi'=>?_,fun i' h1 h2=>?_,fun ht=>?_,by rw [hDeaf];exact h.hear,fun j hj=>?_,⟨st,sm,getWg hw (hheap _ hX.nums.1),hm.counted hi (by omega) (by simp)⟩,?_,?_,fun i'=>?_,by rw [hheap _ (Ne.symm hX.nums.2.2)];exact h.fin,?_,?_,?_,fun i' hi' hst=>?_,fun ht=>?_,fun ht=>?_,⟨hz.lt,hz.apart,hz.shun,hz.v,hz.wv,hz.sj,hz.sc,hz.nums,hz.old⟩,by rw [hsize];exact h.base⟩,?_,⟨rfl,rfl,rfl,rfl,rfl, .inl rfl,rfl,fun i' _ _=>(hρ i').2⟩,rfl,rfl,by simp only [upd_same],fun i' e=>by simp only [upd_ne s.D _ e]⟩
 ·rw [hgo i' (by omega) h0] at h2
  rw [hDeaf]
  exact h.lv i' g1 h0 h1 h2
 ·have hi'':i' < s.j:=hi'
  by_cases e:i'=i
  ·subst e
   obtain ⟨g1,e1,_,e3⟩:=h.wk i' hi'
   refine ⟨g',hgi,by simp only [upd_same];exact hs,?_⟩
   rw [hDeaf,e3]
   obtain ⟨g2,f1,f2,_⟩:=h.wk i' hi'
   simp only [upd_same]
   exact f2.deafs (by omega)
  ·obtain ⟨g1,e1,e2,e3⟩:=h.wk i' hi'
   refine ⟨g1,by rw [hgo _ (by omega) (by omega)];exact e1,?_,by rw [hDeaf,e3];simp only [upd_ne s.D _ e]⟩
   simp only [upd_ne s.D _ e]
   exact e2.rely hX.sync (hn i' (by omega) e) (hRK _ fun b hb=>(h.zone.sj i' hi' b hb).1) (hLv i' (by omega)) hos
 ·have e:i'≠i:=by have:s.j≤i':=h1;omega
  simp only [upd_ne s.D _ e]
  have hu':=h.un i' h1 h2
  have hle:=hLv i' h2
  rw [hu'.1] at hle
  exact ⟨hu'.1,HR.leaves hX.sync hu'.2 hle hos⟩
 ·obtain ⟨a,k1,k2,k3⟩:=h.cl ht
  exact ⟨a,by rw [hgo _ (by omega) (by omega)];exact k1,k2.rely (hRK _ fun b hb=>(h.zone.sc ht b hb).1),by rw [hDeaf];exact k3⟩
 ·rw [hDeaf]
  exact h.fresh j (by rw [←hsz];exact hj)
 ·rw [hnew]
  have:(wait'.map fun i_1=>(X.J i_1).msg (upd s.D i ⟨7,m,0,(s.D i).ρ,(s.D i).v⟩ i_1).v)=wait'.map fun i=>(X.J i).msg (s.D i).v:=List.map_congr_left fun i' _=>by rw [(hρ i').2]
  rw [this]
 ·show (got'++wait').Nodup
  rw [hl,List.nodup_append]
  exact ⟨h.nodup,by simp,fun a ha b hb e=>by simp at hb;subst hb;subst e;exact hnotin ha⟩
 ·show i'∈got'++wait'↔_
  rw [hl,List.mem_append,h.list]
  by_cases e:i'=i
  ·subst e
   simp only [upd_same]
   simp
   exact hi
  ·simp only [upd_ne s.D _ e]
   simp [e]
 ·have eO:OwnP X { s with D:=upd s.D i ⟨7,m,0,(s.D i).ρ,(s.D i).v⟩,got:=got',wait:=wait' }=OwnP X s:=by
   funext k l
   unfold OwnP
   simp only [(hρ _).1]
  rw [eO]
  have:=PT.appMutes u.toList h.tr (fun op hop=>hu.touch op (by simpa using hop))
  have h2:PT (ShP X.N) X.Shun (OwnP X s) (RdP X) (KP X s) (sayer X s) (t++u):=by simpa using this
  exact h2
 ·intro op hop
  rw [hsize]
  rcases Array.mem_append.1 hop with k | k
  ·exact h.low op k
  ·exact hu.low op k
 ·exact h.norel.app fun op hop=>hu.norel op hop
 ·by_cases e:i'=i
  ·subst e;simp only [upd_same] at hst;omega
  ·simp only [upd_ne s.D _ e] at hst
   obtain ⟨r,hr⟩:=h.rel i' hi' hst
   exact ⟨r,hr.mutes hu.touch⟩
 ·obtain ⟨q,hq⟩:=h.acq ht
  exact ⟨q,hq.app fun i' r _ hr=>hr.mutes hu.touch⟩
 ·obtain ⟨q,p,hq⟩:=h.cls ht
  exact ⟨q,p,hq.app (fun i' r _ hr=>hr.mutes hu.touch) fun op hop _=>hu.touch op hop⟩
 ·have e1:=sumTo_upd s.D (⟨7,m,0,(s.D i).ρ,(s.D i).v⟩:WD) cnt hi
  have e2:=sumTo_upd s.D (⟨7,m,0,(s.D i).ρ,(s.D i).v⟩:WD) WD.stage hi
  unfold meas
  simp only [Vc,Ssum,Fsum] at *
  have c1:cnt (s.D i)=1:=by simp [cnt,h8]
  have c2:cnt (⟨7,m,0,(s.D i).ρ,(s.D i).v⟩:WD)=1:=by simp [cnt]
  refine Prod.Lex.left _ _ ?_
  have:(sumTo s.j fun a=>cnt (upd s.D i ⟨7,m,0,(s.D i).ρ,(s.D i).v⟩ a))=sumTo s.j fun a=>cnt (s.D a):=by omega
  rw [this]
  simp only [h8] at e2
  omega
theorem Crew.cstep (hX:X.Good) (h:Crew X s n gs w t) (ht:s.tag≠.sp) {g g':Goroutine} {es:Array Event} {tag':Tg} {fc' dc':Nat} {st' sm':Int} (hg:gs[X.N.B+X.N.n]? = some g) (ht':tag'≠.sp)
  (hs:CSit X.P X.N X.Sc X.Anch X.mC tag' fc' dc' g' w')
  (hn:∀ i',i' < X.N.n→sums (segOf X.P X.pk (X.N.B+i') X.m0 X.t0) (n+1)=sums (segOf X.P X.pk (X.N.B+i') X.m0 X.t0) n)
  (hheap:∀ b,b≠X.N.Wg→b≠X.N.CF→w'.heap[b]? = w.heap[b]?) (hCF:w'.heap[X.N.CF]? = some (.chan 0 #[] (isQt tag') 0 0 false)) (hsz:w'.heap.size=w.heap.size) (hos:w'.os=w.os)
  (hwg:WgAt X.N.ty X.N.Wg w' st' sm') (hmode:Mode s.j s.p s.D tag' st' sm')
  (hok:∀ e∈es,∀ a,(MemAct.ofEvent e).touch? = some a→a.loc.isMemory=true→(ShP X.N a.loc∧a.kind≠.plain)∨(∃ b,InBlock b a.loc∧X.Sc b∧a.write=false))
  (hlow:∀ e∈es,(MemAct.ofEvent e).low w.heap.size) (hnr:∀ e∈es,e.loc≠.mark (.release (stA X.N.Wg))) (hdeaf:deafBehind s.dc es=dc')
  (hacq:tag'=.cl→s.tag=.cl∨∃ q,Acq X (t++MemOp.ofEvents (X.N.B+X.N.n) g.frame.fn g.frame.place es) q)
  (hcls:tag'=.qt→(s.tag=.qt∧∀ e∈es,(MemAct.ofEvent e).touch? = none)∨∃ q p,Cls X (t++MemOp.ofEvents (X.N.B+X.N.n) g.frame.fn g.frame.place es) q p)
  (hmeas:phi X.N.n (Vc s.j s.D) tag' < phi X.N.n (Vc s.j s.D) s.tag∨(phi X.N.n (Vc s.j s.D) tag'=phi X.N.n (Vc s.j s.D) s.tag∧fc' < s.fc)) :
  Crew X { s with tag:=tag',fc:=fc',dc:=dc' } (n+1) ((gs.map (woken X.P g g' w')).setIfInBounds (X.N.B+X.N.n) g') w' (t++MemOp.ofEvents (X.N.B+X.N.n) g.frame.fn g.frame.place es)∧Lt2 (meas X { s with tag:=tag',fc:=fc',dc:=dc' }) (meas X s):=by
 have hB:=hX.pos
 have hlt:X.N.B+X.N.n < gs.size:=(Array.getElem?_eq_some_iff.1 hg).1
 have hgi:∀ op∈MemOp.ofEvents (X.N.B+X.N.n) g.frame.fn g.frame.place es,op.g=X.N.B+X.N.n:=fun op hop=>(mem_ops hop).1
 have hDeaf:∀ k,k≠X.N.B+X.N.n→Deaf (t++MemOp.ofEvents (X.N.B+X.N.n) g.frame.fn g.frame.place es) k=Deaf t k:=fun k hk=>Deaf_other t (Ne.symm hk) _ hgi
 have hRl:∀ i' r,i' < X.N.n→Rl X.N t (X.N.B+i') r→Rl X.N (t++MemOp.ofEvents (X.N.B+X.N.n) g.frame.fn g.frame.place es) (X.N.B+i') r:=fun i' r hi' hr=>hr.appNot fun op hop=>by rw [hgi op hop];omega
 have hVk:∀ b,s.V b→w'.heap[b]? = w.heap[b]?:=fun b hb=>hheap b (h.zone.v b hb).2.1 (h.zone.v b hb).2.2.2.1
 have hj:=(h.size.2 ht).2.1
 refine ⟨⟨?_,h.jn,fun i' g1 h0 h1 h2=>?_,fun i' hi'=>?_,fun i' h1 h2=>?_,fun _=>⟨g',by rw [get_map_set_same _ _ _ hlt],hs,?_⟩,by rw [hDeaf 0 (by omega)];exact h.hear,fun j hj=>?_,⟨st',sm',hwg,hmode⟩,?_,h.nodup,h.list,hCF,?_,?_,?_,fun i' hi' hst=>?_,fun e=>?_,fun e=>?_,⟨?_,h.zone.apart,h.zone.shun,?_,h.zone.wv,h.zone.sj,fun _=>h.zone.sc ht,?_,?_⟩,by rw [hsz];exact h.base⟩,?_⟩
 ·simp only [Array.size_setIfInBounds,Array.size_map]
  exact ⟨fun e=>absurd e ht',fun _=>h.size.2 ht⟩
 ·rw [get_map_set _ _ _ _ (by omega)] at h2
  obtain ⟨y,hy,rfl⟩:=Option.map_eq_some_iff.1 h2
  have hq:=h.lv i' y h0 h1 hy
  rw [woken_quitsD hq,hDeaf i' (by omega)]
  exact hq
 ·obtain ⟨g1,e1,e2,e3⟩:=h.wk i' hi'
  have hi'':i' < s.j:=hi'
  refine ⟨g1,by rw [get_map_set _ _ _ _ (by omega),e1,Option.map_some,e2.woken],?_,by rw [hDeaf _ (by omega)];exact e3⟩
  exact e2.rely hX.sync (hn i' (by omega)) ⟨fun b hb=>hVk b (h.zone.sj i' hi' b hb).1,fun _=>⟨_,_,hwg⟩⟩ (Leaves.block fun b p hb=>hheap _ (h.zone.lt i' (by omega) b p hb).2.2.1 (h.zone.lt i' (by omega) b p hb).2.2.2.2) hos
 ·have:s.j≤i':=h1
  omega
 ·obtain ⟨a,k1,_,k3⟩:=h.cl ht
  rw [Deaf_own,k3,hdeaf]
 ·have hj':gs.size≤j:=by simpa using hj
  rw [hDeaf j (by omega)]
  exact h.fresh j hj'
 ·rw [hheap _ (Ne.symm hX.nums.1) hX.nums.2.2];exact h.back
 ·have eK:KP X { s with tag:=tag',fc:=fc',dc:=dc' }=KP X s:=by
   funext k;unfold KP;simp only [ne_eq,ht,ht',not_false_eq_true,true_and]
  have sp:∀ {x:Tg},x≠.sp→isSp x=false:=fun {x} hx=>by cases x <;> first | rfl | exact absurd rfl hx
  have ec:sayer X { s with tag:=tag',fc:=fc',dc:=dc' }=X.N.B+X.N.n:=by unfold sayer;simp [sp ht']
  have ec':sayer X s=X.N.B+X.N.n:=by unfold sayer;simp [sp ht]
  rw [eK,ec]
  have A:=h.zone.apt hX (show s.j≤X.N.n by omega)
  have htr:=h.tr
  rw [ec'] at htr
  refine htr.appK A (k:=X.N.B+X.N.n) (.inr ⟨ht,rfl⟩) fun op hop=>⟨hgi op hop,fun a ha hm=>?_⟩
  obtain ⟨_,e,he,hoa⟩:=mem_ops hop
  rw [hoa] at ha
  rcases hok e he a ha hm with ⟨k1,k2⟩ | ⟨b,k1,k2,k3⟩
  ·exact .inl ⟨k1,k2,fun _=>rfl⟩
  ·exact .inr (.inr ⟨⟨b,k1, .inr ⟨rfl,k2⟩⟩,k3⟩)
 ·intro op hop
  rw [hsz]
  rcases Array.mem_append.1 hop with k | k
  ·exact h.low op k
  ·obtain ⟨_,e,he,ha⟩:=mem_ops k
   rw [ha];exact hlow e he
 ·refine h.norel.app fun op hop=>?_
  obtain ⟨_,e,he,ha⟩:=mem_ops hop
  rw [ha]
  exact ofEvent_norel (hnr e he)
 ·obtain ⟨r,hr⟩:=h.rel i' hi' hst
  have hi'':i' < s.j:=hi'
  exact ⟨r,hRl i' r (by omega) hr⟩
 ·rcases hacq e with k | k
  ·obtain ⟨q,hq⟩:=h.acq k
   exact ⟨q,hq.app hRl⟩
  ·exact k
 ·rcases hcls e with ⟨k,hk⟩ | k
  ·obtain ⟨q,p,hq⟩:=h.cls k
   refine ⟨q,p,hq.app hRl fun op hop _=>?_⟩
   obtain ⟨_,e,he,ha⟩:=mem_ops hop
   rw [ha];exact hk e he
  ·exact k
 ·rw [hsz];exact h.zone.lt
 ·rw [hsz];exact h.zone.v
 ·rw [hsz];exact h.zone.nums
 ·rw [hsz];exact h.zone.old
 ·unfold meas
  simp only
  rcases hmeas with k | ⟨k1,k2⟩
  ·exact Prod.Lex.left _ _ (by omega)
  ·rw [k1];exact Prod.Lex.right _ (by omega)
end
end Go.Proofs.YtjnkcibpkkjniaaGreat.Pool
