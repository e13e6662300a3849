import Derived.Test.YtjnkcibpkkjniaaGreatA04
import Derived.Orders
import Derived.Conc.Own5
import Derived.Conc.CompanyCalls
import Derived.StepT
import Derived.Conc.Crowd
set_option linter.unusedVariables false
set_option linter.unusedSimpArgs false
set_option linter.unusedSectionVars false
namespace Go.Proofs.YtjnkcibpkkjniaaGreat.Sim
open Go.Conc
open Go.ConcN (sumTo upd sumTo_upd upd_ne upd_same)
section
variable {P:Program}
theorem main_step {Shun:Loc→Prop} {Post:Goroutine→World→Prop} {g:Goroutine} {w:World} (hg:g.status=.running)
  (h:∀ d,∃ g' w' es,stepG P true g (w.at d)=.go g' w' es∧(∀ e∈es,EvL Shun w'.heap.size e)∧w.heap.size≤w'.heap.size∧Post g' w') :
  ∀ (gs:Array Goroutine) (sl:Option (Nat×Nat)) (t:Trace) (q:Nat→Nat),gs[0]? = some g→Leavers P t gs q→Past Shun w.heap.size t →
   ∃ N gs' g' w' sl' t' q',runNT P N (crowd gs w sl) t=(.next (crowd gs' w' sl'),t')∧gs'.size=gs.size∧gs'[0]? = some g'∧Leavers P t' gs' q'∧Past Shun w'.heap.size t'∧Post g' w':=by
 obtain ⟨pk,hpk⟩:=picks P
 suffices key:∀ (μ:Nat) (w1:World),(∃ d,w1=w.at d)∨w1=w→∀ (gs:Array Goroutine) (sl:Option (Nat×Nat)) (t:Trace) (q:Nat→Nat),sumTo gs.size q=μ→gs[0]? = some g→Leavers P t gs q→Past Shun w.heap.size t →
   ∃ N gs' g' w' sl' t' q',runNT P N (crowd gs w1 sl) t=(.next (crowd gs' w' sl'),t')∧gs'.size=gs.size∧gs'[0]? = some g'∧Leavers P t' gs' q'∧Past Shun w'.heap.size t'∧Post g' w' from
  fun gs sl t q h0 hL hP=>key _ w (.inr rfl) gs sl t q rfl h0 hL hP
 intro μ
 induction μ using Nat.strongRecOn with
 | _ μ ih =>
  intro w1 hw1 gs sl t q hμ h0 hL hP
  have hat:∀ d,w1.at d=w.at d:=by
   intro d
   rcases hw1 with ⟨d',rfl⟩ | rfl <;> rfl
  have hsz:w1.heap.size=w.heap.size:=by rcases hw1 with ⟨d',rfl⟩ | rfl <;> rfl
  have hb:Beside P (crowd gs w1 sl) t Shun 0 gs w1 sl t q g:=⟨rfl,h0,hL,by rw [hsz];exact hP⟩
  obtain ⟨d,sl',hturn⟩:=turn (pk:=pk) hpk hb hg
  rcases hturn with ⟨gs2,t2,q2,hb2,hs2,hlt,_⟩ | ⟨_,hgo⟩
  ·obtain ⟨N,gs',g',w',sl2,t',q',r1,r2,r3⟩:=ih (sumTo gs2.size q2) (by rw [hs2,←hμ];exact hlt) (w1.at d) (.inl ⟨d,hat d⟩) gs2 sl' t2 q2 rfl hb2.main hb2.leave (by have:=hb2.past;rw [hat d] at this;exact this)
   refine ⟨1+N,gs',g',w',sl2,t',q',?_,r2.trans hs2,r3⟩
   rw [runNT_add,show runNT P 1 (crowd gs w1 sl) t=_ from hb2.run]
   exact r1
  ·obtain ⟨g',w',es,e1,e2,e3,e4⟩:=h d
   obtain ⟨gs2,t2,hb2,hs2⟩:=hgo g' w' es (by rw [hat d];exact e1) e2 (by rw [hsz];exact e3)
   exact ⟨1,gs2,g',w',sl',t2,q,hb2.run,hs2,hb2.main,hb2.leave,hb2.past,e4⟩
variable [Scope]
def OffShun (Shun:Loc→Prop) (B:Nat):Prop:=(∀ a:Addr,a.block=B→¬ Shun (.cell a))∧¬ Shun (.obj B)
structure Lasts (Shun:Loc→Prop) (ρ:Ren) (w:World) (Shun':Loc→Prop) (ρ':Ren) (w':World):Prop where
 os:w'.os=w.os
 size:w.heap.size≤w'.heap.size
 block:∀ B,B < w.heap.size→(∀ b p,ρ b=some p→p.block≠B)→OffShun Shun B→w'.heap[B]? = w.heap[B]?∧(∀ b p,ρ' b=some p→p.block≠B)∧OffShun Shun' B
theorem Lasts.at (Shun:Loc→Prop) (ρ:Ren) (w:World) (d:Nat):Lasts Shun ρ w Shun ρ (w.at d):=⟨rfl,Nat.le_refl _,fun _ _ h1 h2=>⟨rfl,h1,h2⟩⟩
theorem Lasts.refl (Shun:Loc→Prop) (ρ:Ren) (w:World):Lasts Shun ρ w Shun ρ w:=⟨rfl,Nat.le_refl _,fun _ _ h1 h2=>⟨rfl,h1,h2⟩⟩
theorem Lasts.trans {S S' S'':Loc→Prop} {ρ ρ' ρ'':Ren} {w w' w'':World} (h:Lasts S ρ w S' ρ' w') (k:Lasts S' ρ' w' S'' ρ'' w''):Lasts S ρ w S'' ρ'' w'' :=
 ⟨k.os.trans h.os,Nat.le_trans h.size k.size,fun B hB h1 h2=>by
  obtain ⟨e1,e2,e3⟩:=h.block B hB h1 h2
  obtain ⟨f1,f2,f3⟩:=k.block B (Nat.lt_of_lt_of_le hB h.size) e2 e3
  exact ⟨f1.trans e1,f2,f3⟩⟩
theorem Lasts.kept {S:Loc→Prop} {ρ ρ':Ren} {w v w':World} (h:Kept ρ v w') (g:Grow ρ w ρ') (e1:v.heap=w.heap) (e2:v.os=w.os):Lasts S ρ w S ρ' w' :=
 ⟨h.os.trans e2,by rw [←e1];exact h.size,fun B hB h1 h2=>⟨by rw [←e1];exact h.other B (by rw [e1];exact hB) h1,fun b p hb=>by
  rcases g.new b p hb with k | ⟨_,k⟩
  ·exact h1 b p k
  ·omega,h2⟩⟩
def mkF (v:Value) (C:Array Value):Value:=.agg #[.chan (some 0),v, .agg C]
def isMk:Value→Bool
 | .agg ⟨[.chan (some _),_, .agg _]⟩=>true
 | _=>false
def Ptd (v:Value) (ad:Addr):Prop:=v=.pointer (some ad)∨∃ l c,v=.slice (some ad) l c
def Hold (Shun:Loc→Prop) (ρ:Ren) (w:World) (ad:Addr) (C:Array Value):Prop:=(∃ ty fr,w.heap[ad.block]? = some (.cells C ty fr))∧(∀ y p,ρ y=some p→p.block≠ad.block)∧OffShun Shun ad.block
theorem Hold.lasts {S S':Loc→Prop} {ρ ρ':Ren} {w w':World} {ad:Addr} {C:Array Value} (h:Hold S ρ w ad C) (k:Lasts S ρ w S' ρ' w'):Hold S' ρ' w' ad C:=by
 obtain ⟨⟨ty,fr,e⟩,h1,h2⟩:=h
 obtain ⟨k1,k2,k3⟩:=k.block _ (Array.getElem?_eq_some_iff.1 e).1 h1 h2
 exact ⟨⟨ty,fr,k1.trans e⟩,k2,k3⟩
def VF (Shun:Loc→Prop) (ρ:Ren) (w:World) (v v':Value):Prop:=VR ρ v v'∨∃ C ad,v=mkF v' C∧Ptd v' ad∧Hold Shun ρ w ad C
theorem VF.lasts {S S':Loc→Prop} {ρ ρ':Ren} {w w':World} {v v':Value} (h:VF S ρ w v v') (l:ρ.le ρ') (k:Lasts S ρ w S' ρ' w'):VF S' ρ' w' v v':=by
 rcases h with h | ⟨C,ad,h1,h2,h3⟩
 ·exact .inl (h.mono l)
 ·exact .inr ⟨C,ad,h1,h2,h3.lasts k⟩
theorem VF.vr {S:Loc→Prop} {ρ:Ren} {w:World} {v v':Value} (h:VF S ρ w v v') (hm:isMk v=false):VR ρ v v':=by
 rcases h with h | ⟨C,ad,rfl,_⟩
 ·exact h
 ·cases hm
structure VsF (Shun:Loc→Prop) (ρ:Ren) (w:World) (xs ys:Array Value):Prop where
 size:xs.size=ys.size
 get:∀ (i:Nat) v v',xs[i]? = some v→ys[i]? = some v'→VF Shun ρ w v v'
section
variable {S S':Loc→Prop} {ρ ρ':Ren} {w w':World} {xs ys:Array Value}
theorem VsF.lasts (h:VsF S ρ w xs ys) (l:ρ.le ρ') (k:Lasts S ρ w S' ρ' w'):VsF S' ρ' w' xs ys:=⟨h.size,fun i v v' a b=>(h.get i v v' a b).lasts l k⟩
theorem VsF.of (h:VsR ρ xs ys):VsF S ρ w xs ys:=⟨h.size,fun i v v' a b=>.inl (h.get i v v' a b)⟩
theorem VsF.set (h:VsF S ρ w xs ys) (i:Nat) {v v':Value} (k:VF S ρ w v v'):VsF S ρ w (xs.setIfInBounds i v) (ys.setIfInBounds i v'):=by
 refine ⟨by simp [h.size],fun j u u' a b=>?_⟩
 rw [Array.getElem?_setIfInBounds] at a b
 rw [←h.size] at b
 split at a
 ·rename_i e
  rw [if_pos e] at b
  split at a
  ·rename_i e2;rw [if_pos e2] at b;cases a;cases b;exact k
  ·cases a
 ·rename_i e
  rw [if_neg e] at b
  exact h.get j u u' a b
theorem VsF.at_ (h:VsF S ρ w xs ys) {i:Nat} {v:Value} (e:xs[i]? = some v):∃ v',ys[i]? = some v'∧VF S ρ w v v':=by
 have hi:i < ys.size:=by have:=(Array.getElem?_eq_some_iff.1 e).1;have:=h.size;omega
 exact ⟨ys[i],Array.getElem?_eq_getElem hi,h.get i _ _ e (Array.getElem?_eq_getElem hi)⟩
theorem VsF.off_ (h:VsF S ρ w xs ys) {i:Nat} (e:xs[i]? = none):ys[i]? = none:=by
 rw [Array.getElem?_eq_none_iff] at e ⊢
 have:=h.size
 omega
theorem VsF.getD (h:VsF S ρ w xs ys) (i:Nat):VF S ρ w (xs.getD i undef) (ys.getD i undef):=by
 simp only [Array.getD_eq_getD_getElem?]
 cases e:xs[i]? with
 | none=>rw [h.off_ e];exact .inl VR_undef
 | some v=>obtain ⟨v',e',k⟩:=h.at_ e;rw [e'];exact k
theorem VsF.yielded (h:VsF S ρ w xs ys) (ops:Array Oper):yielded ops xs=yielded ops ys:=by
 funext j
 unfold Go.yielded
 cases (ops[j]?).bind (·.dst) with
 | none=>rfl
 | some d =>
  simp only [Option.bind_some]
  cases e:xs[d]? with
  | none=>rw [h.off_ e]
  | some v =>
   obtain ⟨v',e',k⟩:=h.at_ e
   rw [e']
   rcases k with k | ⟨C,ad,rfl,k | ⟨_,_,k⟩,_⟩
   ·cases k <;> rfl
   ·subst k;rfl
   ·subst k;rfl
theorem VsF.append (h:VsF S ρ w xs ys) {xs' ys':Array Value} (k:VsR ρ xs' ys'):VsF S ρ w (xs++xs') (ys++ys'):=by
 refine ⟨by simp [h.size,k.size],fun i u u' a b=>?_⟩
 rw [Array.getElem?_append] at a b
 rw [←h.size] at b
 split at a
 ·rename_i e;rw [if_pos e] at b;exact h.get i u u' a b
 ·rename_i e;rw [if_neg e] at b;exact .inl (k.get _ u u' a b)
def msk (xs:Array Value) (e:Operand→Value):Operand→Value
 | .tmp t=>if isMk (xs.getD t undef) then undef else e (.tmp t)
 | x=>e x
def noMk (o:Oper) (e:Operand→Value):Bool:=o.op.operands.all fun x=>!isMk (e x)
end
structure FrX (Shun:Loc→Prop) (ρ:Ren) (w:World) (a b:Frame):Prop where
 fn:b.fn=a.fn
 tmps:VsF Shun ρ w a.tmps b.tmps
 todo:b.todo=a.todo
 defers:a.defers=[]∧b.defers=[]
 mode:b.mode=a.mode∧(a.mode=.run∨a.mode=.returning)
 kind:a.kind=.normal∧b.kind=.normal
 round:a.roundOf=none∧b.roundOf=none
theorem FrX.lasts {S S':Loc→Prop} {ρ ρ':Ren} {w w':World} {a b:Frame} (h:FrX S ρ w a b) (l:ρ.le ρ') (k:Lasts S ρ w S' ρ' w'):FrX S' ρ' w' a b:=⟨h.fn,h.tmps.lasts l k,h.todo,h.defers,h.mode,h.kind,h.round⟩
inductive FsX (Shun:Loc→Prop) (ρ:Ren) (w:World):List Frame→List Frame→Prop
 | nil:FsX Shun ρ w [] []
 | cons {x y:Frame} {xs ys:List Frame}:FrX Shun ρ w x y→FsX Shun ρ w xs ys→FsX Shun ρ w (x::xs) (y::ys)
theorem FsX.lasts {S S':Loc→Prop} {ρ ρ':Ren} {w w':World} {x y:List Frame} (h:FsX S ρ w x y) (l:ρ.le ρ') (k:Lasts S ρ w S' ρ' w'):FsX S' ρ' w' x y:=by
 induction h with
 | nil=>exact .nil
 | cons h _ ih=>exact .cons (h.lasts l k) ih
theorem FrX.eval {S:Loc→Prop} {ρ:Ren} {w:World} {a b:Frame} (h:FrX S ρ w a b):ER ρ (msk a.tmps a.eval) (msk a.tmps b.eval):=by
 refine ⟨fun t=>?_,fun c=>⟨rfl,rfl⟩,fun i=>⟨rfl,rfl⟩⟩
 unfold msk
 simp only
 have:=h.tmps.getD t
 split
 ·exact VR_undef
 ·rename_i hm
  exact this.vr (by simpa using hm)
theorem msk_run {o:Oper} {xs:Array Value} {e g:Operand→Value} (hs:∀ cs b,o.op≠.select cs b) (he:∀ t,e (.tmp t)=xs.getD t undef) (hu:noMk o e=true):execOp (msk xs g) o=execOp g o:=by
 refine execOp_congr o hs fun x hx=>?_
 have:=Array.all_eq_true_iff_forall_mem.1 hu x hx
 cases x with
 | tmp t =>
  rw [he t] at this
  unfold msk
  simp only
  rw [if_neg (by simpa using this)]
 | _=>rfl
structure StandX (P:Program) (Shun:Loc→Prop) (ρ:Ren) (cs:List Frame) (fr:Frame) (xs:List Frame) (wS:World) (gs:Array Goroutine) (w:World) (t:Trace) (q:Nat→Nat):Prop where
 main:∃ fr' ys,gs[0]? = some (G fr' (ys++cs))∧FrX Shun ρ w fr fr'∧FsX Shun ρ w xs ys
 hr:HR ρ wS w
 leave:Leavers P t gs q
 past:Past Shun w.heap.size t
 away:Away Shun ρ w
variable (P) in
def GetsX (cs:List Frame) (Q:Frame→List Frame→World→Prop) (fr:Frame) (xs:List Frame) (wS:World):Prop :=
 ∀ Shun ρ gs w sl t q,StandX P Shun ρ cs fr xs wS gs w t q →
  ∃ N gs' w' sl' t' q' Shun' ρ' fr' xs' wS',runNT P N (crowd gs w sl) t=(.next (crowd gs' w' sl'),t')∧ρ.le ρ'∧StandX P Shun' ρ' cs fr' xs' wS' gs' w' t' q'∧Q fr' xs' wS'∧Lasts Shun ρ w Shun' ρ' w'
theorem GetsX.done {cs:List Frame} {Q:Frame→List Frame→World→Prop} {fr:Frame} {xs:List Frame} {wS:World} (h:Q fr xs wS):GetsX P cs Q fr xs wS :=
 fun Shun ρ gs w sl t q hs=>⟨0,gs,w,sl,t,q,Shun,ρ,_,_,_,rfl,Ren.le_refl _,hs,h,Lasts.refl _ _ _⟩
theorem GetsX.bind {cs:List Frame} {Q Q':Frame→List Frame→World→Prop} {fr:Frame} {xs:List Frame} {wS:World} (h:GetsX P cs Q fr xs wS) (k:∀ fr xs wS,Q fr xs wS→GetsX P cs Q' fr xs wS):GetsX P cs Q' fr xs wS:=by
 intro Shun ρ gs w sl t q hs
 obtain ⟨N,gs1,w1,sl1,t1,q1,Shun1,ρ1,fr1,xs1,wS1,h1,hle,h2,h3,h4⟩:=h Shun ρ gs w sl t q hs
 obtain ⟨N',gs2,w2,sl2,t2,q2,Shun2,ρ2,fr2,xs2,wS2,k1,kle,k2,k3,k4⟩:=k _ _ _ h3 Shun1 ρ1 gs1 w1 sl1 t1 q1 h2
 refine ⟨N+N',gs2,w2,sl2,t2,q2,Shun2,ρ2,fr2,xs2,wS2,?_,Ren.le_trans hle kle,k2,k3,h4.trans k4⟩
 rw [runNT_add,h1]
 exact k1
theorem GetsX.ctl {cs:List Frame} {Q:Frame→List Frame→World→Prop} {fr fr2:Frame} {xs:List Frame} {wS:World}
  (h:∀ S ρ v fr' ys w,FrX S ρ v fr fr'→∃ fr2',stepG P true (G fr' ys) w=.go (G fr2' ys) w #[]∧FrX S ρ v fr2 fr2') (k:GetsX P cs Q fr2 xs wS):GetsX P cs Q fr xs wS:=by
 refine GetsX.bind (Q:=fun f x v=>f=fr2∧x=xs∧v=wS) (fun Shun ρ gs w sl t q hs=>?_) (by rintro _ _ _ ⟨rfl,rfl,rfl⟩;exact k)
 obtain ⟨fr',ys,h0,hf,hx⟩:=hs.main
 obtain ⟨N,gs',g',w',sl',t',q',r1,r2,r3,r4,r5,fr2',rfl,hf2,d,rfl⟩:=main_step (P:=P) (Shun:=Shun) (Post:=fun g' w'=>∃ fr2',g'=G fr2' (ys++cs)∧FrX Shun ρ w fr2 fr2'∧∃ d,w'=w.at d) (w:=w) (g:=G fr' (ys++cs)) rfl (fun d=>by
  obtain ⟨fr2',e,hf2⟩:=h Shun ρ w fr' (ys++cs) (w.at d) hf
  exact ⟨_,_,_,e,by simp,Nat.le_refl _,fr2',rfl,hf2,d,rfl⟩) gs sl t q h0 hs.leave hs.past
 exact ⟨N,gs',w.at d,sl',t',q',Shun,ρ,fr2,xs,wS,r1,Ren.le_refl _,⟨⟨fr2',ys,r3,hf2.lasts (Ren.le_refl _) (Lasts.at _ _ _ d),hx.lasts (Ren.le_refl _) (Lasts.at _ _ _ d)⟩,⟨hs.hr.obj,hs.hr.inj,hs.hr.base,hs.hr.os,hs.hr.sync⟩,r4,r5,⟨hs.away.cell,hs.away.obj,hs.away.low,hs.away.out⟩⟩,⟨rfl,rfl,rfl⟩,Lasts.at _ _ _ d⟩
end
end Go.Proofs.YtjnkcibpkkjniaaGreat.Sim
namespace Go.Proofs.YtjnkcibpkkjniaaGreat.Sim
open Go.Conc
open Go.ConcN (sumTo upd sumTo_upd upd_ne upd_same)
variable [Scope]
section
variable {P:Program}
end
end Go.Proofs.YtjnkcibpkkjniaaGreat.Sim
namespace Go.Proofs.YtjnkcibpkkjniaaGreat.Sim
open Go.Conc
def again (w:World) (T:Tape):World:={ w with tape:=T,drawn:=0 }
section
variable {P:Program} {Leap:Frame→World→(Frame→World→Prop)→Prop}
variable (P Leap) in
end
variable [Scope]
theorem HR.like {ρ:Ren} {w v w':World} (h:HR ρ w w') (e1:v.heap=w.heap) (e2:v.os=w.os):HR ρ v w' :=
 ⟨by rw [e1];exact h.obj,h.inj,by rw [e1];exact h.base,by rw [e2];exact h.os,by rw [e1];exact h.sync⟩
variable (P:Program) in
section
variable {P:Program} {Leap:Frame→World→(Frame→World→Prop)→Prop}
end
end Go.Proofs.YtjnkcibpkkjniaaGreat.Sim
namespace Go.Proofs.YtjnkcibpkkjniaaGreat.Sim
open Go.Conc
variable [Scope]
section
variable {P:Program}
theorem FrX.at_ {S:Loc→Prop} {v:World} {ρ:Ren} {b fr':Frame} {a:Act} {todo:List Item} (h:FrX S ρ v (b.at a todo) fr'):fr'=fr'.at ⟨fr'.tmps,fr'.defers⟩ todo:=by
 obtain ⟨fn,tmps,td,defers,mode,kind,ro⟩:=fr'
 have e1:=h.todo
 have e2:=h.mode.1
 have e3:=h.round.2
 simp only [Frame.at] at e1 e2 e3
 subst e1 e2 e3
 rfl
theorem op_run [Zeros P] [Bodies P] {o:Oper} (hok:okOper P o=true) {S:Loc→Prop} {v:World} {ρ:Ren} {fr fr':Frame} (hu:noMk o fr.eval=true) (hf:FrX S ρ v fr fr') {wS w:World} (hh:HR ρ wS w) (d:Nat) {nx:Next} {w2:World}
  (hr:(execOp fr.eval o).run P (again wS fun j q=>w.tape (d+j) q)=.ok nx w2) :
  ∃ nx' wB es ρ',(execOp fr'.eval o).runT P (w.at d) #[]=(.ok nx' wB,es)∧Grow ρ w ρ'∧NR ρ' nx nx'∧HR ρ' w2 wB∧w.heap.size≤wB.heap.size∧(∀ e∈es,EvOk ρ' e)∧Kept ρ (w.at d) wB:=by
 have hh':HR ρ (again wS fun j q=>w.tape (d+j) q) (w.at d):=⟨hh.obj,hh.inj,hh.base,hh.os,hh.sync⟩
 have ht:TA ⟨none,d,fun j q=>w.tape (d+j) q⟩ (again wS fun j q=>w.tape (d+j) q) (w.at d):=by
  refine ⟨?_,rfl,fun j q _=>?_⟩
  ·show (d:Int)=(0:Nat)+(d:Int);omega
  ·show w.tape (d+j) q=w.tape (d+(0+j)) q;rw [Nat.zero_add]
 have hsel:∀ cs b,o.op≠.select cs b:=fun cs b e=>by simp [okOper,e] at hok
 have hsr:=SR_execOp (P:=P) o hok hf.eval
 rw [msk_run hsel (fun t=>rfl) hu,msk_run hsel (fun t=>rfl) hu] at hsr
 have ha:=run_alike hsr _ _ #[] hh' ht
 rw [hr] at ha
 obtain ⟨nx',wB,new,ρ',e,hg,hn,hh2,_,hk,hev⟩:=ha (fun l hl=>by cases hl)
 exact ⟨nx',wB,#[]++new,ρ',e,⟨hg.le,hg.new⟩,hn,hh2,hk.size,by simpa using hev,hk⟩
theorem FrX.finishF {S:Loc→Prop} {x:World} {ρ:Ren} {b fr':Frame} {a:Act} {ops:Array Oper} {i:Nat} {l:List Nat} {k:List Item} (h:FrX S ρ x (b.at a (.inRegion ops (i::l)::k)) fr') {v v':Value} (hv:VF S ρ x v v'):FrX S ρ x ((b.at a (.inRegion ops (i::l)::k)).finish v) (fr'.finish v'):=by
 have e:=h.at_
 have ht:=h.tmps
 rw [e,Frame.finish_at,Frame.finish_at]
 have hd:=h.defers
 refine ⟨h.fn,?_,rfl,?_,⟨rfl, .inl rfl⟩,h.kind,rfl,rfl⟩
 ·cases (ops[i]?).bind (·.dst) with
  | none=>exact ht
  | some d=>exact VsF.set ht d hv
 ·cases (ops[i]?).bind (·.dst) <;> exact hd
theorem FrX.finish {S:Loc→Prop} {x:World} {ρ:Ren} {b fr':Frame} {a:Act} {ops:Array Oper} {i:Nat} {l:List Nat} {k:List Item} (h:FrX S ρ x (b.at a (.inRegion ops (i::l)::k)) fr') {v v':Value} (hv:VR ρ v v'):FrX S ρ x ((b.at a (.inRegion ops (i::l)::k)).finish v) (fr'.finish v'):=h.finishF (.inl hv)
theorem GetsX.op_value [Zeros P] [Bodies P] {cs:List Frame} {Q:Frame→List Frame→World→Prop} {b:Frame} {a:Act} {ops:Array Oper} {i:Nat} {l:List Nat} {k:List Item} {xs:List Frame} {wS:World} {o:Oper} (ho:ops[i]? = some o) (hw:Region.wanted o (yielded ops a.tmps)=true) (hok:okOper P o=true) (hu:noMk o a.eval=true)
  (Y:Value→World→Prop) (hr:∀ T,∃ v w2 v2,(execOp a.eval o).run P (again wS T)=.ok (.value v) w2∧(v2:World).heap=w2.heap∧v2.os=w2.os∧Y v v2) (hk:∀ v v2,Y v v2→GetsX P cs Q (b.at (a.put o.dst v) (.inRegion ops l::k)) xs v2) :
  GetsX P cs Q (b.at a (.inRegion ops (i::l)::k)) xs wS:=by
 refine GetsX.bind (Q:=fun f x v2=>∃ v,f=b.at (a.put o.dst v) (.inRegion ops l::k)∧x=xs∧Y v v2) (fun Shun ρ gs w sl t q hs=>?_) (by rintro _ _ _ ⟨v,rfl,rfl,hy⟩;exact hk _ _ hy)
 obtain ⟨fr',ys,h0,hf,hx⟩:=hs.main
 have hev:(b.at a (.inRegion ops (i::l)::k)).eval=a.eval:=Frame.eval_at' b a _
 have hfin:∀ v,(b.at a (.inRegion ops (i::l)::k)).finish v=b.at (a.put o.dst v) (.inRegion ops l::k):=fun v=>by rw [Frame.finish_at,ho];rfl
 obtain ⟨N,gs',g',w',sl',t',q',r1,r2,r3,r4,r5,ρ',v,v2,v',rfl,hg,hh2,hv,hy,hs2,hla⟩:=main_step (P:=P) (Shun:=Shun) (w:=w) (g:=G fr' (ys++cs)) (Post:=fun g' w'=>∃ ρ' v v2 v',g'=G (fr'.finish v') (ys++cs)∧Grow ρ w ρ'∧HR ρ' v2 w'∧VR ρ' v v'∧Y v v2∧w.heap.size≤w'.heap.size∧Lasts Shun ρ w Shun ρ' w') rfl (fun d=>by
  obtain ⟨v,w2,v2,hrun,e1,e2,hy⟩:=hr fun j q=>w.tape (d+j) q
  obtain ⟨nx',wB,es,ρ',hbig,hg,hn,hh2,hsz,hes,hkp⟩:=op_run hok (by rw [hev];exact hu) hf hs.hr d (nx:=.value v) (w2:=w2) (by rw [hev];exact hrun)
  cases hn with
  | @value _ v' hv =>
   refine ⟨G (fr'.finish v') (ys++cs),wB,seen P fr'.fn es++#[],?_,fun e he=>?_,hsz,ρ',v,v2,v',rfl,hg,hh2.like e1 e2,hv,hy,hsz,Lasts.kept hkp hg rfl rfl⟩
   ·have e:=hf.at_
    have hyl:yielded ops fr'.tmps=yielded ops a.tmps:=(hf.tmps.yielded ops).symm
    have hst:=stepG_op (P:=P) (b:=fr') (a:=⟨fr'.tmps,fr'.defers⟩) (k:=k) (cs:=ys++cs) (w:=w.at d) (i:=i) (rest:=l) ho (by rw [hyl];exact hw)
    rw [←e] at hst
    have hev':fr'.eval=(Act.mk fr'.tmps fr'.defers).eval:=by
     have:=Frame.eval_at' fr' ⟨fr'.tmps,fr'.defers⟩ (.inRegion ops (i::l)::k)
     rw [←e] at this;exact this
    have hk1:(fr'.kind == CallKind.early)=false:=by rw [hf.kind.2];rfl
    show stepG P true { frame:=fr',callers:=ys++cs,status:=.running,dying:=none } (w.at d)=_
    rw [hst,←hev']
    simp only [stepG.apply,if_true,hbig,hk1,Bool.false_eq_true,if_false,GStep.after]
    rfl
   ·simp only [Array.append_empty] at he
    exact evl (hs.away.grow hg hsz) hh2 (hes e (seen_sub he))) gs sl t q h0 hs.leave hs.past
 have hf':=(hf.lasts hg.le hla).finish hv
 exact ⟨N,gs',w',sl',t',q',Shun,ρ',(b.at a (.inRegion ops (i::l)::k)).finish v,xs,v2,r1,hg.le,⟨⟨_,ys,r3,hf',hx.lasts hg.le hla⟩,hh2,r4,r5,hs.away.grow hg hs2⟩,⟨v,hfin v,rfl,hy⟩,hla⟩
theorem GetsX.op_unit [Zeros P] [Bodies P] {cs:List Frame} {Q:Frame→List Frame→World→Prop} {b:Frame} {a:Act} {ops:Array Oper} {i:Nat} {l:List Nat} {k:List Item} {xs:List Frame} {wS:World} {o:Oper} (ho:ops[i]? = some o) (hw:Region.wanted o (yielded ops a.tmps)=true) (hok:okOper P o=true) (hu:noMk o a.eval=true)
    (Y:World→Prop) (hr:∀ T,∃ w2 v2,(execOp a.eval o).run P (again wS T)=.ok .skip w2∧(v2:World).heap=w2.heap∧v2.os=w2.os∧Y v2) (hk:∀ v2,Y v2→GetsX P cs Q (b.at (a.put o.dst undef) (.inRegion ops l::k)) xs v2) :
    GetsX P cs Q (b.at a (.inRegion ops (i::l)::k)) xs wS:=by
  refine GetsX.bind (Q:=fun f x v2=>f=b.at (a.put o.dst undef) (.inRegion ops l::k)∧x=xs∧Y v2) (fun Shun ρ gs w sl t q hs=>?_) (by rintro _ _ _ ⟨rfl,rfl,hy⟩;exact hk _ hy)
  obtain ⟨fr',ys,h0,hf,hx⟩:=hs.main
  have hev:(b.at a (.inRegion ops (i::l)::k)).eval=a.eval:=Frame.eval_at' b a _
  have hfin:∀ v,(b.at a (.inRegion ops (i::l)::k)).finish v=b.at (a.put o.dst v) (.inRegion ops l::k):=fun v=>by rw [Frame.finish_at,ho];rfl
  obtain ⟨N,gs',g',w',sl',t',q',r1,r2,r3,r4,r5,ρ',v2,rfl,hg,hh2,hy,hs2,hla⟩:=main_step (P:=P) (Shun:=Shun) (w:=w) (g:=G fr' (ys++cs)) (Post:=fun g' w'=>∃ ρ' v2,g'=G (fr'.finish undef) (ys++cs)∧Grow ρ w ρ'∧HR ρ' v2 w'∧Y v2∧w.heap.size≤w'.heap.size∧Lasts Shun ρ w Shun ρ' w') rfl (fun d=>by
    obtain ⟨w2,v2,hrun,e1,e2,hy⟩:=hr fun j q=>w.tape (d+j) q
    obtain ⟨nx',wB,es,ρ',hbig,hg,hn,hh2,hsz,hes,hkp⟩:=op_run hok (by rw [hev];exact hu) hf hs.hr d (nx:=.skip) (w2:=w2) (by rw [hev];exact hrun)
    cases hn with
    | skip =>
      refine ⟨G (fr'.finish undef) (ys++cs),wB,seen P fr'.fn es++#[],?_,fun e he=>?_,hsz,ρ',v2,rfl,hg,hh2.like e1 e2,hy,hsz,Lasts.kept hkp hg rfl rfl⟩
      · have e:=hf.at_
        have hyl:yielded ops fr'.tmps=yielded ops a.tmps:=(hf.tmps.yielded ops).symm
        have hst:=stepG_op (P:=P) (b:=fr') (a:=⟨fr'.tmps,fr'.defers⟩) (k:=k) (cs:=ys++cs) (w:=w.at d) (i:=i) (rest:=l) ho (by rw [hyl];exact hw)
        rw [←e] at hst
        have hev':fr'.eval=(Act.mk fr'.tmps fr'.defers).eval:=by
          have:=Frame.eval_at' fr' ⟨fr'.tmps,fr'.defers⟩ (.inRegion ops (i::l)::k)
          rw [←e] at this;exact this
        have hk1:(fr'.kind == CallKind.early)=false:=by rw [hf.kind.2];rfl
        show stepG P true { frame:=fr',callers:=ys++cs,status:=.running,dying:=none } (w.at d)=_
        rw [hst,←hev']
        simp only [stepG.apply,if_true,hbig,hk1,Bool.false_eq_true,if_false,GStep.after]
        rfl
      · simp only [Array.append_empty] at he
        exact evl (hs.away.grow hg hsz) hh2 (hes e (seen_sub he))) gs sl t q h0 hs.leave hs.past
  have hf':=(hf.lasts hg.le hla).finish (VR_undef (ρ:=ρ'))
  exact ⟨N,gs',w',sl',t',q',Shun,ρ',(b.at a (.inRegion ops (i::l)::k)).finish undef,xs,v2,r1,hg.le,⟨⟨_,ys,r3,hf',hx.lasts hg.le hla⟩,hh2,r4,r5,hs.away.grow hg hs2⟩,⟨hfin undef,rfl,hy⟩,hla⟩
theorem GetsX.op_call [Zeros P] [Codes P] {cs:List Frame} {Q:Frame→List Frame→World→Prop} {b:Frame} {a:Act} {ops:Array Oper} {i:Nat} {l:List Nat} {k:List Item} {xs:List Frame} {wS:World} {o:Oper} (ho:ops[i]? = some o) (hw:Region.wanted o (yielded ops a.tmps)=true) (hok:okOper P o=true) (hu:noMk o a.eval=true)
  (R:Value→World→Prop) (hr:∀ T,∃ f args w2 v2,(execOp a.eval o).run P (again wS T)=.ok (.enter f args) w2∧(v2:World).heap=w2.heap∧v2.os=w2.os∧∀ T',Calls P f args (again v2 T') fun e w'=>∃ v,e=.returned v∧R v w')
  (hk:∀ v w2 v2,R v w2→(v2:World).heap=w2.heap→v2.os=w2.os→GetsX P cs Q (b.at (a.put o.dst v) (.inRegion ops l::k)) xs v2) :
  GetsX P cs Q (b.at a (.inRegion ops (i::l)::k)) xs wS:=by
 refine GetsX.bind (Q:=fun f x v2=>∃ v,f=b.at (a.put o.dst v) (.inRegion ops l::k)∧x=xs∧R v v2) (fun Shun ρ gs w sl t q hs=>?_) (by rintro _ _ _ ⟨v,rfl,rfl,hy⟩;exact hk _ _ _ hy rfl rfl)
 obtain ⟨fr',ys,h0,hf,hx⟩:=hs.main
 have hev:(b.at a (.inRegion ops (i::l)::k)).eval=a.eval:=Frame.eval_at' b a _
 have hfin:∀ v,(b.at a (.inRegion ops (i::l)::k)).finish v=b.at (a.put o.dst v) (.inRegion ops l::k):=fun v=>by rw [Frame.finish_at,ho];rfl
 obtain ⟨N,gs1,g1,w1,sl1,t1,q1,r1,r2,r3,r4,r5,ρ1,f,args,args',v2,hfo,rfl,hg,hh2,hargs,hc,hs2,hla⟩:=main_step (P:=P) (Shun:=Shun) (w:=w) (g:=G fr' (ys++cs)) (Post:=fun g' w'=>∃ ρ' f args args' v2,Scope.ok f=true∧g'=G (Frame.enter P f args' .normal) (fr'::(ys++cs))∧Grow ρ w ρ'∧HR ρ' v2 w'∧VsR ρ' args args'∧(∀ T',Calls P f args (again v2 T') fun e w'=>∃ v,e=.returned v∧R v w')∧w.heap.size≤w'.heap.size∧Lasts Shun ρ w Shun ρ' w') rfl (fun d=>by
  obtain ⟨f,args,w2,v2,hrun,e1,e2,hc⟩:=hr fun j q=>w.tape (d+j) q
  obtain ⟨nx',wB,es,ρ',hbig,hg,hn,hh2,hsz,hes,hkp⟩:=op_run hok (by rw [hev];exact hu) hf hs.hr d (nx:=.enter f args) (w2:=w2) (by rw [hev];exact hrun)
  cases hn with
  | @enter _ _ args' hfo hargs =>
   refine ⟨G (Frame.enter P f args' .normal) (fr'::(ys++cs)),wB,seen P fr'.fn es++#[],?_,fun e he=>?_,hsz,ρ',f,args,args',v2,hfo,rfl,hg,hh2.like e1 e2,hargs,hc,hsz,Lasts.kept hkp hg rfl rfl⟩
   ·have e:=hf.at_
    have hyl:yielded ops fr'.tmps=yielded ops a.tmps:=(hf.tmps.yielded ops).symm
    have hst:=stepG_op (P:=P) (b:=fr') (a:=⟨fr'.tmps,fr'.defers⟩) (k:=k) (cs:=ys++cs) (w:=w.at d) (i:=i) (rest:=l) ho (by rw [hyl];exact hw)
    rw [←e] at hst
    have hev':fr'.eval=(Act.mk fr'.tmps fr'.defers).eval:=by
     have:=Frame.eval_at' fr' ⟨fr'.tmps,fr'.defers⟩ (.inRegion ops (i::l)::k)
     rw [←e] at this;exact this
    have hk1:(fr'.kind == CallKind.early)=false:=by rw [hf.kind.2];rfl
    have htd:fr'.todo=.inRegion ops (i::l)::k:=hf.todo
    show stepG P true { frame:=fr',callers:=ys++cs,status:=.running,dying:=none } (w.at d)=_
    rw [hst,←hev']
    simp only [stepG.apply,if_true,hbig,hk1,Bool.false_eq_true,if_false,GStep.after,htd]
    rfl
   ·simp only [Array.append_empty] at he
    exact evl (hs.away.grow hg hsz) hh2 (hes e (seen_sub he))) gs sl t q h0 hs.leave hs.past
 obtain ⟨N2,gs',w',sl',t',q',ρ2,v,v',wS',k1,k2,k3,k4,k5,k6,k7,k8,k9,k10⟩:=calls_beside hfo hargs hh2 r3 r4 r5 (hs.away.grow hg hs2) (sl:=sl1) hc
 have hle:ρ.le ρ2:=Ren.le_trans hg.le k6.le
 have hla2:Lasts Shun ρ w Shun ρ2 w':=hla.trans (Lasts.kept k7 k6 rfl rfl)
 have hf':=(hf.lasts hle hla2).finish k9
 refine ⟨N+N2,gs',w',sl',t',q',Shun,ρ2,(b.at a (.inRegion ops (i::l)::k)).finish v,xs,wS',?_,hle,⟨⟨_,ys,k3,hf',hx.lasts hle hla2⟩,k8,k4,k5,(hs.away.grow hg hs2).grow k6 k7.size⟩,⟨v,hfin v,rfl,k10⟩,hla2⟩
 rw [runNT_add,r1]
 exact k1
end
end Go.Proofs.YtjnkcibpkkjniaaGreat.Sim
namespace Go.Proofs.YtjnkcibpkkjniaaGreat.Sim
open Go.Conc
variable [Scope]
section
variable {P:Program} {cs:List Frame} {Q:Frame→List Frame→World→Prop} {b:Frame} {a:Act} {xs:List Frame} {wS:World}
theorem FrX.to_ {S:Loc→Prop} {x:World} {ρ:Ren} {fr':Frame} {todo todo2:List Item} (h:FrX S ρ x (b.at a todo) fr'):FrX S ρ x (b.at a todo2) (fr'.at ⟨fr'.tmps,fr'.defers⟩ todo2) :=
 ⟨h.fn,h.tmps,rfl,h.defers,⟨rfl, .inl rfl⟩,h.kind,rfl,rfl⟩
theorem FrX.get {S:Loc→Prop} {x:World} {ρ:Ren} {fr fr':Frame} (h:FrX S ρ x fr fr') {c:Operand} (hc:okOperand c=true) (hm:isMk (fr.eval c)=false):VR ρ (fr.eval c) (fr'.eval c):=by
 have:=h.eval.get hc
 cases c with
 | tmp t =>
  have hm':isMk (fr.tmps.getD t undef)=false:=hm
  unfold msk at this
  simp only [hm',Bool.false_eq_true,if_false] at this
  exact this
 | _=>exact this
theorem FrX.args {S:Loc→Prop} {x:World} {ρ:Ren} {fr fr':Frame} (h:FrX S ρ x fr fr') {xs:Array Operand} (hx:xs.all okOperand=true) (hm:xs.all (fun c=>!isMk (fr.eval c))=true):VsR ρ (xs.map fr.eval) (xs.map fr'.eval):=by
 refine ⟨by simp,fun i v v' a b=>?_⟩
 rw [Array.getElem?_map] at a b
 cases e:xs[i]? with
 | none=>rw [e] at a;cases a
 | some c =>
  rw [e] at a b
  cases a;cases b
  have hmem:=Array.mem_of_getElem? e
  exact h.get (Array.all_eq_true_iff_forall_mem.1 hx c hmem) (by simpa using Array.all_eq_true_iff_forall_mem.1 hm c hmem)
theorem GetsX.move {todo todo2:List Item} (h:∀ (b':Frame) (a':Act) (ys:List Frame) (w:World),stepG P true (G (b'.at a' todo) ys) w=.go (G (b'.at a' todo2) ys) w) (k:GetsX P cs Q (b.at a todo2) xs wS):GetsX P cs Q (b.at a todo) xs wS:=by
 refine GetsX.ctl (fun S ρ u fr' ys w hf=>⟨fr'.at ⟨fr'.tmps,fr'.defers⟩ todo2,?_,hf.to_⟩) k
 have e:=hf.at_
 have:=h fr' ⟨fr'.tmps,fr'.defers⟩ ys w
 rw [←e] at this
 exact this
theorem GetsX.cond {c:Operand} {x y:Code} {k:List Item} {t:Bool} (hc:okOperand c=true) (ht:a.eval c=.bool t) (h:GetsX P cs Q (b.at a (.code (if t then x else y)::k)) xs wS):GetsX P cs Q (b.at a (.code (.cond c x y)::k)) xs wS:=by
 refine GetsX.ctl (fun S ρ u fr' ys w hf=>⟨fr'.at ⟨fr'.tmps,fr'.defers⟩ (.code (if t then x else y)::k),?_,hf.to_⟩) h
 have e:=hf.at_
 have hv:=hf.get hc (by rw [Frame.eval_at,ht];rfl)
 rw [Frame.eval_at,ht] at hv
 have hb:(Act.mk fr'.tmps fr'.defers).eval c=.bool t:=by
  rw [e,Frame.eval_at] at hv
  generalize (Act.mk fr'.tmps fr'.defers).eval c=v at hv
  cases hv;rfl
 have:=stepG_cond (P:=P) (main:=true) (b:=fr') (k:=k) (cs:=ys) (w:=w) (x:=x) (y:=y) hb
 rw [←e] at this
 exact this
theorem GetsX.skip {ops:Array Oper} {i:Nat} {l:List Nat} {k:List Item} {o:Oper} (ho:ops[i]? = some o) (hw:Region.wanted o (yielded ops a.tmps)=false) (h:GetsX P cs Q (b.at (a.put o.dst undef) (.inRegion ops l::k)) xs wS):GetsX P cs Q (b.at a (.inRegion ops (i::l)::k)) xs wS:=by
 have hfin:(b.at a (.inRegion ops (i::l)::k)).finish undef=b.at (a.put o.dst undef) (.inRegion ops l::k):=by rw [Frame.finish_at,ho];rfl
 refine GetsX.ctl (fun S ρ u fr' ys w hf=>⟨fr'.finish undef,?_,by rw [←hfin];exact hf.finish VR_undef⟩) h
 have e:=hf.at_
 have hyl:yielded ops fr'.tmps=yielded ops a.tmps:=(hf.tmps.yielded ops).symm
 have:=stepG_unwanted (P:=P) (main:=true) (b:=fr') (a:=⟨fr'.tmps,fr'.defers⟩) (k:=k) (cs:=ys) (w:=w) (rest:=l) ho (by rw [hyl];exact hw)
 rw [←e] at this
 rw [this]
 have h2:fr'.finish undef=fr'.at (Act.put ⟨fr'.tmps,fr'.defers⟩ o.dst undef) (.inRegion ops l::k):=by
  have:=Frame.finish_at fr' ⟨fr'.tmps,fr'.defers⟩ ops i l k undef
  rw [←e,ho] at this;exact this
 rw [h2]
theorem GetsX.seq {x y:Code} {k:List Item} (h:GetsX P cs Q (b.at a (.code x::.code y::k)) xs wS):GetsX P cs Q (b.at a (.code (.seq x y)::k)) xs wS:=GetsX.move (fun _ _ _ _=>stepG_seq) h
theorem GetsX.skipCode {k:List Item} (h:GetsX P cs Q (b.at a k) xs wS):GetsX P cs Q (b.at a (.code .skip::k)) xs wS:=GetsX.move (fun _ _ _ _=>stepG_skip) h
theorem GetsX.inBlock {id:Nat} {k:List Item} (h:GetsX P cs Q (b.at a k) xs wS):GetsX P cs Q (b.at a (.inBlock id::k)) xs wS:=GetsX.move (fun _ _ _ _=>stepG_inBlock) h
theorem GetsX.block {id:Nat} {c:Code} {k:List Item} (h:GetsX P cs Q (b.at a (.code c::.inBlock id::k)) xs wS):GetsX P cs Q (b.at a (.code (.block id c)::k)) xs wS:=GetsX.move (fun _ _ _ _=>stepG_block) h
theorem GetsX.loop {c:Code} {k:List Item} (h:GetsX P cs Q (b.at a (.code c::.inLoop c::k)) xs wS):GetsX P cs Q (b.at a (.code (.loop c)::k)) xs wS:=GetsX.move (fun _ _ _ _=>stepG_loop) h
theorem GetsX.inLoop {c:Code} {k:List Item} (h:GetsX P cs Q (b.at a (.code c::.inLoop c::k)) xs wS):GetsX P cs Q (b.at a (.inLoop c::k)) xs wS:=GetsX.move (fun _ _ _ _=>stepG_inLoop) h
theorem GetsX.exit {id:Nat} {k k':List Item} (hk:exitTo id k=some k') (h:GetsX P cs Q (b.at a k') xs wS):GetsX P cs Q (b.at a (.code (.exit id)::k)) xs wS:=GetsX.move (fun _ _ _ _=>stepG_exit hk) h
theorem GetsX.region {id:Nat} {ops:Array Oper} {k:List Item} (h:GetsX P cs Q (b.at a (.inRegion ops (List.range ops.size)::k)) xs wS):GetsX P cs Q (b.at a (.code (.region id ops false)::k)) xs wS:=GetsX.move (fun _ _ _ _=>stepG_region) h
theorem GetsX.regionEnd {ops:Array Oper} {k:List Item} (h:GetsX P cs Q (b.at a k) xs wS):GetsX P cs Q (b.at a (.inRegion ops []::k)) xs wS:=GetsX.move (fun _ _ _ _=>stepG_region_end) h
theorem GetsX.ret {k:List Item} (h:GetsX P cs Q { b.at a (.code .ret::k) with mode:=.returning } xs wS):GetsX P cs Q (b.at a (.code .ret::k)) xs wS:=by
 refine GetsX.ctl (fr2:={ b.at a (.code .ret::k) with mode:=.returning }) (fun S ρ u fr' ys w hf=>⟨{ fr'.at ⟨fr'.tmps,fr'.defers⟩ (.code .ret::k) with mode:=.returning },?_,⟨hf.fn,hf.tmps,rfl,hf.defers,⟨rfl, .inr rfl⟩,hf.kind,rfl,rfl⟩⟩) h
 have e:=hf.at_
 have:=stepG_ret' (P:=P) (main:=true) (b:=fr') (a:=⟨fr'.tmps,fr'.defers⟩) (k:=k) (cs:=ys) (w:=w)
 rw [←e] at this
 rw [←e]
 exact this
theorem GetsX.callX {ops:Array Oper} {i:Nat} {l:List Nat} {k:List Item} {o:Oper} {f:FuncId} {fn:Func} {c:Code} {args:Array Operand} {ats:Array TypeId} (ho:ops[i]? = some o) (hw:Region.wanted o (yielded ops a.tmps)=true)
  (hop:o.op=.call { callee:=.value (.func f),args,argTypes:=ats }) (hargs:args.all okOperand=true) (hma:args.all (fun c=>!isMk (a.eval c))=true) (hf:P.funcs[f]? = some fn) (hname:(fn.name == "runtime.NumGoroutine")=false) (hb:fn.body=some c)
  (h:GetsX P cs Q ((base f).at { tmps:=args.map a.eval++Array.replicate (fn.ntmps - (args.map a.eval).size) undef,defers:=[] } [.code c]) (b.at a (.inRegion ops (i::l)::k)::xs) wS):GetsX P cs Q (b.at a (.inRegion ops (i::l)::k)) xs wS:=by
 refine GetsX.bind (Q:=fun fr x v=>fr=(base f).at { tmps:=args.map a.eval++Array.replicate (fn.ntmps - (args.map a.eval).size) undef,defers:=[] } [.code c]∧x=b.at a (.inRegion ops (i::l)::k)::xs∧v=wS) (fun Shun ρ gs w sl t q hs=>?_) (by rintro _ _ _ ⟨rfl,rfl,rfl⟩;exact h)
 obtain ⟨fr',ys,h0,hfr,hx⟩:=hs.main
 have e:=hfr.at_
 have hyl:yielded ops fr'.tmps=yielded ops a.tmps:=(hfr.tmps.yielded ops).symm
 have hk':fr'.kind≠.early:=by rw [hfr.kind.2];simp
 have hA:VsR ρ (args.map a.eval) (args.map (Act.mk fr'.tmps fr'.defers).eval):=by
  have:=hfr.args hargs (by rw [show (b.at a (.inRegion ops (i::l)::k)).eval=a.eval from Frame.eval_at' b a _];exact hma)
  rw [show (b.at a (.inRegion ops (i::l)::k)).eval=a.eval from Frame.eval_at' b a _] at this
  have e2:fr'.eval=(Act.mk fr'.tmps fr'.defers).eval:=by
   have:=Frame.eval_at' fr' ⟨fr'.tmps,fr'.defers⟩ (.inRegion ops (i::l)::k)
   rw [←e] at this;exact this
  rw [e2] at this;exact this
 obtain ⟨N,gs',g',w',sl',t',q',r1,r2,r3,r4,r5,rfl,d,rfl⟩:=main_step (P:=P) (Shun:=Shun) (w:=w) (g:=G fr' (ys++cs)) (Post:=fun g' w'=>g'=G ((base f).at { tmps:=args.map (Act.mk fr'.tmps fr'.defers).eval++Array.replicate (fn.ntmps - (args.map (Act.mk fr'.tmps fr'.defers).eval).size) undef,defers:=[] } [.code c]) (fr'::(ys++cs))∧∃ d,w'=w.at d) rfl (fun d=>by
  have hg:=goes_call (P:=P) (main:=true) (b:=fr') (a:=⟨fr'.tmps,fr'.defers⟩) (k:=k) (cs:=ys++cs) (w:=w.at d) (rest:=l) (K:=fun g1 w1 es1=>g1=G ((base f).at { tmps:=args.map (Act.mk fr'.tmps fr'.defers).eval++Array.replicate (fn.ntmps - (args.map (Act.mk fr'.tmps fr'.defers).eval).size) undef,defers:=[] } [.code c]) (fr'::(ys++cs))∧w1=w.at d∧es1=#[]) ho (by rw [hyl];exact hw) hk' hop hf hname hb ⟨by rw [←e],rfl,rfl⟩
  rw [←e] at hg
  cases hs2:stepG P true (G fr' (ys++cs)) (w.at d) with
  | go g1 w1 es1 =>
   rw [hs2,goes_go] at hg
   obtain ⟨rfl,rfl,rfl⟩:=hg
   exact ⟨_,_,_,rfl,by simp,Nat.le_refl _,rfl,d,rfl⟩
  | _=>rw [hs2] at hg;exact hg.elim) gs sl t q h0 hs.leave hs.past
 refine ⟨N,gs',w.at d,sl',t',q',Shun,ρ,(base f).at { tmps:=args.map a.eval++Array.replicate (fn.ntmps - (args.map a.eval).size) undef,defers:=[] } [.code c],b.at a (.inRegion ops (i::l)::k)::xs,wS,r1,Ren.le_refl _,⟨⟨_,fr'::ys,r3,⟨rfl,?_,rfl,⟨rfl,rfl⟩,⟨rfl, .inl rfl⟩,⟨rfl,rfl⟩,rfl,rfl⟩, .cons (hfr.lasts (Ren.le_refl _) (Lasts.at _ _ _ d)) (hx.lasts (Ren.le_refl _) (Lasts.at _ _ _ d))⟩,⟨hs.hr.obj,hs.hr.inj,hs.hr.base,hs.hr.os,hs.hr.sync⟩,r4,r5,⟨hs.away.cell,hs.away.obj,hs.away.low,hs.away.out⟩⟩,⟨rfl,rfl,rfl⟩,Lasts.at _ _ _ d⟩
 refine VsF.of ?_
 have hsz:(args.map (Act.mk fr'.tmps fr'.defers).eval).size=(args.map a.eval).size:=by simp
 simp only [Frame.at,hsz]
 exact hA.append (VsR.replicate _ VR_undef)
theorem GetsX.leave {todo:List Item} {fn:Func} {tr:Tmp} {c:Frame} {x2:List Frame} (hd:a.defers=[]) (hf:P.funcs[b.fn]? = some fn) (hres:fn.results=#[.tmp tr]) {bc:Frame} {ac:Act} {ops:Array Oper} {i:Nat} {l:List Nat} {k:List Item} (hc:c=bc.at ac (.inRegion ops (i::l)::k))
  (h:GetsX P cs Q (c.finish (a.tmps.getD tr undef)) x2 wS):GetsX P cs Q { b.at a todo with mode:=.returning } (c::x2) wS:=by
 refine GetsX.bind (Q:=fun fr x v=>fr=c.finish (a.tmps.getD tr undef)∧x=x2∧v=wS) (fun Shun ρ gs w sl t q hs=>?_) (by rintro _ _ _ ⟨rfl,rfl,rfl⟩;exact h)
 obtain ⟨fr',ys,h0,hfr,hx⟩:=hs.main
 cases hx with
 | @cons _ c' _ ys' hcc hxx =>
  obtain ⟨N,gs',g',w',sl',t',q',r1,r2,r3,r4,r5,rfl,d,rfl⟩:=main_step (P:=P) (Shun:=Shun) (w:=w) (g:=G fr' (c'::ys'++cs)) (Post:=fun g' w'=>g'=G (c'.finish (fr'.tmps.getD tr undef)) (ys'++cs)∧∃ d,w'=w.at d) rfl (fun d=>by
   have e:fr'={ fr'.at ⟨fr'.tmps,fr'.defers⟩ todo with mode:=.returning }:=by
    obtain ⟨fn1,tmps1,td1,defers1,mode1,kind1,ro1⟩:=fr'
    have e1:=hfr.todo
    have e2:=hfr.mode.1
    have e3:=hfr.round.2
    simp only [Frame.at] at e1 e2 e3
    subst e1 e2 e3
    rfl
   have:=stepG_leave (P:=P) (main:=true) (b:=fr') (a:=⟨fr'.tmps,fr'.defers⟩) (todo:=todo) (c:=c') (cs:=ys'++cs) (w:=w.at d) hfr.kind.2 hfr.defers.2 (fn:=fn) (by rw [show fr'.fn=b.fn from hfr.fn];exact hf) (results_tmp hres _ P _) (events_results_tmp hres _ _)
   rw [←e] at this
   exact ⟨_,_,_,this,by simp,Nat.le_refl _,rfl,d,rfl⟩) gs sl t q h0 hs.leave hs.past
  subst hc
  exact ⟨N,gs',w.at d,sl',t',q',Shun,ρ,_,_,_,r1,Ren.le_refl _,⟨⟨_,ys',r3,(hcc.lasts (Ren.le_refl _) (Lasts.at _ _ _ d)).finishF ((hfr.tmps.getD tr).lasts (Ren.le_refl _) (Lasts.at _ _ _ d)),hxx.lasts (Ren.le_refl _) (Lasts.at _ _ _ d)⟩,⟨hs.hr.obj,hs.hr.inj,hs.hr.base,hs.hr.os,hs.hr.sync⟩,r4,r5,⟨hs.away.cell,hs.away.obj,hs.away.low,hs.away.out⟩⟩,⟨rfl,rfl,rfl⟩,Lasts.at _ _ _ d⟩
end
end Go.Proofs.YtjnkcibpkkjniaaGreat.Sim
namespace Go.Proofs.YtjnkcibpkkjniaaGreat.Sim
def ROut {α:Type} (o:Array (Nat×ByteArray)):Result α→Prop
 | .ok _ w=>w.output=o
 | .halt _ w=>w.output=o
theorem ask_out {α:Type} (a:Ask α):∀ w:World,(w.ask a).2.output=w.output:=by
 induction a with
 | done a=>intro w;rfl
 | ask what range k ih =>
  intro w
  unfold World.ask
  dsimp only
  split
  ·exact ih _ _
  ·exact (ih _ _).trans rfl
theorem sys_out (w:World) (c:Sys):(w.sys c).2.output=w.output:=by
 have:=ask_out (Kernel.perform c w.os) w
 unfold World.sys
 split
 ·rfl
 ·rename_i h;rw [h] at this;exact this
theorem viewStore_out {p:Program} {w w':World} {at_:Addr} {u:TypeId} {k:Addr} {v:Value} {t:Bool} {l:List Addr} (h:w.viewStore p at_ u k v t=.ok (w',l)):w'.output=w.output:=by
 unfold World.viewStore at h
 simp only [bind,Except.bind,pure,Except.pure,throw,throwThe,MonadExceptOf.throw] at h
 split at h
 ·cases h
 ·split at h
  ·cases h
  ·split at h
   ·split at h
    ·cases h
    ·split at h
     ·cases h
     ·simp only [Except.ok.injEq,Prod.mk.injEq] at h
      rw [←h.1]
   ·cases h
theorem farStore_out {p:Program} {w w':World} {a:Addr} {v:Value} {t:Bool} {l:List Addr} (h:w.farStore p a v t=.ok (w',l)):w'.output=w.output:=by
 unfold World.farStore at h
 split at h
 ·split at h
  ·rename_i r hr
   simp only [Except.ok.injEq] at h
   subst h
   exact viewStore_out hr
  ·cases h
 ·cases h
theorem freeze_out (w:World) (a:Addr) (n:Nat):(w.freeze a n).output=w.output:=by
 unfold World.freeze
 split <;> rfl
theorem run_out {α:Type} (p:Program) (s:Sem α):∀ w:World,ROut w.output (s.run p w):=by
 induction s with
 | pure a=>intro w;rfl
 | load m a k ih =>
  intro w
  simp only [Sem.run]
  split
  ·exact ih _ w
  ·split
   ·exact ih _ w
   ·rfl
 | store m a v k ih =>
  intro w
  have key:∀ v,ROut w.output (match w.cell? a with
    | some _=>if w.frozen? a then .halt (.unsupported (.unsafePointer "a write to bytes that a string shares")) w else k.run p (w.setCell a v)
    | none=>match w.farStore p a v (m == .atomic) with
     | .ok (w,_)=>k.run p w
     | .error h=>.halt h w):=fun v=>by
   split
   ·split
    ·rfl
    ·exact ih (w.setCell a v)
   ·split
    ·rename_i h
     have:=ih ‹World›
     rw [farStore_out h] at this
     exact this
    ·rfl
  cases v <;> simp only [Sem.run] <;> first | exact key _ | rfl
 | new o k ih=>intro w;exact ih _ _
 | shape r k ih=>intro w;exact ih _ w
 | freeze a n k ih=>intro w;have:=ih (w.freeze a n);rw [freeze_out] at this;exact this
 | frozen a k ih=>intro w;exact ih _ w
 | getObj r k ih =>
  intro w
  simp only [Sem.run]
  split
  ·rfl
  ·exact ih _ w
  ·rfl
 | setObj r o k ih =>
  intro w
  simp only [Sem.run]
  split
  ·rfl
  ·exact ih _
  ·rfl
 | choose q k ih =>
  intro w
  simp only [Sem.run]
  split
  ·exact ih _ w
  ·exact ih _ _
 | sys c k ih=>intro w;have:=ih (w.sys c).1 (w.sys c).2;rw [sys_out] at this;exact this
 | program k ih=>intro w;exact ih _ w
 | mark m k ih=>intro w;exact ih w
 | halt h=>intro w;rfl
theorem runT_out {α:Type} (p:Program) (s:Sem α) (w:World) (es:Array Event):ROut w.output (s.runT p w es).1:=by
 rw [Sem.runT_eq]
 exact run_out p s w
theorem run_ok_out {α:Type} {p:Program} {s:Sem α} {w w':World} {a:α} (h:s.run p w=.ok a w'):w'.output=w.output:=by have:=run_out p s w;rw [h] at this;exact this
theorem run_halt_out {α:Type} {p:Program} {s:Sem α} {w w':World} {a:Halt} (h:s.run p w=.halt a w'):w'.output=w.output:=by have:=run_out p s w;rw [h] at this;exact this
theorem runT_ok_out {α:Type} {p:Program} {s:Sem α} {w w':World} {a:α} {es es':Array Event} (h:s.runT p w es=(.ok a w',es')):w'.output=w.output:=by have:=runT_out p s w es;rw [h] at this;exact this
theorem runT_halt_out {α:Type} {p:Program} {s:Sem α} {w w':World} {a:Halt} {es es':Array Event} (h:s.runT p w es=(.halt a w',es')):w'.output=w.output:=by have:=runT_out p s w es;rw [h] at this;exact this
theorem rt_ok {α:Type} {p:Program} {s:Sem α} {w w':World} {a:α} {es:Array Event} (h:(s.runT p w es).1=.ok a w'):w'.output=w.output:=by have:=runT_out p s w es;rw [h] at this;exact this
theorem rt_halt {α:Type} {p:Program} {s:Sem α} {w w':World} {a:Halt} {es:Array Event} (h:(s.runT p w es).1=.halt a w'):w'.output=w.output:=by have:=runT_out p s w es;rw [h] at this;exact this
def GOut (o:Array (Nat×ByteArray)):GStep→Prop
 | .go _ w _ | .comm _ _ _ _ w _ | .spawn _ _ w _ | .count _ w _ | .timer _ _ w _ | .alone _ _ w _ | .newcoro _ _ _ w _ | .coroswitch _ _ _ w _ | .collect _ w _ | .watch _ w _=>w.output=o
 | .ended _ _ _=>True
theorem GOut.after {o:Array (Nat×ByteArray)} {s:GStep} (h:GOut o s) (es:Array Event):GOut o (s.after es):=by cases s <;> exact h
theorem GOut.eq {o o':Array (Nat×ByteArray)} {s:GStep} (h:GOut o' s) (e:o'=o):GOut o s:=e▸h
section
variable {p:Program}
theorem endWith_out (w:World) (fd:Nat) (x:ByteArray) (o:Outcome) (q:Array (Nat×ByteArray)):GOut q (endWith w fd x o):=by
 unfold endWith
 dsimp only
 split
 ·split <;> trivial
 ·trivial
 ·trivial
theorem endThrow_out (fr:Frame) (m:String) (w:World):GOut w.output (endThrow fr m w):=rfl
theorem endPrinting_out (fr:Frame) (v:Value) (w:World):GOut w.output (endPrinting p fr v w):=by
 unfold endPrinting
 dsimp only
 split
 ·rfl
 ·trivial
theorem endFatal_out (fr:Frame) (cs:List Frame) (d:Option Dying) (m:String) (w:World):GOut w.output (endFatal p fr cs d m w):=by
 unfold endFatal
 dsimp only
 split
 ·rename_i h;exact run_ok_out h
 ·trivial
 ·trivial
theorem writeOn_out (fr:Frame) (d:Dying) (f:Fatal) (w:World):GOut w.output (writeOn p fr d f w):=by
 unfold writeOn
 dsimp only
 split
 ·trivial
 ·split
  ·rename_i h;exact runT_ok_out h
  ·rename_i h;exact runT_halt_out h
  ·trivial
  ·trivial
theorem die_out (fr:Frame) (d:Dying) (w:World):GOut w.output (die p fr d w):=by
 unfold die
 split
 ·exact writeOn_out _ _ _ _
 ·split
  ·split
   ·rfl
   ·exact endWith_out _ _ _ _ _
  ·dsimp only
   split
   ·rfl
   ·split
    ·rename_i h;exact run_ok_out h
    ·trivial
   ·refine GOut.after ?_ _
    split
    ·rename_i h;exact rt_ok h
    ·rename_i h;exact rt_ok h
    ·trivial
    ·rename_i h;exact (endPrinting_out _ _ _).eq (rt_halt h)
    ·trivial
   ·trivial
theorem doReturn_out (mn:Bool) (fr:Frame) (cs:List Frame) (d:Option Dying) (v:Value) (w:World):GOut w.output (doReturn p mn fr cs d v w):=by
 unfold doReturn
 split
 ·split <;> first | rfl | trivial
 ·split
  ·rfl
  ·trivial
  ·split
   ·rfl
   ·split <;> first | rfl | trivial
theorem callDeferred_out (fr:Frame) (cs:List Frame) (d:Option Dying) (f:Deferred) (w:World):GOut w.output (callDeferred p fr cs d f w):=by
 unfold callDeferred
 refine iteInduction (motive:=GOut w.output) (fun _=>trivial) (fun _=>?_)
 ·dsimp only
  refine GOut.after ?_ _
  split
  all_goals first
   | (first | rfl | trivial | exact rt_ok (by assumption) | exact rt_halt (by assumption) | exact run_ok_out (by assumption) | exact run_halt_out (by assumption) | exact runT_ok_out (by assumption) | exact runT_halt_out (by assumption))
   | (rename_i h;exact (endFatal_out _ _ _ _ _).eq (rt_halt h))
   | (rename_i h;exact (endThrow_out _ _ _).eq (rt_halt h))
   | (split <;> (first | rfl | trivial | exact rt_ok (by assumption) | exact rt_halt (by assumption) | exact run_ok_out (by assumption) | exact run_halt_out (by assumption) | exact runT_ok_out (by assumption) | exact runT_halt_out (by assumption)))
theorem unwind_out (mn:Bool) (fr:Frame) (cs:List Frame) (d:Option Dying) (w:World):GOut w.output (unwind p mn fr cs d w):=by
 unfold unwind
 split
 ·dsimp only
  refine GOut.after ?_ _
  split <;> (first | rfl | trivial | exact rt_ok (by assumption) | exact rt_halt (by assumption) | exact run_ok_out (by assumption) | exact run_halt_out (by assumption) | exact runT_ok_out (by assumption) | exact runT_halt_out (by assumption))
 ·exact callDeferred_out _ _ _ _ _
 ·split
  ·trivial
  ·split
   ·trivial
   ·split
    ·rfl
    ·split
     ·split
      ·rfl
      ·split <;> (first | rfl | trivial | exact rt_ok (by assumption) | exact rt_halt (by assumption) | exact run_ok_out (by assumption) | exact run_halt_out (by assumption) | exact runT_ok_out (by assumption) | exact runT_halt_out (by assumption))
     ·split
      ·exact endPrinting_out _ _ _
      ·trivial
  ·split
   ·exact doReturn_out _ _ _ _ _ _
   ·dsimp only
    refine GOut.after ?_ _
    split
    ·rename_i h;exact (doReturn_out _ _ _ _ _ _).eq (rt_ok h)
    ·trivial
    ·trivial
theorem early_out (fr:Frame) (cs:List Frame) (d:Option Dying) (g:Nat) (w:World):GOut w.output (early p fr cs d g w):=by
 have key:∀ w':World,w'.output=w.output→GOut w.output (match w'.heap[g]? with
   | some (.pending c elem)=>.go { frame:=fr,callers:=cs,status:=.running,dying:=d } { w' with heap:=w'.heap.setIfInBounds g (.cells c elem) }
   | _=>.ended (.stuck "early: the variable does not wait" (fr.pos p)) w'):=fun w' e=>by
  split
  ·exact e
  ·trivial
 unfold early
 dsimp only
 split
 ·exact key w rfl
 ·split
  ·trivial
  ·split
   ·exact key w rfl
   ·split
    ·exact key w rfl
    ·split
     ·trivial
     ·rfl
     ·trivial
     ·exact key w rfl
     ·split
      ·rfl
      ·split
       ·exact key w rfl
       ·split
        ·rename_i h;exact key _ (run_ok_out h)
        ·rename_i h;exact run_ok_out h
        ·trivial
theorem apply_out (fr:Frame) (cs:List Frame) (d:Option Dying) (s:Sem Next) (w:World):GOut w.output (stepG.apply p true fr cs d s w):=by
 unfold stepG.apply
 simp only [if_true]
 refine GOut.after ?_ _
 split
 all_goals first
  | (first | rfl | trivial | exact rt_ok (by assumption) | exact rt_halt (by assumption) | exact run_ok_out (by assumption) | exact run_halt_out (by assumption) | exact runT_ok_out (by assumption) | exact runT_halt_out (by assumption))
  | (rename_i h;exact (endFatal_out _ _ _ _ _).eq (rt_halt h))
  | (rename_i h;exact (endThrow_out _ _ _).eq (rt_halt h))
  | (rename_i h;exact (early_out _ _ _ _ _).eq (rt_halt h))
  | (split <;> (first | rfl | trivial | exact rt_ok (by assumption) | exact rt_halt (by assumption) | exact run_ok_out (by assumption) | exact run_halt_out (by assumption) | exact runT_ok_out (by assumption) | exact runT_halt_out (by assumption)))
  | (refine iteInduction (motive:=GOut w.output) (fun _=>?_) (fun _=>?_);(rename_i h _;exact (endThrow_out _ _ _).eq (rt_ok h));(rename_i h _;exact rt_ok h))
theorem oper_out (fr:Frame) (cs:List Frame) (d:Option Dying) (w:World):GOut w.output (stepG.oper p true fr cs d w):=by
 unfold stepG.oper
 split
 ·trivial
 ·split <;> exact apply_out _ _ _ _ _
theorem exec_out (mn:Bool) (fr:Frame) (cs:List Frame) (d:Option Dying) (w:World):GOut w.output (stepG.exec p mn true fr cs d w):=by
 have hl:∀ (jump:Option Code) (c:Prop) [Decidable c],GOut w.output (match fr.roundOf with
   | none=>if c then .go { frame:={ fr with mode:=.returning },callers:=cs,status:=.running,dying:=d } w else .ended (.stuck "exit, goto: no such block or label" (fr.pos p)) w
   | some l=>GStep.after (seen p fr.fn ((Instr.endRound l jump).runT p w #[]).2) (match ((Instr.endRound l jump).runT p w #[]).1 with
    | .ok v w=>doReturn p mn fr cs d v w
    | .halt _ w=>.ended (.stuck "range over a function: no such loop" (fr.pos p)) w)):=fun jump c _=>by
  split
  ·refine iteInduction (motive:=GOut w.output) (fun _=>rfl) (fun _=>trivial)
  ·refine GOut.after ?_ _
   split
   ·rename_i h;exact (doReturn_out _ _ _ _ _ _).eq (rt_ok h)
   ·trivial
 have he:∀ {β:Type} (o:Option β) (s:GStep) (f:β→GStep),GOut w.output s→(∀ x,GOut w.output (f x))→GOut w.output (o.elim s f):=fun o s f h1 h2=>by
  cases o
  ·exact h1
  ·exact h2 _
 unfold stepG.exec
 dsimp only
 split
 all_goals first
  | rfl
  | trivial
  | exact hl _ _
  | exact apply_out _ _ _ _ _
  | exact he _ _ _ (hl _ _) fun _=>rfl
  | exact he _ _ _ trivial fun _=>apply_out _ _ _ _ _
  | (split <;> first | rfl | trivial)
  | (refine GOut.after ?_ _;split;(rename_i h;exact (apply_out _ _ _ _ _).eq (rt_ok h));trivial)
  | (refine GOut.after ?_ _;split;(rename_i h;exact rt_ok h);(rename_i h;exact rt_halt h);trivial)
  | (refine iteInduction (motive:=GOut w.output) (fun _=>rfl) (fun _=>?_);split;(rename_i h;exact run_ok_out h);trivial)
  | (refine iteInduction (motive:=GOut w.output) (fun _=>oper_out _ _ _ _) (fun _=>rfl))
  | skip
theorem stepG_out (mn:Bool) (g:Goroutine) (w:World):GOut w.output (stepG p mn g w):=by
 obtain ⟨fr,cs,st,d,off⟩:=g
 unfold stepG
 dsimp only
 split
 ·exact die_out _ _ _
 ·exact exec_out _ _ _ _ _
 ·exact unwind_out _ _ _ _ _
def SOut (o:Array (Nat×ByteArray)):Stepped→Prop
 | .next m=>m.world.output=o
 | .ended _ _=>True
theorem SOut.eq {o o':Array (Nat×ByteArray)} {s:Stepped} (h:SOut o' s) (e:o'=o):SOut o s:=e▸h
theorem waiting_out {rest:Rest} {cases:Array CommCase} {w w':World} (h:waitingAt rest cases w=some w'):w'.output=w.output:=by
 unfold waitingAt at h
 split at h
 ·split at h
  ·cases h;rfl
  ·cases h
 ·cases h;rfl
theorem communicate_out (rest:Rest) (gs:Array Goroutine) (i:Nat) (g:Goroutine) (cases:Array CommCase) (bl:Bool) (shape:CommShape) (w:World):SOut w.output (communicate p rest gs i g cases bl shape w).1:=by
 unfold communicate
 dsimp only
 split
 ·trivial
 ·split
  ·split
   ·split
    ·rename_i h;exact waiting_out h
    ·trivial
   ·rfl
  ·split
   ·trivial
   ·rename_i h
    have e:=run_ok_out h
    split
    ·split
     ·rename_i h2;exact (run_halt_out h2).trans e
     ·trivial
    ·exact e
    ·exact e
    ·split
     ·exact e
     ·split
      ·rename_i h2;exact (run_ok_out h2).trans e
      ·trivial
    ·exact e
    ·exact e
    ·trivial
theorem look_out (gs:Array Goroutine) (rest:Rest) (w:World):SOut w.output (look p gs rest w):=by
 unfold look
 split
 ·dsimp only
  split
  ·trivial
  ·split
   ·trivial
   ·split
    ·rename_i h;have e:=run_ok_out h;exact e
    ·trivial
    ·trivial
 ·trivial
theorem serve_out (m:Machine) (k:Nat):SOut m.world.output (serve p m k):=by
 unfold serve
 split
 ·trivial
 ·rfl
 ·dsimp only
  split
  ·trivial
  ·rfl
theorem drain_out (w:World) (c:Nat):(drain w c).2.output=w.output:=by
 unfold drain
 split <;> rfl
theorem retime_out (m:Machine) (k:Nat) (t:Timer) (a b:Nat):(retime m k t a b).2.world.output=m.world.output:=by
 unfold retime
 dsimp only
 split
 ·exact drain_out _ _
 ·rfl
theorem timerOp_out {m m':Machine} {op:TimerOp} {v:Value} (h:timerOp m op=.ok (v,m')):m'.world.output=m.world.output:=by
 cases op with
 | new t =>
  simp only [timerOp] at h
  split at h
  ·cases h;rfl
  ·split at h
   ·split at h
    ·cases h
    ·cases h;rfl
   ·cases h
 | stop var =>
  simp only [timerOp,timerOp.named] at h
  split at h
  ·simp only [Except.ok.injEq] at h
   have:=retime_out m ‹Nat› (m.rest.timers.getD ‹Nat› default) 0 (m.rest.timers.getD ‹Nat› default).period
   rw [h] at this
   exact this
  ·cases h
 | reset var a b =>
  simp only [timerOp,timerOp.named] at h
  split at h
  ·rename_i m2 h2
   have e2:m2.world.output=m.world.output:=by
    unfold timerOp.opened at h2
    split at h2
    ·split at h2
     ·cases h2;rfl
     ·cases h2
    ·cases h2;rfl
   split at h
   ·simp only [Except.ok.injEq] at h
    have:=retime_out m2 ‹Nat› (m.rest.timers.getD ‹Nat› default) a b
    rw [h] at this
    exact this.trans e2
   ·cases h
  ·cases h
 | deadline c r w x =>
  simp only [timerOp,Except.ok.injEq,Prod.mk.injEq] at h
  rw [←h.2];rfl
theorem mrunT_out (m:Machine) (i:Nat):SOut m.world.output (runT p m i).1:=by
 unfold runT
 dsimp only
 generalize m.gs.swapAt! i _=x
 obtain ⟨g,gs⟩:=x
 dsimp only
 have h:=stepG_out (p:=p) (i == 0) g m.world
 generalize stepG p (i == 0) g m.world=s at h ⊢
 cases s with
 | go g w es=>exact h
 | comm g c b sh w es=>exact (communicate_out _ _ _ _ _ _ _ _).eq h
 | spawn g ch w es=>exact h
 | count g w es =>
  refine iteInduction (motive:=fun x=>SOut m.world.output x) (fun _=>trivial) (fun _=>h)
 | timer g op w es =>
  dsimp only
  split
  ·rename_i h2;exact (timerOp_out h2).trans h
  ·split
   ·rename_i h2
    have:=endThrow_out g.frame ‹String› w
    rw [h2] at this
    exact Eq.trans this h
   ·trivial
  ·trivial
  ·trivial
 | alone g on w es=>exact h
 | newcoro g c d w es=>exact h
 | coroswitch g c ex w es =>
  dsimp only
  split
  ·exact h
  ·split
   ·rename_i h2
    have:=endThrow_out g.frame "coroswitch on exited coro" w
    rw [h2] at this
    exact Eq.trans this h
   ·trivial
  ·trivial
 | collect g w es=>exact (look_out _ _ _).eq h
 | watch g w es=>exact h
 | ended o w es=>trivial
def MOut (o:Array (Nat×ByteArray)):Move→Prop
 | .goroutine m _=>m.world.output=o
 | .machine s _=>SOut o s
theorem MOut.eq {o o':Array (Nat×ByteArray)} {s:Move} (h:MOut o' s) (e:o'=o):MOut o s:=e▸h
theorem askOn_out (m:Machine):MOut m.world.output (askOn p m):=by
 have pk:∀ (m:Machine) (rs:List Nat),MOut m.world.output (match (choose (.sched rs.length)).run p m.world with
   | .halt _ w=>.machine (.ended (.stuck "sched" "") w)
   | .ok k world =>
    if rs.length≤1 then .goroutine { m with world } (rs.getD k 0) else
    match (choose (.extern "sched.slice" 65536)).run p world with
    | .halt _ w=>.machine (.ended (.stuck "sched.slice" "") w)
    | .ok n world=>.goroutine { m with world,rest:={ m.rest with slice:=if n=0 then none else some (rs.getD k 0,n) } } (rs.getD k 0)):=fun m rs=>by
  split
  ·trivial
  ·rename_i h
   refine iteInduction (motive:=MOut m.world.output) (fun _=>run_ok_out h) (fun _=>?_)
   split
   ·trivial
   ·rename_i h2;exact (run_ok_out h2).trans (run_ok_out h)
 unfold askOn
 dsimp only
 split
 ·trivial
 ·rename_i h
  have e:=run_ok_out h
  refine iteInduction (motive:=MOut m.world.output) (fun _=>(serve_out _ _).eq e) (fun _=>?_)
  split
  ·split
   ·exact e
   ·refine iteInduction (motive:=MOut m.world.output) (fun _=>e) (fun _=>?_)
    split
    ·trivial
    ·trivial
  ·split
   ·exact (pk { m with world:=_ } _).eq e
   ·split
    ·trivial
    ·rename_i h2;exact (pk { m with world:=_ } _).eq ((run_ok_out h2).trans e)
    ·rename_i h2;exact (run_ok_out h2).trans e
    ·rename_i h2;exact (pk (Machine.advanceTo { m with world:=_ } _) _).eq ((run_ok_out h2).trans e)
theorem move_out (m:Machine):MOut m.world.output (move p m):=by
 have ak:∀ m:Machine,MOut m.world.output (ask p m):=fun m=>by
  unfold ask
  split
  ·split
   ·trivial
   ·rename_i h
    split
    ·rename_i h2
     have:=look_out (p:=p) m.gs m.rest ‹World›
     rw [h2] at this
     exact (askOn_out _).eq (Eq.trans this (run_ok_out h))
    ·exact (look_out _ _ _).eq (run_ok_out h)
   ·rename_i h;exact (askOn_out _).eq (run_ok_out h)
  ·exact askOn_out m
 unfold move
 split
 ·refine iteInduction (motive:=MOut m.world.output) (fun _=>rfl) (fun _=>trivial)
 ·split
  ·refine iteInduction (motive:=MOut m.world.output) (fun _=>rfl) (fun _=>ak { m with rest:=_ })
  ·exact ak m
theorem stepT_out (m:Machine):SOut m.world.output (stepT p m).1:=by
 have h:=move_out (p:=p) m
 unfold stepT
 split
 ·rename_i h2;rw [h2] at h;exact (mrunT_out _ _).eq h
 ·rename_i h2;rw [h2] at h;exact h
theorem runNT_out_:∀ (n:Nat) (m m':Machine) (t t':Trace),runNT p n m t=(.next m',t')→m'.world.output=m.world.output
 | 0,m,m',t,t',h=>by simp only [runNT,Prod.mk.injEq,Stepped.next.injEq] at h;rw [h.1]
 | n+1,m,m',t,t',h=>by
  have hs:=stepT_out (p:=p) m
  simp only [runNT] at h
  split at h
  ·rename_i m1 ops h1
   rw [h1] at hs
   exact (runNT_out_ n m1 m' _ _ h).trans hs
  ·rename_i hne h1
   simp only [Prod.mk.injEq] at h
   exact (hne _ h.1).elim
theorem runNT_out {n:Nat} {gs gs':Array Goroutine} {w w':World} {sl sl':Option (Nat×Nat)} {t t':Trace} (h:runNT p n (Go.Conc.crowd gs w sl) t=(.next (Go.Conc.crowd gs' w' sl'),t')):w'.output=w.output:=runNT_out_ n _ _ _ _ h
end
end Go.Proofs.YtjnkcibpkkjniaaGreat.Sim
namespace Go.Proofs.YtjnkcibpkkjniaaGreat.Sim
open Go.Conc
variable [Scope]
section
variable {P:Program}
def AtReturnX (f:FuncId) (tr:Tmp) (v:Value) (PostS:World→Prop) (fr:Frame) (xs:List Frame) (w:World):Prop :=
 xs=[]∧fr.fn=f∧fr.mode=.returning∧fr.tmps.getD tr undef=v∧PostS w
theorem end_stepX {ρ:Ren} {f:FuncId} {fn:Func} {tr:Tmp} {v:Value} {PostS:World→Prop} (hfn:P.funcs[f]? = some fn) (hres:fn.results=#[.tmp tr]) (hini:P.inits.idxOf? f=none) (hv:∀ ρ v',VR ρ v v'→v'=v)
  {fr fr':Frame} {xs:List Frame} {wS:World} (hat:AtReturnX f tr v PostS fr xs wS) {S:Loc→Prop} {u:World} (hg:FrX S ρ u fr fr') (hvm:isMk v=false) (w:World) :
  stepG P true (G fr' []) w=.ended (.done v) w #[]:=by
 obtain ⟨rfl,rfl,hm,ht,_⟩:=hat
 have hm':fr'.mode=.returning:=hg.mode.1.trans hm
 have hd':fr'.defers=[]:=hg.defers.2
 have hk':fr'.kind=.normal:=hg.kind.2
 have hfe:fr'.fn=fr.fn:=hg.fn
 have hf':P.funcs[fr'.fn]? = some fn:=by rw [hfe];exact hfn
 have hi':P.inits.idxOf? fr'.fn=none:=by rw [hfe];exact hini
 have hval:fr'.tmps.getD tr undef=v:=by
  have:=hg.tmps.getD tr
  rw [ht] at this
  exact hv ρ _ (this.vr hvm)
 have hr:(results fn fr'.tmps).run P w=.ok v w:=by rw [results_tmp hres _ P w,hval]
 have he:(results fn fr'.tmps).events P w #[]=#[]:=events_results_tmp hres _ _
 have hseen:seen P fr'.fn #[]=#[]:=by
  apply Array.eq_empty_of_size_eq_zero
  rcases Nat.eq_zero_or_pos (seen P fr'.fn #[]).size with h | h
  ·exact h
  ·have h1:=seen_sub (P:=P) (Array.getElem_mem h)
   simp at h1
 unfold G stepG
 simp only [hm']
 unfold unwind
 simp only [hd',hm',hf',Sem.runT_eq,hr,he]
 simp [doReturn,hk',hi',GStep.after,hseen]
theorem FrX.enter {S:Loc→Prop} {u:World} {ρ:Ren} {f:FuncId} {args args':Array Value} (ha:VsF S ρ u args args'):FrX S ρ u (Frame.enter P f args .normal) (Frame.enter P f args' .normal):=by
 refine ⟨rfl,?_,rfl,⟨rfl,rfl⟩,⟨rfl, .inl rfl⟩,⟨rfl,rfl⟩,rfl,rfl⟩
 unfold Frame.enter
 simp only [←ha.size]
 exact ha.append (VsR.replicate _ VR_undef)
theorem ends_goodX {f:FuncId} {fn:Func} {tr:Tmp} {v:Value} {PostS:World→Prop} {Post:Value→World→Prop} (hfn:P.funcs[f]? = some fn) (hres:fn.results=#[.tmp tr]) (hini:P.inits.idxOf? f=none) (hv:∀ ρ v',VR ρ v v'→v'=v)
  (hvm:isMk v=false) {args args':Array Value} {w:World} {ρ0:Ren} (hh:HR ρ0 w w) (ha:VsF (fun _=>False) ρ0 w args args') (hg:GetsX P [] (AtReturnX f tr v PostS) (Frame.enter P f args .normal) [] w)
  (hpost:∀ ρ' wS' w',ρ0.le ρ'→HR ρ' wS' w'→PostS wS'→(∀ B,B < w.heap.size→(∀ b p,ρ0 b=some p→p.block≠B)→w'.heap[B]? = w.heap[B]?)→w'.os=w.os→w'.output=w.output→Post v w') :
  ∃ N last o w' t',runNT P (N+1) (solo (G (Frame.enter P f args' .normal) []) w) #[]=(.ended o w',t')∧runN P N (solo (G (Frame.enter P f args' .normal) []) w)=.next last∧step P last=.ended o w'∧Good P Post last o w' t':=by
 have hstand:StandX P (fun _=>False) ρ0 [] (Frame.enter P f args .normal) [] w #[G (Frame.enter P f args' .normal) []] w #[] (fun _=>0) :=
  ⟨⟨_,[],rfl,FrX.enter ha, .nil⟩,hh,leavers_one P _,past_nil.mono (Nat.zero_le _),⟨fun _ _ _ _ _ h=>h,fun _ _ _ h=>h,fun _ h=>h.elim,fun h=>h⟩⟩
 obtain ⟨N,gs',w',sl',t',q',Shun',ρ',fr',xs',wS',h1,hle,h2,h3,h4⟩:=hg _ _ _ _ none _ _ hstand
 obtain ⟨frB,ys,hg0,hfr,hxs⟩:=h2.main
 have hout:w'.output=w.output:=runNT_out h1
 have hx0:xs'=[]:=h3.1
 subst hx0
 cases hxs
 have hend:Goes P true AtRel (fun _ _ es=>∀ e∈es,EvL Shun' w'.heap.size e) (Go.Conc.AtEnd P Shun' w'.heap.size Post) 0 (G frB []) w':=by
  intro w1 hw1
  obtain ⟨d,rfl⟩:=hw1
  exact ⟨rfl,v,#[],end_stepX hfn hres hini hv h3 hfr hvm _,by simp,hpost ρ' wS' _ hle ⟨h2.hr.obj,h2.hr.inj,h2.hr.base,h2.hr.os,h2.hr.sync⟩ h3.2.2.2.2 (fun B hB hn=>(h4.block B hB hn ⟨fun _ _ h=>h,fun h=>h⟩).1) h4.os hout⟩
 obtain ⟨N2,last,o,w2,t2,k1,k2,k3,k4⟩:=beside_ends (D:=fun _ _ es=>∀ e∈es,EvL Shun' w'.heap.size e) (fun _ _ _ h=>h) (sl:=sl') hg0 h2.leave h2.past (n:=0) hend
 have e0:solo (G (Frame.enter P f args' .normal) []) w=crowd #[G (Frame.enter P f args' .normal) []] w none:=rfl
 refine ⟨N+N2,last,o,w2,t2,?_,?_,k3,k4⟩
 ·rw [e0,Nat.add_assoc,runNT_add,h1]
  exact k1
 ·have hn:runN P N (crowd #[G (Frame.enter P f args' .normal) []] w none)=.next (crowd gs' w' sl'):=by rw [←runNT_fst _ _ _ #[],h1]
  rw [e0,runN_add,hn]
  exact k2
end
end Go.Proofs.YtjnkcibpkkjniaaGreat.Sim
namespace Go.Proofs.YtjnkcibpkkjniaaGreat.Sim
variable [Scope]
def IsId (ρ:Ren):Prop:=∀ b p,ρ b=some p→p=⟨b,none⟩
theorem AR_id {ρ:Ren} (h:IsId ρ) {a a':Addr} (k:AR ρ a a'):a'=a:=by
 obtain ⟨_,p,hp,h1,h2,h3⟩:=k
 obtain rfl:=h _ _ hp
 obtain ⟨b',o',s'⟩:=a'
 obtain ⟨b,o,s⟩:=a
 simp only [Place.shift] at h1 h2 h3
 simp [h1,h2,h3]
theorem array_ext_of {xs ys:Array Value} (hs:xs.size=ys.size) (h:∀ (i:Nat) v v',xs[i]? = some v→ys[i]? = some v'→v'=v):ys=xs:=by
 apply Array.ext_getElem?
 intro i
 rcases Nat.lt_or_ge i xs.size with hi | hi
 ·have hi':i < ys.size:=by omega
  rw [Array.getElem?_eq_getElem hi,Array.getElem?_eq_getElem hi',h i _ _ (Array.getElem?_eq_getElem hi) (Array.getElem?_eq_getElem hi')]
 ·rw [Array.getElem?_eq_none hi,Array.getElem?_eq_none (by omega)]
theorem VR_id {ρ:Ren} (h:IsId ρ) {v v':Value} (k:VR ρ v v'):v'=v:=by
 induction k with
 | bool b=>rfl
 | int k n=>rfl
 | string s=>rfl
 | ptr0=>rfl
 | ptr ha=>rw [AR_id h ha]
 | slice0 l c=>rfl
 | slice l c ha=>rw [AR_id h ha]
 | map0=>rfl
 | map hr=>have:=h _ _ hr;cases this;rfl
 | chan0=>rfl
 | func h1 h2 _ h4 _ ih1 ih2=>rw [array_ext_of h2 ih1,array_ext_of h4 ih2]
 | nilFunc=>rfl
 | iface _ ih=>rw [ih]
 | nilIface=>rfl
 | agg h1 _ ih=>rw [array_ext_of h1 ih]
 | tuple h1 _ ih=>rw [array_ext_of h1 ih]
theorem VsR_id {ρ:Ren} (h:IsId ρ) {xs ys:Array Value} (k:VsR ρ xs ys):ys=xs:=array_ext_of k.size fun i v v' a b=>VR_id h (k.get i v v' a b)
theorem OR_id {ρ:Ren} (h:IsId ρ) {o o':Obj} (k:OR ρ o o'):o'=o:=by
 cases k with
 | cells hv=>rw [VsR_id h hv]
 | @map es ES clk hs hk =>
  have:ES=es:=by
   apply Array.ext_getElem?
   intro i
   rcases Nat.lt_or_ge i es.size with hi | hi
   ·have hi':i < ES.size:=by omega
    obtain ⟨a,b,c⟩:=hk i _ _ (Array.getElem?_eq_getElem hi) (Array.getElem?_eq_getElem hi')
    rw [Array.getElem?_eq_getElem hi,Array.getElem?_eq_getElem hi']
    have e1:=VR_id h a
    have e2:=VR_id h b
    generalize es[i]=x at e1 e2 c
    generalize ES[i]=y at e1 e2 c
    obtain ⟨k1,v1,b1⟩:=x
    obtain ⟨k2,v2,b2⟩:=y
    simp only at e1 e2 c
    rw [e1,e2,c]
   ·rw [Array.getElem?_eq_none hi,Array.getElem?_eq_none (by omega)]
  rw [this]
 | number ha=>rw [AR_id h ha]
theorem HR.same {ρ:Ren} {w w':World} (h:HR ρ w w') (hid:IsId ρ) {b:Nat} {p:Place} (hb:ρ b=some p):w'.heap[b]? = w.heap[b]?:=by
 obtain ⟨o,o',h1,h2,h3⟩:=h.obj b p hb
 obtain rfl:=hid _ _ hb
 have h4:OR ρ o o':=h3
 rw [h1]
 rw [OR_id hid h4] at h2
 exact h2
open Classical in
noncomputable def idOn (S:Nat→Prop):Ren:=fun b=>if S b then some ⟨b,none⟩ else none
theorem idOn_some {S:Nat→Prop} {b:Nat} (h:S b):idOn S b=some ⟨b,none⟩:=by unfold idOn;rw [if_pos h]
theorem idOn_of {S:Nat→Prop} {b:Nat} {p:Place} (h:idOn S b=some p):S b∧p=⟨b,none⟩:=by
 unfold idOn at h
 split at h
 ·rename_i e;cases h;exact ⟨e,rfl⟩
 ·cases h
theorem idOn_id (S:Nat→Prop):IsId (idOn S):=fun b p h=>(idOn_of h).2
theorem idOn_le {S S':Nat→Prop} (h:∀ b,S b→S' b):(idOn S).le (idOn S'):=fun b p hb=>by
 obtain ⟨hs,rfl⟩:=idOn_of hb
 exact idOn_some (h b hs)
theorem HR_self {S:Nat→Prop} {w:World} (hc:∀ b,S b→∃ o,w.heap[b]? = some o∧OR (idOn S) o o) (hb:Scope.base≤w.heap.size):HR (idOn S) w w :=
 ⟨fun b p h=>by
  obtain ⟨hs,rfl⟩:=idOn_of h
  obtain ⟨o,h1,h2⟩:=hc b hs
  exact ⟨o,o,h1,h1,h2⟩,fun b b' p p' h h' e=>by
  obtain ⟨_,rfl⟩:=idOn_of h
  obtain ⟨_,rfl⟩:=idOn_of h'
  exact e,hb,rfl,fun _=>⟨rfl,idOn_id S⟩⟩
end Go.Proofs.YtjnkcibpkkjniaaGreat.Sim
namespace Go.Proofs.YtjnkcibpkkjniaaGreat.Sim
inductive Nm:Value→Nat→Prop
 | ptr (a:Addr):Nm (.pointer (some a)) a.block
 | slice (a:Addr) (l c:Nat):Nm (.slice (some a) l c) a.block
 | map (r:Nat):Nm (.map (some r)) r
 | caps {f:Fn} {xs ys:Array Value} {i:Nat} {v:Value} {b:Nat}:xs[i]? = some v→Nm v b→Nm (.func f xs ys) b
 | capt {f:Fn} {xs ys:Array Value} {i:Nat} {v:Value} {b:Nat}:ys[i]? = some v→Nm v b→Nm (.func f xs ys) b
 | iface {t:TypeId} {v:Value} {b:Nat}:Nm v b→Nm (.iface t v) b
 | agg {xs:Array Value} {i:Nat} {v:Value} {b:Nat}:xs[i]? = some v→Nm v b→Nm (.agg xs) b
 | tuple {xs:Array Value} {i:Nat} {v:Value} {b:Nat}:xs[i]? = some v→Nm v b→Nm (.tuple xs) b
inductive Rch (w:World) (A:Array Value):Nat→Prop
 | arg {i:Nat} {v:Value} {b:Nat}:A[i]? = some v→Nm v b→Rch w A b
 | cell {b b':Nat} {c:Array Value} {e:TypeId} {fr:Nat×Nat} {i:Nat} {v:Value}:Rch w A b→w.heap[b]? = some (.cells c e fr)→c[i]? = some v→Nm v b'→Rch w A b'
 | num {b:Nat} {ad:Addr} {lost:Bool}:Rch w A b→w.heap[b]? = some (.number ad lost)→Rch w A ad.block
 | key {b b':Nat} {es:Array MapEntry} {clk:Nat} {i:Nat} {x:MapEntry}:Rch w A b→w.heap[b]? = some (.map es clk)→es[i]? = some x→(Nm x.key b'∨Nm x.val b')→Rch w A b'
section
variable [Scope]
theorem get_of_size {xs ys:Array Value} (h:xs.size=ys.size) {i:Nat} {v:Value} (hv:xs[i]? = some v):∃ v',ys[i]? = some v':=by
 have:=(Array.getElem?_eq_some_iff.1 hv).1
 exact ⟨_,Array.getElem?_eq_getElem (by omega)⟩
theorem VR.named {ρ:Ren} {v v':Value} {b:Nat} (hn:Nm v b):VR ρ v v'→∃ p,ρ b=some p:=by
 intro h
 induction h generalizing b with
 | ptr ha=>cases hn;obtain ⟨_,p,hp,_⟩:=ha;exact ⟨p,hp⟩
 | slice l c ha=>cases hn;obtain ⟨_,p,hp,_⟩:=ha;exact ⟨p,hp⟩
 | map hr=>cases hn;exact ⟨_,hr⟩
 | func _ h1 _ h3 _ ih1 ih2 =>
  cases hn with
  | caps hv hn=>obtain ⟨v',hv'⟩:=get_of_size h1 hv;exact ih1 _ _ _ hv hv' hn
  | capt hv hn=>obtain ⟨v',hv'⟩:=get_of_size h3 hv;exact ih2 _ _ _ hv hv' hn
 | iface _ ih=>cases hn with | iface hn=>exact ih hn
 | agg h1 _ ih=>cases hn with | agg hv hn=>obtain ⟨v',hv'⟩:=get_of_size h1 hv;exact ih _ _ _ hv hv' hn
 | tuple h1 _ ih=>cases hn with | tuple hv hn=>obtain ⟨v',hv'⟩:=get_of_size h1 hv;exact ih _ _ _ hv hv' hn
 | bool b=>cases hn
 | int k n=>cases hn
 | string s=>cases hn
 | ptr0=>cases hn
 | slice0 l c=>cases hn
 | map0=>cases hn
 | chan0=>cases hn
 | nilFunc=>cases hn
 | nilIface=>cases hn
theorem VsR.named {ρ:Ren} {xs ys:Array Value} (h:VsR ρ xs ys) {i:Nat} {v:Value} {b:Nat} (hv:xs[i]? = some v) (hn:Nm v b):∃ p,ρ b=some p:=by
 obtain ⟨v',hv'⟩:=get_of_size h.size hv
 exact VR.named hn (h.get i v v' hv hv')
theorem HR.reached {ρ:Ren} {w w':World} (h:HR ρ w w') (hw:∀ b p,ρ b=some p→p.part=none) {A A':Array Value} (hA:VsR ρ A A') {b:Nat} (hr:Rch w A b):∃ p,ρ b=some p:=by
 induction hr with
 | arg hv hn=>exact hA.named hv hn
 | cell _ hb hv hn ih =>
  obtain ⟨p,hp⟩:=ih
  obtain ⟨o,o',h1,_,h3⟩:=h.obj _ p hp
  unfold ObjR at h3
  rw [hw _ p hp] at h3
  rw [hb] at h1
  cases h1
  cases h3 with
  | cells hc=>exact hc.named hv hn
 | num _ hb ih =>
  obtain ⟨p,hp⟩:=ih
  obtain ⟨o,o',h1,_,h3⟩:=h.obj _ p hp
  unfold ObjR at h3
  rw [hw _ p hp] at h3
  rw [hb] at h1
  cases h1
  cases h3 with
  | number ha=>obtain ⟨_,p2,hp2,_⟩:=ha;exact ⟨p2,hp2⟩
 | key _ hb hv hn ih =>
  obtain ⟨p,hp⟩:=ih
  obtain ⟨o,o',h1,_,h3⟩:=h.obj _ p hp
  unfold ObjR at h3
  rw [hw _ p hp] at h3
  rw [hb] at h1
  cases h1
  cases h3 with
  | @map es ES clk hs hk =>
   obtain ⟨y,hy⟩:∃ y,ES[_]? = some y:=⟨_,Array.getElem?_eq_getElem (by rw [←hs];exact (Array.getElem?_eq_some_iff.1 hv).1)⟩
   obtain ⟨k1,k2,_⟩:=hk _ _ _ hv hy
   rcases hn with hn | hn
   ·exact VR.named hn k1
   ·exact VR.named hn k2
theorem VsR.diag {ρ:Ren} {xs:Array Value} (h:∀ (i:Nat) v,xs[i]? = some v→VR ρ v v):VsR ρ xs xs:=⟨rfl,fun i v v' a b=>by rw [a] at b;cases b;exact h i v a⟩
end
def Img (ρ:Ren) (b:Nat):Prop:=∃ y,ρ y=some ⟨b,none⟩
section
variable {SW SM:Scope}
def Whole (base:Nat) (ρ:Ren):Prop:=∀ b p,ρ b=some p→p.part=none∧(p.block=b∨base≤p.block)
theorem Place.eta {p:Place} (h:p.part=none):p=⟨p.block,none⟩:=by
 obtain ⟨b,q⟩:=p
 simp only at h
 rw [h]
theorem AR.img {ρ:Ren} (hb:SM.base=SW.base) (hw:Whole SW.base ρ) {a a':Addr} (h:@AR SW ρ a a'):@AR SM (idOn (Img ρ)) a' a':=by
 obtain ⟨h0,p,hp,h1,h2,h3⟩:=h
 obtain ⟨k1,k2⟩:=hw _ p hp
 refine ⟨?_,⟨a'.block,none⟩,idOn_some ⟨a.block,by rw [h1,←Place.eta k1];exact hp⟩,rfl,by simp [Place.shift],rfl⟩
 rw [hb,h1]
 rcases k2 with k2 | k2
 ·rw [k2];exact h0
 ·exact k2
theorem VR.img {ρ:Ren} (hb:SM.base=SW.base) (hok:∀ f,SW.ok f=true→SM.ok f=true) (hw:Whole SW.base ρ) {v v':Value} (h:@VR SW ρ v v'):@VR SM (idOn (Img ρ)) v' v':=by
 induction h with
 | bool b=>exact .bool b
 | int k n=>exact .int k n
 | string s=>exact .string s
 | ptr0=>exact .ptr0
 | ptr ha=>exact .ptr (AR.img hb hw ha)
 | slice0 l c=>exact .slice0 l c
 | slice l c ha=>exact .slice l c (AR.img hb hw ha)
 | map0=>exact .map0
 | map hr=>exact .map (idOn_some ⟨_,hr⟩)
 | chan0=>exact .chan0
 | func hf h1 _ h3 _ ih1 ih2 =>
  refine .func (hok _ hf) rfl (fun i v v' a b=>?_) rfl (fun i v v' a b=>?_)
  ·obtain ⟨x,hx⟩:=get_of_size h1.symm a
   rw [a] at b;cases b
   exact ih1 i x _ hx a
  ·obtain ⟨x,hx⟩:=get_of_size h3.symm a
   rw [a] at b;cases b
   exact ih2 i x _ hx a
 | nilFunc=>exact .nilFunc
 | iface _ ih=>exact .iface ih
 | nilIface=>exact .nilIface
 | agg h1 _ ih =>
  refine .agg rfl (fun i v v' a b=>?_)
  obtain ⟨x,hx⟩:=get_of_size h1.symm a
  rw [a] at b;cases b
  exact ih i x _ hx a
 | tuple h1 _ ih =>
  refine .tuple rfl (fun i v v' a b=>?_)
  obtain ⟨x,hx⟩:=get_of_size h1.symm a
  rw [a] at b;cases b
  exact ih i x _ hx a
theorem OR.img {ρ:Ren} (hb:SM.base=SW.base) (hok:∀ f,SW.ok f=true→SM.ok f=true) (hw:Whole SW.base ρ) {o o':Obj} (h:@OR SW ρ o o'):@OR SM (idOn (Img ρ)) o' o':=by
 cases h with
 | @cells c C e fr hc =>
  refine .cells (@VsR.diag SM _ _ fun i v hv=>?_)
  have hs:c.size=C.size:=@VsR.size SW _ _ _ hc
  obtain ⟨x,hx⟩:=get_of_size hs.symm hv
  exact VR.img hb hok hw (@VsR.get SW _ _ _ hc i x v hx hv)
 | @map es ES clk hs hk =>
  refine .map rfl fun i x y a b=>?_
  rw [a] at b;cases b
  have hi:=(Array.getElem?_eq_some_iff.1 a).1
  obtain ⟨k1,k2,k3⟩:=hk i es[i] x (Array.getElem?_eq_getElem (by omega)) a
  exact ⟨VR.img hb hok hw k1,VR.img hb hok hw k2,rfl⟩
 | number ha=>exact .number (AR.img hb hw ha)
end
end Go.Proofs.YtjnkcibpkkjniaaGreat.Sim
namespace Go.Proofs.YtjnkcibpkkjniaaGreat.Sim
def goodInfo (i:TypeInfo):Bool :=
 (match i.zero with | some z=>clear 8 z && z.cells.all (clear 7) | none=>true) && decide (i.align ∣ i.bytes)
theorem goodInfo_iff {i:TypeInfo}:goodInfo i=true↔(∀ z,i.zero=some z→clear 8 z=true∧z.cells.all (clear 7)=true)∧i.align ∣ i.bytes:=by
 unfold goodInfo
 cases i.zero <;> simp
theorem forIn_inv {α β:Type} (I:β→Prop) (body:α→β→Option (ForInStep β)) (hb:∀ a b s,I b→body a b=some s→I s.value):∀ (l:List α) (b r:β),I b→forIn l b body=some r→I r:=by
 intro l
 induction l with
 | nil=>intro b r hI h;simp at h;exact h▸hI
 | cons a l ih =>
  intro b r hI h
  rw [List.forIn_cons] at h
  cases hs:body a b with
  | none=>rw [hs] at h;simp at h
  | some s =>
   have hI':=hb a b s hI hs
   rw [hs] at h
   cases s with
   | done b'=>simp at h;exact h▸hI'
   | yield b'=>exact ih b' r hI' (by simpa using h)
theorem roundUp_dvd (n a:Nat) (h:1≤a):a ∣ Made.roundUp n a:=by
 unfold Made.roundUp
 rw [if_neg (by omega)]
 exact Nat.dvd_mul_left _ _
theorem clear_agg {xs:Array Value} (h:xs.all (clear 7)=true):clear 8 (.agg xs)=true:=by simpa only [clear] using h
theorem good_struct {info:TypeId→Option TypeInfo} (hg:∀ t i,info t=some i→goodInfo i=true) {fs:Array Field} {i:TypeInfo} (h:Made.reckonStruct info fs=some i):goodInfo i=true:=by
 unfold Made.reckonStruct at h
 simp only [Option.bind_eq_bind,←Array.forIn_toList] at h
 obtain ⟨r,hr,h⟩:=Option.bind_eq_some_iff.1 h
 have hI:=forIn_inv (fun b:Array Field×Nat×Nat×Nat×Nat×Bool×Bool×Option (Array Value)×String=>1≤b.2.2.2.1∧∀ zs,b.2.2.2.2.2.2.2.1=some zs→zs.all (clear 7)=true) _ (fun f b s hI hs=>?_) _ _ _ ⟨Nat.le_refl _,fun zs hz=>by cases hz;simp⟩ hr
 ·obtain ⟨rf,rc,rs,ra,rl,rp,rq,rz,rr⟩:=r
  simp only at hI h
  have fin:∀ sz,(pure (f:=Option) ({ desc:=.struct rf,str:=rr++(if fs.isEmpty then "" else " ")++ "}",size:=rc,bytes:=Made.roundUp sz ra,hasPointers:=rp,align:=ra,fieldAlign:=ra,zero:=rz.map .agg,comparable:=rq,methods:=#[] }:TypeInfo))=some i→goodInfo i=true:=by
   intro sz e
   cases e
   refine goodInfo_iff.2 ⟨fun z hz=>?_,roundUp_dvd _ _ hI.1⟩
   obtain ⟨zs,e1,rfl⟩:=Option.map_eq_some_iff.1 hz
   exact ⟨clear_agg (hI.2 zs e1),hI.2 zs e1⟩
  split at h
  ·exact fin _ h
  ·exact fin _ h
 ·obtain ⟨bf,bc,bs,ba,bl,bp,bq,bz,br⟩:=b
  obtain ⟨i,hi,hs⟩:=Option.bind_eq_some_iff.1 hs
  have hgi:=(goodInfo_iff.1 (hg _ _ hi)).1
  simp only at hI hs ⊢
  have fin:∀ (x1:Array Field) (x2 x3 x5:Nat) (x6 x7:Bool) (x9:String) (n:Nat),s=ForInStep.yield (x1,x2,x3,max ba i.align,x5,x6,x7,(if n > Made.mostCells then none else bz.bind fun a=>i.zero.bind fun c=>pure (a++c.cells)),x9)→1≤s.value.2.2.2.1∧∀ zs,s.value.2.2.2.2.2.2.2.1=some zs→zs.all (clear 7)=true:=by
   rintro x1 x2 x3 x5 x6 x7 x9 n rfl
   refine ⟨Nat.le_trans hI.1 (Nat.le_max_left _ _),fun zs hz=>?_⟩
   simp only [ForInStep.value] at hz
   split at hz
   ·cases hz
   ·obtain ⟨a,ha,hz⟩:=Option.bind_eq_some_iff.1 hz
    obtain ⟨c,hc,hz⟩:=Option.bind_eq_some_iff.1 hz
    cases hz
    rw [Array.all_append,hI.2 a ha,(hgi c hc).2];rfl
  split at hs
  ·simp at hs
  ·split at hs
   ·simp at hs
   ·split at hs
    ·simp only [Option.pure_def,Option.bind_some] at hs
     split at hs <;> exact fin _ _ _ _ _ _ _ _ (Option.some.inj hs).symm
    ·obtain ⟨tag,_,hs⟩:=Option.bind_eq_some_iff.1 hs
     split at hs <;> exact fin _ _ _ _ _ _ _ _ (Option.some.inj hs).symm
theorem good_word {d:TypeDesc} {st:String} {z:Value} {c:Bool} {n:Nat} (hz:clear 7 z=true) (hz8:clear 8 z=true) (hn:8 ∣ n) (hc:z.cells=#[z]):goodInfo (Made.word d st z c n)=true :=
 goodInfo_iff.2 ⟨fun z' e=>by cases e;exact ⟨hz8,by rw [hc];simpa using hz⟩,hn⟩
theorem good_reckon {info:TypeId→Option TypeInfo} (hg:∀ t i,info t=some i→goodInfo i=true) {d:TypeDesc} {i:TypeInfo} (h:Made.reckon info d=some i):goodInfo i=true:=by
 unfold Made.reckon at h
 cases d with
 | pointer e =>
  simp only [Option.bind_eq_bind] at h
  obtain ⟨j,hj,h⟩:=Option.bind_eq_some_iff.1 h
  split at h
  ·cases h
  ·split at h
   ·cases h
   ·obtain ⟨_,_,h⟩:=Option.bind_eq_some_iff.1 h;cases h;exact good_word rfl rfl ⟨1,rfl⟩ rfl
  ·obtain ⟨_,_,h⟩:=Option.bind_eq_some_iff.1 h;cases h;exact good_word rfl rfl ⟨1,rfl⟩ rfl
 | slice e =>
  simp only [Option.bind_eq_bind] at h
  obtain ⟨j,hj,h⟩:=Option.bind_eq_some_iff.1 h
  obtain ⟨_,_,h⟩:=Option.bind_eq_some_iff.1 h;cases h;exact good_word rfl rfl ⟨3,rfl⟩ rfl
 | map k e =>
  simp only [Option.bind_eq_bind] at h
  obtain ⟨j,hj,h⟩:=Option.bind_eq_some_iff.1 h
  obtain ⟨_,_,h⟩:=Option.bind_eq_some_iff.1 h
  obtain ⟨_,_,h⟩:=Option.bind_eq_some_iff.1 h
  obtain ⟨_,_,h⟩:=Option.bind_eq_some_iff.1 h;cases h;exact good_word rfl rfl ⟨1,rfl⟩ rfl
 | chan dir e =>
  simp only [Option.bind_eq_bind] at h
  obtain ⟨j,hj,h⟩:=Option.bind_eq_some_iff.1 h
  obtain ⟨_,_,h⟩:=Option.bind_eq_some_iff.1 h;cases h;exact good_word rfl rfl ⟨1,rfl⟩ rfl
 | func ps rs v =>
  simp only [Option.bind_eq_bind] at h
  obtain ⟨j,hj,h⟩:=Option.bind_eq_some_iff.1 h;cases h;exact good_word rfl rfl ⟨1,rfl⟩ rfl
 | array n e =>
  simp only [Option.bind_eq_bind] at h
  obtain ⟨j,hj,h⟩:=Option.bind_eq_some_iff.1 h
  obtain ⟨_,_,h⟩:=Option.bind_eq_some_iff.1 h
  cases h
  have hgj:=goodInfo_iff.1 (hg _ _ hj)
  refine goodInfo_iff.2 ⟨fun z hz=>?_,Nat.dvd_trans hgj.2 (Nat.dvd_mul_left _ _)⟩
  simp only at hz
  split at hz
  ·cases hz
  ·split at hz
   ·cases hz;exact ⟨clear_agg (by simp),by simp [Value.cells]⟩
   ·obtain ⟨y,hy,rfl⟩:=Option.map_eq_some_iff.1 hz
    have hc:=(hgj.1 y hy).2
    have hall:(Array.replicate n y.cells).flatten.all (clear 7)=true:=by
     rw [Array.all_eq_true_iff_forall_mem] at hc ⊢
     intro x hx
     obtain ⟨xs,hxs,hx⟩:=Array.mem_flatten.1 hx
     rw [Array.mem_replicate] at hxs
     rw [hxs.2] at hx
     exact hc x hx
    exact ⟨clear_agg hall,hall⟩
 | struct fs=>exact good_struct hg h
 | _=>cases h
theorem good_infoAt (T:Tables) (ht:∀ i∈T.types,goodInfo i=true):∀ (f:Nat) (t:TypeId) (i:TypeInfo),Made.infoAt T f t=some i→goodInfo i=true:=by
 intro f
 induction f with
 | zero=>intro t i h;cases h
 | succ f ih =>
  intro t i h
  simp only [Made.infoAt] at h
  split at h
  ·exact ht i (Array.mem_of_getElem? h)
  ·obtain ⟨d,_,h⟩:=Option.bind_eq_some_iff.1 h
   exact good_reckon ih h
theorem good_info (P:Program) (ht:P.types.all goodInfo=true) (t:TypeId) (i:TypeInfo) (h:P.info? t=some i):goodInfo i=true:=by
 have ht':∀ i∈P.types,goodInfo i=true:=Array.all_eq_true_iff_forall_mem.1 ht
 unfold Tables.info? at h
 split at h
 ·exact ht' i (Array.mem_of_getElem? h)
 ·exact good_infoAt _ ht' _ t i h
theorem zeros_of [Scope] (P:Program) (ht:P.types.all goodInfo=true) (hb:P.globals.size≤Scope.base) (hc:∀ t,Scope.cells t=P.cellsOf t):Zeros P :=
 ⟨fun t i z h hz=>((goodInfo_iff.1 (good_info P ht t i h)).1 z hz).1,hb,hc,fun t i h=>(goodInfo_iff.1 (good_info P ht t i h)).2⟩
def okFunc [Scope] (P:Program) (f:FuncId):Bool :=
 match P.funcs[f]? with
 | some fn=>!(fn.name == "runtime.NumGoroutine") && (match fn.body with | some c=>okCode P c | none=>false)
 | none=>false
theorem codes_of [Scope] (P:Program) (l:List FuncId) (hl:∀ f,Scope.ok f=true→f∈l) (h:l.all (okFunc P)=true):Codes P:=by
 have hall:=List.all_eq_true.1 h
 refine { body:=fun f hf=>?_,code:=fun f fn c hf e hb=>?_ }
 ·have:=hall f (hl f hf)
  unfold okFunc at this
  cases e:P.funcs[f]? with
  | none=>rw [e] at this;cases this
  | some fn =>
   rw [e] at this
   simp only [Bool.and_eq_true,Bool.not_eq_true'] at this
   refine ⟨fn,rfl,this.1,?_⟩
   cases hb:fn.body with
   | none=>rw [hb] at this;cases this.2
   | some c=>rfl
 ·have:=hall f (hl f hf)
  unfold okFunc at this
  rw [e] at this
  simp only [hb,Bool.and_eq_true] at this
  exact this.2
end Go.Proofs.YtjnkcibpkkjniaaGreat.Sim
