import Derived.Test.YtjnkcibpkkjniaaGreatA00
import Derived.Test.YtjnkcibpkkjniaaGreatA05
import Derived.Test.YtjnkcibpkkjniaaGreatA07
import Derived.Conc.CrowdSel
import Derived.Conc.CompanyDraw
import Derived.Test.YtjnkcibpkkjniaaGreatChecked
import Derived.Conc.BesideWords
import Derived.Laws.Build
import Derived.Laws.ByValue
set_option linter.all false
set_option maxHeartbeats 4000000
set_option maxRecDepth 100000
namespace Go.Proofs.YtjnkcibpkkjniaaGreat
def gU:=@Go.Conc.offersAt_of_not_blocked
end Go.Proofs.YtjnkcibpkkjniaaGreat
namespace Go.Proofs.YtjnkcibpkkjniaaGreat.kj
section
open Go.Conc Go.ConcN Go.Proofs.YtjnkcibpkkjniaaGreat.j7
open Go.ConcR (KK wgBlock WgAt stA smA rd wr mk DC0)
section
variable {P:Program} {main:Bool} {R:World→World→Prop} {D D':World→World→Array Event→Prop} {S1 S2:Goroutine→World→Prop}
theorem Goes.u7(m:∀w w' es,D w w' es→D' w w' es):∀{n:Nat}{g:Goroutine}{w:World},Goes P main R D S1 n g w→Goes P main R D' S1 n g w:=by
 intro n
 induction n with
 |zero=>intro g w h;exact h
 |succ n r =>
  intro g w h;rcases h with h|⟨u,h⟩
  ·exact .inl h
  ·refine .inr ⟨u,fun w₁ e=>?_⟩;have:=h w₁ e;revert this
   cases stepG P main g w₁<;>simp only[GStep.goes,imp_self]
   exact fun⟨d,x⟩=>⟨m _ _ _ d,r x⟩
theorem Goes.bind(refl:∀w,R w w){m2:Nat}(m:∀g w,S1 g w→Goes P main R D S2 m2 g w):∀{n:Nat}{g:Goroutine}{w:World},Goes P main R D S1 n g w→Goes P main R D S2 (n+m2) g w:=by
 intro n
 induction n with
 |zero=>intro g w h;rw[dB];exact m g w (h w (refl w))
 |succ n r =>
  intro g w h;rcases h with h|⟨u,h⟩
  ·exact Goes.mono (m g w (h w (refl w))) (by omega)
  ·rw[show n+1+m2=(n+m2)+1 by omega];refine .inr ⟨u,fun w₁ e=>?_⟩;have:=h w₁ e;revert this
   cases stepG P main g w₁<;>simp only[GStep.goes,imp_self]
   exact fun⟨d,x⟩=>⟨d,r x⟩
end
structure RK (ty:TypeId) (Wg:Nat) (S:Nat→Prop) (w w₁:World):Prop where
 keep:∀b,S b→w₁.heap[b]?=w.heap[b]?
 live:WgLive ty Wg w→WgLive ty Wg w₁
variable {ty:TypeId} {Wg:Nat} {S:Nat→Prop}
theorem RK.refl(w:World):RK ty Wg S w w:=⟨fun _ _=>rfl,id⟩
theorem RK.trans{ty:TypeId}{Wg:Nat}{S:Nat→Prop}(a b c:World)(h:RK ty Wg S a b)(k:RK ty Wg S b c):RK ty Wg S a c:=⟨fun x hx=>(k.keep x hx).trans (h.keep x hx),fun e=>k.live (h.live e)⟩
theorem RK.at(w:World)(d:Nat):RK ty Wg S w (w.at d):=⟨fun _ _=>rfl,id⟩
def DQ (S:Nat→Prop) (w w':World) (es:Array Event):Prop:=(∃d,w'=w.at d)∧∀e∈es,∃a:Addr,e=⟨.cell a,false,false⟩∧S a.block
variable {w w':World}
theorem DQ.pF{es:Array Event}(h:DC0 w w' es):DQ S w w' es:=by
 obtain⟨rfl,rfl⟩:=h;exact⟨⟨_,rfl⟩,by simp⟩
structure mE where
 B:Nat
 n:Nat
 Wg:Nat
 CB:Nat
 CF:Nat
 ty:TypeId
 z:Value
structure IW where
 S:Nat→Prop
 f:FuncId
 args:Array Value
 lF:Array Value
 wS:World
 ok:Value→Prop
 msg:Value→Value
variable [Scope]
structure lC extends IW where
 ρ:jR
 R:Value→World→Prop
structure lC.Good (P:Program) (J:lC):Prop where
 Cj:Scope.ok J.f=true
 rel:jW J.ρ J.args J.lF
 calls:∀T,Calls P J.f J.args { J.wS with tape:=T,drawn:=0 } fun e w'=>∃v,e=.returned v∧J.R v w'
 shape:∀v w ρ v',J.R v w→VR ρ v v'→J.ok v'
def Leaves (ρ:jR) (w w':World):Prop:=∀b p,ρ b=some p→match p.part with
 |none=>w'.heap[p.block]?=w.heap[p.block]?
 |some x=>∀C E,w.heap[p.block]?=some (.cells C E (0,0))→∃C',w'.heap[p.block]?=some (.cells C' E (0,0))∧C'.size=C.size∧∀i:Nat,x.start≤i→i<x.start+x.len→C'[i]?=C[i]?
theorem Leaves.refl(ρ:jR)(w:World):Leaves ρ w w:=by
 intro b p h;split
 ·rfl
 ·exact fun C E e=>⟨C,e,rfl,fun _ _ _=>rfl⟩
theorem Leaves.of_heap{ρ:jR}(h:w'.heap=w.heap):Leaves ρ w w':=by
 intro b p hb;rw[h];exact Leaves.refl ρ w b p hb
theorem Leaves.block{ρ:jR}{w w':World}(h:∀b p,ρ b=some p→w'.heap[p.block]?=w.heap[p.block]?):Leaves ρ w w':=by
 intro b p hb;rw[h b p hb];exact Leaves.refl ρ w b p hb
theorem Leaves.obj{ρ:jR}{w w':World}(r:Scope.sync=false)(h:Leaves ρ w w'){b:Nat}{p:j7.Place}{o o':Obj}(hb:ρ b=some p)(u:w.heap[p.block]?=some o)(m:lR ρ p o' o):∃y,w'.heap[p.block]?=some y∧lR ρ p o' y:=by
 have:=h b p hb;unfold lR at m ⊢;split at this
 ·rename_i e;rw[e]at m ⊢;exact⟨o,this.trans u,m⟩
 ·rename_i x e;rw[e]at m ⊢;rcases m with⟨z,_⟩|⟨c,C,rfl,rfl,hd,hp⟩
  ·rw[r]at z;cases z
  obtain⟨C',F,A,G⟩:=this C _ u;refine⟨_,F,.inr ⟨c,C',rfl,rfl,⟨hd.1,A.trans hd.2⟩,hp.size,by rw[A];exact hp.room,fun i v E=>?_⟩⟩;have H:i<x.len:=by have:=(dp.1 E).1;rw[hp.size]at this;exact this
  obtain⟨v',k1,k2⟩:=hp.get i v E;exact⟨v',by rw[G (x.start+i) (by omega) (by omega)];exact k1,k2⟩
theorem HR.leaves{ρ:jR}{wS w w':World}(m:Scope.sync=false)(h:HR ρ wS w)(u:Leaves ρ w w')(r:w'.os=w.os):HR ρ wS w' :=
 ⟨fun b p hb=>by
  obtain⟨o,o',y,z,A⟩:=h.obj b p hb;obtain⟨C,k1,k2⟩:=Leaves.obj m u hb z A;exact⟨o,C,y,k1,k2⟩,h.inj,h.base,r.trans h.os,fun e=>by rw[m]at e;cases e⟩
theorem mV.leaves{P:Program}{m0:Machine}{K:Nat}{T:Tape}{ρ:jR}{cs:List Frame}{k D:Nat}{gS g:Goroutine}{wS w w':World}(e:Scope.sync=false)(h:mV P m0 K T ρ cs k D gS wS g w)(r:Leaves ρ w w')(m:w'.os=w.os):mV P m0 K T ρ cs k D gS wS g w' :=
 ⟨h.run,h.gr,HR.leaves e h.hr r m,h.tape,h.drawn,h.le⟩
structure WD where
 stage:Nat
 fuel:Nat
 deaf:Nat
 ρ:jR
 v:Value
section
variable (P:Program) (N:mE)
def AtSend (S:Nat→Prop) (v:Value) (g:Goroutine) (w:World):Prop :=
 g.status=.running∧stepG P false g w=.comm g #[scase N.CB v N.z] true .send w #[]∧∃m,Goes P false (RK N.ty N.Wg S) (DQ S) (u6 P false (RK N.ty N.Wg S) N.ty N.Wg) m (Go.Conc.served g undef) w
def vM (J:lC) (c:Frame) (cs:List Frame) (w:World):Prop :=
 ∀v',J.ok v'→∃m,Goes P false (RK N.ty N.Wg J.S) (DQ J.S) (AtSend P N J.S (J.msg v')) m { frame:=c.finish v',callers:=cs,status:=.running,dying:=none } w
def xM (J:lC) (g:Goroutine) (w:World):Prop :=
 g.status=.running∧∃c cs,(∀w₁,RK N.ty N.Wg J.S w w₁→stepG P false g w₁=.go { frame:=Frame.enter P J.f J.lF .normal,callers:=c::cs,status:=.running,dying:=none } w₁ #[])∧vM P N J c cs w
def Gn (J:lC) (ρ:jR):Prop:=J.ρ.le ρ∧∀b p,ρ b=some p→J.ρ b=some p∨(p.part=none∧Scope.base≤p.block)
theorem Gn.refl(J:lC):Gn J J.ρ:=⟨jR.le_refl _,fun _ _ h=>.inl h⟩
theorem Gn.grow{J:lC}{ρ ρ':jR}{w:World}(h:Gn J ρ)(e:Scope.base≤w.heap.size)(g:Grow ρ w ρ'):Gn J ρ' :=
 ⟨jR.le_trans h.1 g.le,fun b p hb=>by
  rcases g.new b p hb with k|⟨k,k2⟩
  ·exact h.2 b p k
  ·exact .inr ⟨k,by omega⟩⟩
def Done (J:lC) (ρ:jR) (v':Value) (w:World):Prop:=J.ok v'∧Gn J ρ∧∃v wE,HR ρ wE w∧VR ρ v v'∧J.R v wE
def zu (J:lC) (T:Tape):Machine:=lone (Frame.enter P J.f J.args .normal) [cap P] { J.wS with tape:=T,drawn:=0 }
variable (pk:Machine→Nat×Nat×Option (Nat×Nat)) (m0:Machine) (t0:Trace) (Gt:Nat→Tape) (J:Nat→lC)
inductive WSit (i n:Nat):WD→Goroutine→World→Prop
 |pre {m:Nat} {g:Goroutine} {w:World}:Goes P false (RK N.ty N.Wg (J i).S) (DQ (J i).S) (xM P N (J i)) m g w→HR (J i).ρ (J i).wS w→WSit i n ⟨10,m,0,(J i).ρ,undef⟩ g w
 |rE {k K d0 D:Nat} {T:Tape} {ρ:jR} {c:Frame} {cs:List Frame} {gS g:Goroutine} {wS w wE:World} {nT:Frame} {v:Value} :
   T=(fun x q=>Gt i (d0+x) q)→d0+D=kp (kr P pk (N.B+i) m0 t0) n→uU P (zu P (J i) T) K nT wE→nT.leaving P wE (.returned v)→(J i).R v wE →
   mV P (zu P (J i) T) K T ρ (c::cs) k D gS wS g w→vM P N (J i) c cs w→Gn (J i) ρ→WSit i n ⟨9,K-k,0,ρ,undef⟩ g w
 |post {m:Nat} {ρ:jR} {v':Value} {g:Goroutine} {w:World}:Goes P false (RK N.ty N.Wg (J i).S) (DQ (J i).S) (AtSend P N (J i).S ((J i).msg v')) m g w→Done (J i) ρ v' w→WSit i n ⟨8,m,0,ρ,v'⟩ g w
 |r0 {m:Nat} {ρ:jR} {v':Value} {g:Goroutine} {w:World}:Goes P false (RK N.ty N.Wg (J i).S) (DQ (J i).S) (u6 P false (RK N.ty N.Wg (J i).S) N.ty N.Wg) m g w→Done (J i) ρ v' w→WSit i n ⟨7,m,0,ρ,v'⟩ g w
 |k1 {m:Nat} {ρ:jR} {v':Value} {g:Goroutine} {w:World}:Goes P false (RK N.ty N.Wg (J i).S) DC0 (Ci P false (RK N.ty N.Wg (J i).S) N.ty N.Wg) m g w→Done (J i) ρ v' w→WSit i n ⟨6,m,0,ρ,v'⟩ g w
 |d1 {m:Nat} {ρ:jR} {v':Value} {g:Goroutine} {w:World}:Goes P false (RK N.ty N.Wg (J i).S) DC0 (Ch P false (RK N.ty N.Wg (J i).S) N.ty N.Wg) m g w→Done (J i) ρ v' w→WSit i n ⟨5,m,1,ρ,v'⟩ g w
 |d2 {m:Nat} {ρ:jR} {v':Value} {g:Goroutine} {w:World}:Goes P false (RK N.ty N.Wg (J i).S) DC0 (Cg P false (RK N.ty N.Wg (J i).S) N.ty N.Wg) m g w→Done (J i) ρ v' w→WSit i n ⟨4,m,1,ρ,v'⟩ g w
 |d3 {m:Nat} {ρ:jR} {v':Value} {g:Goroutine} {w:World}:Goes P false (RK N.ty N.Wg (J i).S) DC0 (Cf P false (RK N.ty N.Wg (J i).S) N.ty N.Wg) m g w→Done (J i) ρ v' w→WSit i n ⟨3,m,1,ρ,v'⟩ g w
 |d4 {m:Nat} {ρ:jR} {v':Value} {g:Goroutine} {w:World}:Goes P false (RK N.ty N.Wg (J i).S) DC0 (Ce P false N.ty N.Wg) m g w→Done (J i) ρ v' w→WSit i n ⟨2,m,1,ρ,v'⟩ g w
 |quit {q d:Nat} {ρ:jR} {v':Value} {g:Goroutine} {w:World}:QuitsD P q d g→Done (J i) ρ v' w→WSit i n ⟨1,q,d,ρ,v'⟩ g w
end
section
variable {P:Program} {N:mE} {pk:Machine→Nat×Nat×Option (Nat×Nat)} {m0:Machine} {t0:Trace} {Gt:Nat→Tape} {J:Nat→lC} {i n:Nat} {d:WD} {g:Goroutine} {w w₁:World}
theorem Done.leaves(e:Scope.sync=false){J:lC}{ρ:jR}{v':Value}(h:Done J ρ v' w)(r:Leaves ρ w w₁)(m:w₁.os=w.os):Done J ρ v' w₁:=by
 obtain⟨u,y,v,wE,z,A,C⟩:=h;exact⟨u,y,v,wE,HR.leaves e z r m,A,C⟩
theorem vM.rely{J:lC}{c:Frame}{cs:List Frame}(h:vM P N J c cs w)(hr:RK N.ty N.Wg J.S w w₁):vM P N J c cs w₁:=fun v' e=>by
 obtain⟨m,hm⟩:=h v' e;exact⟨m,fW RK.trans hm hr⟩
theorem WSit.rely(e:Scope.sync=false){n':Nat}(z:kp (kr P pk (N.B+i) m0 t0) n'=kp (kr P pk (N.B+i) m0 t0) n)(h:WSit P N pk m0 t0 Gt J i n d g w)(hr:RK N.ty N.Wg (J i).S w w₁)(y:Leaves d.ρ w w₁)(m:w₁.os=w.os):WSit P N pk m0 t0 Gt J i n' d g w₁:=by
 cases h with
 |pre r u=>exact .pre (fW RK.trans r hr) (HR.leaves e u y m)
 |rE r u A C E F G H=>exact .rE r (u.trans z.symm) A C E (mV.leaves e F y m) (G.rely hr) H
 |post r u=>exact .post (fW RK.trans r hr) (u.leaves e y m)
 |r0 r u=>exact .r0 (fW RK.trans r hr) (u.leaves e y m)
 |k1 r u=>exact .k1 (fW RK.trans r hr) (u.leaves e y m)
 |d1 r u=>exact .d1 (fW RK.trans r hr) (u.leaves e y m)
 |d2 r u=>exact .d2 (fW RK.trans r hr) (u.leaves e y m)
 |d3 r u=>exact .d3 (fW RK.trans r hr) (u.leaves e y m)
 |d4 r u=>exact .d4 (fW RK.trans r hr) (u.leaves e y m)
 |quit r u=>exact .quit r (u.leaves e y m)
theorem WSit.status(h:WSit P N pk m0 t0 Gt J i n d g w):g.status=.running∨g.status=.finished:=by
 cases h with
 |pre e _=>exact .inl (fX (fun _ _ x=>x.1) w (RK.refl w) e)
 |rE _ _ _ _ _ m _ _=>exact .inl m.gr.status.2
 |post e _=>exact .inl (fX (fun _ _ x=>x.1) w (RK.refl w) e)
 |r0 e _=>exact .inl (fX (fun _ _ x=>x.1) w (RK.refl w) e)
 |k1 e _=>exact .inl (fX (fun _ _ x=>x.1) w (RK.refl w) e)
 |d1 e _=>exact .inl (fX (fun _ _ x=>x.1) w (RK.refl w) e)
 |d2 e _=>exact .inl (fX (fun _ _ x=>x.1) w (RK.refl w) e)
 |d3 e _=>exact .inl (fX (fun _ _ x=>x.1) w (RK.refl w) e)
 |d4 e _=>exact .inl (fX (fun _ _ x=>x.1) w (RK.refl w) e)
 |quit e _=>exact e.status
theorem WSit.runs(h:WSit P N pk m0 t0 Gt J i n d g w)(hd:d.stage≠1):g.status=.running:=by
 cases h with
 |pre e _=>exact fX (fun _ _ x=>x.1) w (RK.refl w) e
 |rE _ _ _ _ _ m _ _=>exact m.gr.status.2
 |post e _=>exact fX (fun _ _ x=>x.1) w (RK.refl w) e
 |r0 e _=>exact fX (fun _ _ x=>x.1) w (RK.refl w) e
 |k1 e _=>exact fX (fun _ _ x=>x.1) w (RK.refl w) e
 |d1 e _=>exact fX (fun _ _ x=>x.1) w (RK.refl w) e
 |d2 e _=>exact fX (fun _ _ x=>x.1) w (RK.refl w) e
 |d3 e _=>exact fX (fun _ _ x=>x.1) w (RK.refl w) e
 |d4 e _=>exact fX (fun _ _ x=>x.1) w (RK.refl w) e
 |quit _ _=>exact absurd rfl hd
theorem WSit.woken(h:WSit P N pk m0 t0 Gt J i n d g w)(a a':Goroutine)(w':World):woken P a a' w' g=g:=by
 unfold Go.Conc.woken;split
 ·exact again_running _ h.status
 ·rfl
theorem WSit.IX(h:WSit P N pk m0 t0 Gt J i n d g w):6≤d.stage→d.deaf=0:=by cases h<;>simp
theorem WSit.done(h:WSit P N pk m0 t0 Gt J i n d g w):d.stage≤8→Done (J i) d.ρ d.v w:=by cases h<;>simp<;>assumption
end
inductive Tg where
 |sp|kd|anch|w1|w2 (vs:Nat)|wr|w3|blk|w4|ke|acq|cl|qt
def phi (n v:Nat):Tg→Nat
 | .sp=>0
 | .kd=>8*n+7
 | .anch=>8*v+6
 | .w1=>8*v+5
 | .w2 vs=>8*vs+4
 | .wr=>11
 | .w3=>10
 | .blk=>10
 | .w4=>9
 | .ke=>4
 | .acq=>3
 | .cl=>2
 | .qt=>1
section
variable (P:Program) (N:mE) (Sc:Nat→Prop) (lM:Goroutine→World→Prop)
def AtClose (g:Goroutine) (w:World):Prop :=
 g.status=.running∧mayWake P g=true∧(w.heap[N.CF]?=some (.chan 0 #[] false 0 0 false)→∃g',stepG P false g w=.go g' (w.setChan N.CF 0 #[] true 0 0 false) #[⟨.obj N.CF,false,true⟩,⟨.obj N.CF,true,true⟩]∧∃q,QuitsD P q 0 g')
def Nx (m:Nat) (g:Goroutine) (w:World):Prop:=Goes P false (RK N.ty N.Wg Sc) (DQ Sc) (AtClose P N) m g w
inductive CSit (mC:Nat):Tg→Nat→Nat→Goroutine→World→Prop
 |kd {m:Nat} {g:Goroutine} {w:World}:Goes P false (RK N.ty N.Wg Sc) (DQ Sc) (oy P false (RK N.ty N.Wg Sc) (mk .disable) lM) m g w→CSit mC .kd m 0 g w
 |anch {m:Nat} {g:Goroutine} {w:World}:Goes P false (RK N.ty N.Wg Sc) DC0 lM m g w→CSit mC .anch m 1 g w
 |w1 {m:Nat} {g:Goroutine} {w:World}:Goes P false (RK N.ty N.Wg Sc) DC0 (vL P false (RK N.ty N.Wg Sc) N.ty N.Wg lM (Nx P N Sc mC)) m g w→CSit mC .w1 m 1 g w
 |w2 {vs m:Nat} {g:Goroutine} {w:World}:Goes P false (RK N.ty N.Wg Sc) DC0 (Cd P false (RK N.ty N.Wg Sc) N.ty N.Wg lM (Nx P N Sc mC) vs) m g w→CSit mC (.w2 vs) m 1 g w
 |wr {m:Nat} {g:Goroutine} {w:World}:Goes P false (RK N.ty N.Wg Sc) DC0 (Cc P false (RK N.ty N.Wg Sc) N.ty N.Wg (Nx P N Sc mC)) m g w→CSit mC .wr m 1 g w
 |w3 {m:Nat} {g:Goroutine} {w:World}:Goes P false (RK N.ty N.Wg Sc) DC0 (zt P false (RK N.ty N.Wg Sc) N.ty N.Wg (Nx P N Sc mC)) m g w→CSit mC .w3 (m+1) 1 g w
 |blk {g:Goroutine} {w:World}:(∀w₁,(RK N.ty N.Wg Sc) w w₁→zt P false (RK N.ty N.Wg Sc) N.ty N.Wg (Nx P N Sc mC) g w₁)→CSit mC .blk 0 1 { g with status:=.blocked } w
 |w4 {m:Nat} {g:Goroutine} {w:World}:Goes P false (RK N.ty N.Wg Sc) DC0 (Cb P false (RK N.ty N.Wg Sc) N.ty N.Wg (Nx P N Sc mC)) m g w→CSit mC .w4 m 1 g w
 |ke {m:Nat} {g:Goroutine} {w:World}:Goes P false (RK N.ty N.Wg Sc) DC0 (zr P false (RK N.ty N.Wg Sc) N.Wg (Nx P N Sc mC)) m g w→CSit mC .ke m 1 g w
 |acq {m:Nat} {g:Goroutine} {w:World}:Goes P false (RK N.ty N.Wg Sc) DC0 (oy P false (RK N.ty N.Wg Sc) (mk (.acquire (stA N.Wg))) (Nx P N Sc mC)) m g w→CSit mC .acq m 0 g w
 |cl {m:Nat} {g:Goroutine} {w:World}:Goes P false (RK N.ty N.Wg Sc) (DQ Sc) (AtClose P N) m g w→CSit mC .cl m 0 g w
 |qt {q d:Nat} {g:Goroutine} {w:World}:QuitsD P q d g→CSit mC .qt q d g w
end
section
variable {P:Program} {N:mE} {Sc:Nat→Prop} {lM:Goroutine→World→Prop} {mC:Nat} {tag:Tg} {f d:Nat} {a:Goroutine} {w w':World}
theorem CSit.rely(h:CSit P N Sc lM mC tag f d a w)(hr:RK N.ty N.Wg Sc w w'):CSit P N Sc lM mC tag f d a w':=by
 have tr:=@RK.trans N.ty N.Wg Sc
 cases h with
 |kd h=>exact .kd (fW tr h hr)
 |anch h=>exact .anch (fW tr h hr)
 |w1 h=>exact .w1 (fW tr h hr)
 |w2 h=>exact .w2 (fW tr h hr)
 |wr h=>exact .wr (fW tr h hr)
 |w3 h=>exact .w3 (fW tr h hr)
 |blk h=>exact .blk (fun e m=>h e (tr _ _ _ hr m))
 |w4 h=>exact .w4 (fW tr h hr)
 |ke h=>exact .ke (fW tr h hr)
 |acq h=>exact .acq (fW tr h hr)
 |cl h=>exact .cl (fW tr h hr)
 |qt h=>exact .qt h
theorem CSit.status(m:∀g w,lM g w→g.status=.running)(h:CSit P N Sc lM mC tag f d a w):(a.status=.running∧tag≠.blk)∨(a.status=.blocked∧tag=.blk)∨(a.status=.finished∧tag=.qt):=by
 cases h with
 |kd h=>exact .inl ⟨fX (fun _ _ x=>x.1) w (.refl w) h,by simp⟩
 |anch h=>exact .inl ⟨fX m w (.refl w) h,by simp⟩
 |w1 h=>exact .inl ⟨fX (fun _ _ x=>x.1) w (.refl w) h,by simp⟩
 |w2 h=>exact .inl ⟨fX (fun _ _ x=>x.1) w (.refl w) h,by simp⟩
 |wr h=>exact .inl ⟨fX (fun _ _ x=>x.1) w (.refl w) h,by simp⟩
 |w3 h=>exact .inl ⟨fX (fun _ _ x=>x.1) w (.refl w) h,by simp⟩
 |blk h=>exact .inr (.inl ⟨rfl,rfl⟩)
 |w4 h=>exact .inl ⟨fX (fun _ _ x=>x.1) w (.refl w) h,by simp⟩
 |ke h=>exact .inl ⟨fX (fun _ _ x=>x.1) w (.refl w) h,by simp⟩
 |acq h=>exact .inl ⟨fX (fun _ _ x=>x.1) w (.refl w) h,by simp⟩
 |cl h=>exact .inl ⟨fX (fun _ _ x=>x.1) w (.refl w) h,by simp⟩
 |qt h=>exact h.status.elim (fun e=>.inl ⟨e,by simp⟩) fun e=>.inr (.inr ⟨e,rfl⟩)
theorem CSit.wokenBy(e:∀g w,lM g w→g.status=.running)(h:CSit P N Sc lM mC tag f d a w)(hr:RK N.ty N.Wg Sc w w')(g g':Goroutine):∃tag' u,CSit P N Sc lM mC tag' u d (woken P g g' w' a) w'∧u≤f+1∧(tag'=tag∨(tag=.blk∧tag'=.w3))∧(mayWake P g=true→g'.status=.running→tag'≠.blk):=by
 have h':=h.rely hr;unfold Go.Conc.woken;split
 ·rcases h'.status e with⟨m,r⟩|⟨_,rfl⟩|⟨m,rfl⟩
  ·exact⟨tag,f,by rw[again_running _ (.inl m)];exact h',by omega,.inl rfl,fun _ _=>r⟩
  ·cases h' with
   |blk hb =>
    rename_i g0;have y:=hb w' (.refl w');exact⟨.w3,0+1,by rw[Go.ConcR.again_blocked y.1 y.2.1];exact .w3 (fM hb),by omega,.inr ⟨rfl,rfl⟩,fun _ _=>by simp⟩
  ·exact⟨.qt,f,by rw[again_running _ (.inr m)];exact h',by omega,.inl rfl,fun _ _=>by simp⟩
 ·rename_i z;exact⟨tag,f,h',by omega,.inl rfl,fun A C=>absurd (by simp[A,C]) z⟩
end
def cnt (d:WD):Nat:=if 5≤d.stage then 1 else 0
def Vc (j:Nat) (D:Nat→WD):Nat:=sumTo j fun i=>cnt (D i)
def Ssum (j:Nat) (D:Nat→WD):Nat:=sumTo j fun i=>(D i).stage
def Fsum (j:Nat) (D:Nat→WD):Nat:=sumTo j fun i=>(D i).fuel
def isOpen:Tg→Prop
 | .sp | .kd | .anch | .w1 | .w2 _=>True
 |_=>False
def isW3:Tg→Prop
 | .wr | .w3 | .blk=>True
 |_=>False
def isFin:Tg→Prop
 | .w4 | .ke | .acq | .cl | .qt=>True
 |_=>False
def OpenSt (j:Nat) (D:Nat→WD):Prop:=∀i,i<j→5≤(D i).stage∨(D i).stage=1
def AllQuit (j:Nat) (D:Nat→WD):Prop:=∀i,i<j→(D i).stage=1
inductive Mode (j p:Nat) (D:Nat→WD):Tg→Int→Int→Prop
 |opn {tag:Tg}:isOpen tag→OpenSt j D→(∀vs,tag=.w2 vs→Vc j D≤vs∧1≤vs)→Mode j p D tag (((Vc j D+p:Nat):Int)*KK) 0
 |reg {tag:Tg}:isW3 tag→p=0→OpenSt j D→1≤Vc j D→Mode j p D tag (((Vc j D:Nat):Int)*KK+1) 0
 |last {tag:Tg} (L:Nat):isW3 tag→p=0→L<j→((D L).stage=4∨(D L).stage=3∨(D L).stage=2)→(∀i,i<j→i≠L→(D i).stage=1)→Mode j p D tag (if(D L).stage=2 then 0 else 1) 0
 |sema {tag:Tg}:(tag=.w3∨tag=.wr)→p=0→AllQuit j D→Mode j p D tag 0 1
 |fin {tag:Tg}:isFin tag→p=0→AllQuit j D→Mode j p D tag 0 0
theorem phi_mono(n:Nat){v v':Nat}(h:v'≤v)(tag:Tg):phi n v' tag≤phi n v tag:=by
 cases tag<;>simp only[phi]<;>omega
variable {tag tag':Tg}
theorem phi_retag(n v:Nat)(e:tag'=tag∨(tag=.blk∧tag'=.w3)):phi n v tag'=phi n v tag:=by
 rcases e with rfl|⟨rfl,rfl⟩<;>rfl
variable {j p:Nat} {D:Nat→WD} {st sm:Int}
theorem Mode.retag(h:Mode j p D tag st sm)(e:tag'=tag∨(tag=.blk∧tag'=.w3)):Mode j p D tag' st sm:=by
 rcases e with rfl|⟨rfl,rfl⟩
 ·exact h
 ·cases h with
  |opn m _ _=>exact m.elim
  |reg _ r u y=>exact .reg trivial r u y
  |last L _ r u y z=>exact .last L trivial r u y z
  |sema h _ _=>rcases h with h|h<;>cases h
  |fin m _=>exact m.elim
variable {i:Nat}
theorem Vc_upd(D:Nat→WD)(x:WD)(e:i<j):Vc j (upd D i x)+cnt (D i)=Vc j D+cnt x:=fb D x cnt e
theorem Vc_le(j:Nat)(D:Nat→WD):Vc j D≤j:=by
 have:=sumTo_le (f:=fun i=>cnt (D i)) (c:=1) (j:=j) fun i _=>by simp only[cnt];split<;>omega
 simpa[Vc]using this
theorem IY(h:Vc j D=0)(m:OpenSt j D):AllQuit j D:=by
 intro i e;have:=le_sumTo (f:=fun i=>cnt (D i)) e;rw[show sumTo j (fun i=>cnt (D i))=Vc j D from rfl,h]at this;rcases m i e with r|u
 ·simp only[cnt,r,dg]at this;omega
 ·exact u
theorem IZ(h:AllQuit j D):Vc j D=0:=by
 have:Vc j D=sumTo j fun _=>0:=sumTo_congr fun i e=>by simp[cnt,h i e]
 rw[this];have:=sumTo_le (f:=fun _=>0) (c:=0) (j:=j) fun _ _=>dx _
 omega
theorem Mode.congr{D':Nat→WD}(h:∀a,a<j→(D' a).stage=(D a).stage)(hm:Mode j p D tag st sm):Mode j p D' tag st sm:=by
 have A:Vc j D'=Vc j D:=sumTo_congr fun a m=>by simp only[cnt,h a m]
 cases hm with
 |opn u r z=>rw[←A];exact .opn u (fun a m=>by rw[h a m];exact r a m) (fun vs e=>by rw[A];exact z vs e)
 |reg u y r z=>rw[←A];exact .reg u y (fun a m=>by rw[h a m];exact r a m) (by rw[A];exact z)
 |last L u y r z C=>rw[←h L r];exact .last L u y r (by rw[h L r];exact z) (fun a m e=>by rw[h a m];exact C a m e)
 |sema u y r=>exact .sema u y fun a m=>by rw[h a m];exact r a m
 |fin u y r=>exact .fin u y fun a m=>by rw[h a m];exact r a m
theorem Mode.counted(hm:Mode j p D tag st sm)(r:i<j)(F:5≤(D i).stage){x:WD}(A:5≤x.stage):Mode j p (upd D i x) tag st sm:=by
 have u:Vc j (upd D i x)=Vc j D:=by
  have:=Vc_upd D x r;have c1:cnt (D i)=1:=by simp[cnt,F]
  have c2:cnt x=1:=by simp[cnt,A]
  omega
 have C:OpenSt j D→OpenSt j (upd D i x):=fun h a G=>by
  by_cases e:a=i
  ·subst e;rw[fg];exact .inl A
  ·rw[fi D _ e];exact h a G
 cases hm with
 |opn y m z=>rw[←u];exact .opn y (C m) (fun vs e=>by rw[u];exact z vs e)
 |reg y E m z=>rw[←u];exact .reg y E (C m) (by rw[u];exact z)
 |last L y E m z H =>
  by_cases e:i=L
  ·subst e;omega
  ·have:=H i r e;omega
 |sema _ _ m=>have:=m i r;omega
 |fin _ _ m=>have:=m i r;omega
theorem Mode.isLast(hm:Mode j p D tag st sm)(r:i<j)(h:(D i).stage=4∨(D i).stage=3∨(D i).stage=2):isW3 tag∧p=0∧(∀a,a<j→a≠i→(D a).stage=1)∧st=(if(D i).stage=2 then 0 else 1)∧sm=0:=by
 cases hm with
 |opn _ m _=>have:=m i r;omega
 |reg _ _ m _=>have:=m i r;omega
 |last L y z m A u =>
  by_cases e:i=L
  ·subst e;exact⟨y,z,u,rfl,rfl⟩
  ·have:=u i r e;omega
 |sema _ _ m=>have:=m i r;omega
 |fin _ _ m=>have:=m i r;omega
theorem others_uncounted(h:i<j)(m:Vc j D=1)(y:cnt (D i)=1):∀a,a<j→a≠i→cnt (D a)=0:=by
 intro a r e;have u:=Vc_upd D (⟨0,0,0,fun _=>none,undef⟩:WD) h;have c0:cnt (⟨0,0,0,fun _=>none,undef⟩:WD)=0:=rfl;have:=le_sumTo (f:=fun x=>cnt (upd D i ⟨0,0,0,fun _=>none,undef⟩ x)) r;simp only[fi D _ e]at this;simp only[Vc]at u m;omega
end
section
open Go.Conc Go.ConcN
variable {P:Program} {main:Bool} {b:Frame} {a:Act} {k:List Item} {cs:List Frame} {w:World}
def mF (f:FuncId) (caps:Array Value):Value:=.func (.func f) #[] caps
def oP (f:FuncId) (caps:Array Value):Deferred:={ target:=.fn (.func f) caps,args:=#[] }
noncomputable def qq (P:Program):Frame:={ (default:Frame)with fn:=P.funcs.size,defers:=[],mode:=.panicking [goexitEntry] }
variable {ops:Array Oper} {i:Nat} {rest:List Nat} {o:Oper} {f:FuncId} {caps:Array Value} {x:Operand}
theorem I0(r:ops[i]?=some o)(hw:Region.wanted o (yielded ops a.tmps)=true)(y:b.kind≠.early)(e:o.op=.defer { callee:=.value x,args:=#[],argTypes:=#[] })(u:a.eval x=mF f caps):stepG P main (G (b.at a (.inRegion ops (i::rest)::k)) cs) w=.go (G (b.at (Act.put ⟨a.tmps,oP f caps::a.defers⟩ o.dst undef) (.inRegion ops rest::k)) cs) w #[]:=by
 have hr:(execOp a.eval o).run P w=.ok (.defer (oP f caps)) w:=by
  unfold execOp;simp[e,resolve,Deferred.ofValue,u,oP,mF]
 have he:(execOp a.eval o).events P w #[]=#[]:=by
  unfold execOp;simp[e,resolve,Deferred.ofValue,u,mF]
 have h:(b.at ⟨a.tmps,oP f caps::a.defers⟩ (.inRegion ops (i::rest)::k)).finish undef=b.at (Act.put ⟨a.tmps,oP f caps::a.defers⟩ o.dst undef) (.inRegion ops rest::k):=by rw[fl,r];rfl
 have m:(b.kind == CallKind.early)=false:=by simpa using y
 rw[stepG_oper r hw,←h];simp[stepG.apply,hr,he,G,Frame.at,m,GStep.after,fY]
variable {todo:List Item} {fn:Func} {c:Code}
theorem I1{ds:List Deferred}(hd:a.defers=oP f caps::ds)(h:P.funcs[f]?=some fn)(e:(fn.name == "runtime.NumGoroutine")=false)(hb:fn.body=some c):stepG P main (G { b.at a todo with mode:=.returning } cs) w =
   .go (G ((baseD f).at { tmps:=caps++Array.replicate (fn.ntmps-caps.size) undef,defers:=[] } [.code c]) ({ b.at ⟨a.tmps,ds⟩ todo with mode:=.returning }::cs)) w #[]:=by
 have m:¬fn.name = "runtime.NumGoroutine":=by simpa using e
 rw[←enter_atD caps h hb];simp[G,stepG,unwind,callDeferred,Frame.at,hd,oP,invoke,callFunc,h,m,hb,GStep.after,fY]
theorem I2{K:Goroutine→World→Array Event→Prop}(z:ops[i]?=some o)(hw:Region.wanted o (yielded ops a.tmps)=true)(A:b.kind≠.early)(m:o.op=.call { callee:=.value x,args:=#[],argTypes:=#[] })(u:a.eval x=mF f caps)(r:P.funcs[f]?=some fn)(e:(fn.name == "runtime.NumGoroutine")=false)(hb:fn.body=some c)(h:K (G ((base f).at { tmps:=caps++Array.replicate (fn.ntmps-caps.size) undef,defers:=[] } [.code c]) (b.at a (.inRegion ops (i::rest)::k)::cs)) w #[]):(stepG P main (G (b.at a (.inRegion ops (i::rest)::k)) cs) w).goes K:=by
 have y:¬fn.name = "runtime.NumGoroutine":=by simpa using e
 have hr:(execOp a.eval o).run P w=.ok (.enter f caps) w:=by
  unfold execOp;simp[m,resolve,Deferred.ofValue,u,mF,invoke,callFunc,r,y,hb]
 have he:(execOp a.eval o).events P w #[]=#[]:=by
  unfold execOp;simp[m,resolve,Deferred.ofValue,u,mF,invoke,callFunc,r,y,hb]
 rw[stepG_enter z hw A hr,enter_at _ r hb];have:listed P b.fn a o w=#[]:=by unfold listed;rw[he];exact fY P _
 rw[this];exact h
theorem Ck(h:P.funcs[f]?=some fn)(e:(fn.name == "runtime.NumGoroutine")=false)(hb:fn.body=some c):stepG P false (born P (oP f caps)) w=.go (G ((baseD f).at ⟨caps++Array.replicate (fn.ntmps-caps.size) undef,[]⟩ [.code c]) [qq P]) w #[]:=by
 have m:¬fn.name = "runtime.NumGoroutine":=by simpa using e
 rw[←enter_atD caps h hb];simp[born,oP,stepG,unwind,callDeferred,invoke,callFunc,h,m,hb,fY,GStep.after,G,qq]
theorem Cl{T:Array Value}(e:P.funcs[f]?=some fn)(hr:fn.results=#[]):QuitsD P 2 0 (G { (baseD f).at ⟨T,[]⟩ todo with mode:=.returning } [qq P]):=by
 refine QuitsD.ctl (g':=G (qq P) []) rfl (fun w=>?_) ?_
 ·simp[G,stepG,unwind,doReturn,results,Frame.at,baseD,e,hr,fY,GStep.after,goexitEntry,qq]
 refine QuitsD.ctl (g':={ G (qq P) []with status:=.finished }) rfl (fun w=>?_) ⟨rfl,rfl⟩;simp[G,stepG,unwind,qq,goexitEntry,Frame.catches]
 try rfl
theorem I3{c:Frame}(e:a.defers=[])(h:P.funcs[f]?=some fn)(hr:fn.results=#[])(m:c.mode=.returning):stepG P main (G { (baseD f).at a todo with mode:=.returning } (c::cs)) w=.go (G c cs) w #[]:=by
 simp[G,stepG,unwind,doReturn,results,Frame.at,e,h,hr,m,fY,GStep.after,baseD]
theorem I4{c:Frame}(m:ops[i]?=some o)(hw:Region.wanted o (yielded ops a.tmps)=true)(e:o.op=.call { callee:=.builtin .recover,args:=#[],argTypes:=#[] })(r:c.mode=.returning):stepG P main (G ((baseD f).at a (.inRegion ops (i::rest)::k)) (c::cs)) w=.go (G ((baseD f).at (a.put o.dst .nilIface) (.inRegion ops rest::k)) (c::cs)) w #[]:=by
 have hr:(execOp a.eval o).run P w=.ok .recover w:=by
  unfold execOp;simp[e,resolve,invoke,builtin]
 have he:(execOp a.eval o).events P w #[]=#[]:=by
  unfold execOp;simp[e,resolve,invoke,builtin]
 have h:((baseD f).at a (.inRegion ops (i::rest)::k)).finish .nilIface=(baseD f).at (a.put o.dst .nilIface) (.inRegion ops rest::k):=by rw[fl,m];rfl
 rw[stepG_oper m hw,←h];simp[stepG.apply,hr,he,G,Frame.at,GStep.after,fY,baseD,tryRecover,r]
end
section
open Go.Conc
structure me (ops:Array Oper) (val:Nat→Value) (fix:List (Nat×Value)) (T:Nat) (listed:Array Bool) (a:Act):Prop where
 defers:a.defers=[]
 size:a.tmps.size=T
 fix:∀x∈fix,a.tmps[x.1]?=some x.2
 val:∀(i:Nat) o (d:Nat),ops[i]?=some o→listed.getD i false=true→o.dst=some d→a.tmps[d]?=some (val i)
 ky:listed.size=ops.size
 pU:∀(i:Nat) o,ops[i]?=some o→listed.getD i false=true→∀e∈o.after,Region.binds .any e=true→listed.getD e.on false=true
def kH (ops:Array Oper) (nf:List Nat) (T:Nat):Bool :=
 (List.range ops.size).all fun i=>match ops[i]? with
  |some o=>(match o.dst with
   |some d=>(!nf.contains d)&&decide (d<T)&&(List.range ops.size).all fun j=>decide (i=j) || decide (((ops[j]?).bind (·.dst))≠some d)
   |none=>true)&&o.after.all (fun e=>decide (e.on<i))&&o.guard.isNone
  |none=>true
variable {ops:Array Oper} {nf:List Nat} {T i:Nat}
theorem sR(h:kH ops nf T=true){o:Oper}(y:ops[i]?=some o):(∀d,o.dst=some d→d ∉ nf∧d<T∧∀(j:Nat) o',ops[j]?=some o'→o'.dst=some d→j=i)∧(∀e∈o.after,e.on<i)∧o.guard=none:=by
 have A:i<ops.size:=(dp.1 y).1;have:=ek.1 h i (fZ.2 A);simp only[y,eh]at this;obtain⟨⟨m,C⟩,E⟩:=this;refine⟨fun d hd=>?_,fun e he=>by simpa using(dv.1 C e he),by simpa using E⟩;rw[hd]at m;simp only[eh,ed]at m;refine⟨by have:=m.1.1;simpa using this,m.1.2,fun j o' z r=>?_⟩;have u:j<ops.size:=(dp.1 z).1;have:=ek.1 m.2 j (fZ.2 u);simp only[dZ,ed,z,dW,r]at this;rcases this with e|e
 ·exact e.symm
 ·exact absurd rfl e
theorem mg(l:Array Bool)(i j:Nat)(e:i<l.size)(d:Bool):(l.setIfInBounds i true).getD j d=if j=i then true else l.getD j d:=by
 rw[du,du,dr]
 by_cases h:i=j
 ·subst h;simp[e]
 ·simp[h,dE h]
theorem me.put{ops:Array Oper}{val m:Nat→Value}{fix:List (Nat×Value)}{T:Nat}(A:kH ops (fix.map (·.1)) T=true){listed:Array Bool}{a:Act}(h:me ops val fix T listed a){i:Nat}{o:Oper}(C:ops[i]?=some o){v:Value}(hr:i∈Region.ready .any ops listed)(L:m i=v)(E:∀j,listed.getD j false=true→m j=val j):me ops m fix T (listed.setIfInBounds i true) (a.put o.dst v):=by
 have K:i<ops.size:=(dp.1 C).1;obtain⟨F,_,_⟩:=sR A C;have G:(a.put o.dst v).tmps=match o.dst with|some d=>a.tmps.setIfInBounds d v|none=>a.tmps:=by cases hd:o.dst<;>rfl
 have M:(a.put o.dst v).defers=a.defers:=by cases hd:o.dst<;>rfl
 refine⟨M.trans h.defers,?_,fun x H=>?_,fun j o' d u r hd=>?_,by simpa using h.ky,fun j o' u r e he hb=>?_⟩
 ·rw[G];cases o.dst<;>simp[h.size]
 ·rw[G]
  cases hd:o.dst with
  |none=>exact h.fix x H
  |some d =>
   have y:d≠x.1:=fun e=>(F d hd).1 (by rw[e];exact List.mem_map_of_mem H)
   simp only;rw[dI y];exact h.fix x H
 ·rw[mg _ _ _ (by rw[h.ky];exact K)]at r;rw[G]
  by_cases e:j=i
  ·subst e;rw[C]at u;obtain rfl:=eX u;rw[hd];simp only;rw[ff (by rw[h.size];exact(F d hd).2.1),L]
  ·rw[dk e]at r;rw[E j r]
   cases I:o.dst with
   |none=>exact h.val j o' d u r hd
   |some d' =>
    simp only;have y:d'≠d:=fun z=>by
     subst z;exact e ((F d' I).2.2 j o' u hd)
    rw[dI y];exact h.val j o' d u r hd
 ·rw[mg _ _ _ (by rw[h.ky];exact K)]at r ⊢;split
  ·rfl
  by_cases z:j=i
  ·subst z;obtain⟨_,O,k1,k2⟩:=ga.1 hr;rw[u]at k1;obtain rfl:=eX k1;exact k2 e he hb
  ·rw[dk z]at r;exact h.pU j o' u r e he hb
def mr (ops:Array Oper) (listed:Array Bool):Nat:=((List.range ops.size).filter fun i=>!listed.getD i false).length
variable {listed:Array Bool}
theorem ua(h:mr ops listed=0):∀i,i<ops.size→listed.getD i false=true:=by
 intro i e;have:=List.length_eq_zero_iff.1 h;rw[List.filter_eq_nil_iff]at this;have:=this i (fZ.2 e);simpa using this
theorem qI(r:i<ops.size)(y:listed.size=ops.size)(u:listed.getD i false=false):mr ops (listed.setIfInBounds i true)<mr ops listed:=by
 unfold mr;have h:((List.range ops.size).filter fun j=>!(listed.setIfInBounds i true).getD j false)=((List.range ops.size).filter fun j=>!listed.getD j false).filter (fun j=>decide (j≠i)):=by
  rw[List.filter_filter];refine List.filter_congr fun j _=>?_
  rw[mg _ _ _ (by omega)]
  by_cases e:j=i<;>simp[e]
 rw[h];have m:i∈(List.range ops.size).filter fun j=>!listed.getD j false:=gb.2 ⟨fZ.2 r,by simp[u]⟩
 refine Nat.lt_of_le_of_ne (gd _ _) fun e=>?_
 have:=gg.1 e i m;simp at this
theorem ub(h:kH ops nf T=true)(A:listed.size=ops.size)(hr:Region.ready .any ops listed=[]):∀i,i<ops.size→listed.getD i false=true:=by
 intro i
 induction i using Nat.strongRecOn with
 |_ i y =>
  intro z;refine gh fun r=>?_
  have u:ops[i]?=some ops[i]:=dq z;have hm:i∈Region.ready .any ops listed:=ga.2 ⟨by
   have:listed[i]?=some listed[i]:=dq (by omega);rw[du,this]at r ⊢;simpa using r,_,u,fun e he _=>by
   have m:=(sR h u).2.1 e he;exact y e.on m (by omega)⟩
  rw[hr]at hm
  cases hm
section
variable {P:Program} {mn:Bool} {R:World→World→Prop} {S:Nat→Prop} {ops:Array Oper} {val:Nat→Value} {fix:List (Nat×Value)} {T:Nat} {sp L0:Nat→Bool} {Sok:World→Prop} {b:Frame} {k:List Item} {cs:List Frame}
def Cm (ops:Array Oper) (val:Nat→Value) (fix:List (Nat×Value)) (T:Nat) (sp L0:Nat→Bool) (Sok:World→Prop) (b:Frame) (k:List Item) (cs:List Frame) (g:Goroutine) (w:World):Prop :=
  Sok w∧∃ a listed,me ops val fix T listed a∧(∀ j,sp j=true→listed.getD j false=L0 j) ∧
    ((∃ i fuel t,sp i=true∧i∈Region.ready .any ops listed∧mr ops listed≤fuel+1∧g=G (b.at a (.inRegion ops (i::Region.linearise.go .any ops fuel t (listed.setIfInBounds i true) [])::k)) cs) ∨
     ((∀ i,i < ops.size→listed.getD i false=true)∧g=G (b.at a (.inRegion ops []::k)) cs))
theorem vN(trans:∀a b c,R a b→R b c→R a c)(m:∀w w₁,R w w₁→Sok w→Sok w₁)(y:kH ops (fix.map (·.1)) T=true)(hb:b.kind≠.early)(K:∀(i:Nat) o (listed:Array Bool) (a:Act) (w:World),ops[i]?=some o→i∈Region.ready .any ops listed→sp i=false→me ops val fix T listed a→Sok w→(execOp a.eval o).run P w=.ok (.value (val i)) w∧∀e∈(execOp a.eval o).events P w #[],∃ad:Addr,e=⟨.cell ad,false,false⟩∧S ad.block):∀(fuel t:Nat)(listed:Array Bool)(a:Act)(w:World),me ops val fix T listed a→(∀j,sp j=true→listed.getD j false=L0 j)→Sok w→mr ops listed≤fuel →
   Goes P mn R (DQ S) (Cm ops val fix T sp L0 Sok b k cs) fuel (G (b.at a (.inRegion ops (Region.linearise.go .any ops fuel t listed [])::k)) cs) w:=by
 intro fuel
 induction fuel with
 |zero =>
  intro t listed a w r C A hu;exact fun w₁ h=>⟨m _ _ h A,a,listed,r,C,.inr ⟨ua (by omega),by simp[Region.linearise.go]⟩⟩
 |succ fuel Q =>
  intro t listed a w r C A hu;simp only[Region.linearise.go];change Goes P mn R (DQ S) (Cm ops val fix T sp L0 Sok b k cs) (fuel+1) (G (b.at a (.inRegion ops (match(Region.ready .any ops listed)[t % (Region.ready .any ops listed).length]? with
   |some i=>Region.linearise.go .any ops fuel (t / (Region.ready .any ops listed).length) (listed.setIfInBounds i true) [i]
   |none=>[].reverse)::k)) cs) w
  cases L:(Region.ready .any ops listed)[t % (Region.ready .any ops listed).length]? with
  |none =>
   have E:Region.ready .any ops listed=[]:=by
    cases hr:Region.ready .any ops listed with
    |nil=>rfl
    |cons x xs =>
     rw[hr]at L;have M:t % (x::xs).length<(x::xs).length:=gi _ (by simp);simp at L;simp at M;omega
   exact fM fun w₁ h=>⟨m _ _ h A,a,listed,r,C,.inr ⟨ub y r.ky E,rfl⟩⟩
  |some i =>
   simp only[];rw[linearise_go_acc,gj,gl];have u:i∈Region.ready .any ops listed:=gn L;obtain⟨F,o,H,_⟩:=ga.1 u;have z:i<ops.size:=(dp.1 H).1;have I:listed.getD i false=false:=by
    have hsz:i<listed.size:=by rw[r.ky];exact z
    rw[du,dq hsz]at F ⊢;simpa using F
   cases j3:sp i with
   |true=>exact fM fun w₁ h=>⟨m _ _ h A,a,listed,r,C,.inl ⟨i,fuel,_,j3,u,hu,rfl⟩⟩
   |false =>
    refine gp rfl fun w₁ h=>?_
    obtain⟨U,V⟩:=K i o listed a w₁ H u j3 r (m _ _ h A);have W:=(sR y H).2.2;have hw:Region.wanted o (yielded ops a.tmps)=true:=by simp[Region.wanted,W]
    rw[gq H hw hb U];refine⟨⟨⟨w₁.drawn,rfl⟩,fun e he=>V e (gu he)⟩,?_⟩;refine Q _ _ _ _ (r.put y H u rfl fun _ _=>rfl) (fun j O=>?_) (m _ _ h A) ?_
    ·rw[mg _ _ _ (by rw[r.ky];exact z),dk (fun e=>by rw[e,j3]at O;cases O)];exact C j O
    have:=qI z r.ky I;omega
end
end
end Go.Proofs.YtjnkcibpkkjniaaGreat.kj
namespace Go.Proofs
abbrev Tryz.link:Go.Conc.Lib.WgLink:={ add:=75,done:=78,wait:=62,relMerge:=108,disable:=80,enable:=82,inBubble:=88,associate:=109,fatal:=110,uOr:=111,uAdd:=112,raceRead:=113,uLoad:=81,uStore:=114,disassociate:=86,semrelease:=115,acquire:=83,isAssociated:=84,uCas:=85,raceWrite:=87,semacquire:=89,orU64:=137,addU64:=138,loadU64:=120,storeU64:=139,casU64:=121,tWgP:=168,tUP:=175,tAssoc:=208,tWg:=151,tAU:=149,tU64:=147,tUint:=119,tU32:=22,tPU32:=179,tPAU:=218,tPU64:=220,tNoCopy:=144,tANoCopy:=145,tAlign64:=146 }
theorem Tryz.uc:Go.Conc.Lib.WgLib Tryz.prog Tryz.link :=
 ⟨Tryz.func75,Tryz.func78,Tryz.func62,Tryz.func108,Tryz.func80,Tryz.func82,Tryz.func88,Tryz.func109,Tryz.func110,Tryz.func111,Tryz.func112,Tryz.func113,Tryz.func81,Tryz.func114,Tryz.func86,Tryz.func115,Tryz.func83,Tryz.func84,Tryz.func85,Tryz.func87,Tryz.func89,Tryz.func137,Tryz.func138,Tryz.func120,Tryz.func139,Tryz.func121,Tryz.underlying168,Tryz.runUnderlying168,Tryz.sizeOf168,Tryz.isAgg168,Tryz.zeroValue168,Tryz.underlying175,Tryz.runUnderlying175,Tryz.sizeOf175,Tryz.isAgg175,Tryz.zeroValue175,Tryz.underlying208,Tryz.runUnderlying208,Tryz.sizeOf208,Tryz.isAgg208,Tryz.zeroValue208,Tryz.underlying151,Tryz.runUnderlying151,Tryz.sizeOf151,Tryz.isAgg151,Tryz.zeroValue151,Tryz.underlying149,Tryz.runUnderlying149,Tryz.sizeOf149,Tryz.isAgg149,Tryz.zeroValue149,Tryz.underlying147,Tryz.runUnderlying147,Tryz.sizeOf147,Tryz.isAgg147,Tryz.zeroValue147,Tryz.underlying119,Tryz.runUnderlying119,Tryz.sizeOf119,Tryz.isAgg119,Tryz.zeroValue119,Tryz.underlying22,Tryz.runUnderlying22,Tryz.sizeOf22,Tryz.isAgg22,Tryz.zeroValue22,Tryz.underlying179,Tryz.runUnderlying179,Tryz.sizeOf179,Tryz.isAgg179,Tryz.zeroValue179,Tryz.underlying218,Tryz.runUnderlying218,Tryz.sizeOf218,Tryz.isAgg218,Tryz.zeroValue218,Tryz.underlying220,Tryz.runUnderlying220,Tryz.sizeOf220,Tryz.isAgg220,Tryz.zeroValue220,Tryz.underlying0,Tryz.runUnderlying0,Tryz.sizeOf0,Tryz.isAgg0,Tryz.zeroValue0,Tryz.underlying3,Tryz.runUnderlying3,Tryz.sizeOf3,Tryz.isAgg3,Tryz.zeroValue3,Tryz.underlying4,Tryz.runUnderlying4,Tryz.sizeOf4,Tryz.isAgg4,Tryz.zeroValue4,Tryz.underlying9,Tryz.runUnderlying9,Tryz.sizeOf9,Tryz.isAgg9,Tryz.zeroValue9,Tryz.underlying20,Tryz.runUnderlying20,Tryz.sizeOf20,Tryz.isAgg20,Tryz.zeroValue20,Tryz.underlying21,Tryz.runUnderlying21,Tryz.sizeOf21,Tryz.isAgg21,Tryz.zeroValue21,(by kernel_rfl),(by kernel_rfl)⟩
end Go.Proofs
namespace Go.Proofs.YtjnkcibpkkjniaaGreat.kj
section
open Go.Conc Go.ConcN Go.Conc.Lib
open Go.ConcR (KK wgBlock WgAt stA smA rd wr mk DC0)
structure Wk where
 Wg:Nat
 CB:Nat
 bW:Nat
 bF:Nat
 bC:Nat
 bI:Nat
 bS:Nat
 bN:Nat
 i:Nat
 sp:Nat
 so:Nat
 id:Int
 xb:Nat
 xo:Nat
 xl:Nat
 xc:Nat
 nb:Nat
 no:Nat
 nl:Nat
 nc:Nat
 m:Value
def Wk.S (p:Wk) (b:Nat):Prop:=b=p.bW∨b=p.bF∨b=p.bC∨b=p.bI∨b=p.bS∨b=p.bN∨b=p.sp∨b=p.nb
def box (b:Nat):Value:=.pointer (some ⟨b,0,none⟩)
def Wk.fix (p:Wk):List (Nat×Value):=[(0,box p.bC),(1,box p.bI),(2,box p.bS),(3,box p.bN)]
def Wk.caps (p:Wk):Array Value:=#[box p.bC,box p.bI,box p.bS,box p.bN]
structure WF (p:Wk) (w:World):Prop where
 hW:w.cell? ⟨p.bW,0,none⟩=some (box p.Wg)
 hF:w.cell? ⟨p.bF,0,none⟩=some (mF 59 p.caps)
 hC:w.cell? ⟨p.bC,0,none⟩=some (.chan (some p.CB))
 hI:w.cell? ⟨p.bI,0,none⟩=some (.int .i64 p.i)
 hS:w.cell? ⟨p.bS,0,none⟩=some (.pointer (some ⟨p.sp,p.so,none⟩))
 hid:w.cell? ⟨p.sp,p.so,none⟩=some (.int .i64 p.id)
 hx:w.cell? ⟨p.sp,p.so+1,none⟩=some (.slice (some ⟨p.xb,p.xo,none⟩) p.xl p.xc)
 hN:w.cell? ⟨p.bN,0,none⟩=some (.slice (some ⟨p.nb,p.no,none⟩) p.nl p.nc)
 hm:w.cell? ⟨p.nb,p.no+p.i,none⟩=some p.m
 lx:p.i<p.xl
 ln:p.i<p.nl
 live:WgLive Tryz.link.tWg p.Wg w
variable {p:Wk} {w:World}
theorem WF.rely{w₁:World}(h:WF p w)(r:RK Tryz.link.tWg p.Wg p.S w w₁):WF p w₁ where
 hW:=(gv (r.keep _ (by simp[Wk.S])) 0).trans h.hW
 hF:=(gv (r.keep _ (by simp[Wk.S])) 0).trans h.hF
 hC:=(gv (r.keep _ (by simp[Wk.S])) 0).trans h.hC
 hI:=(gv (r.keep _ (by simp[Wk.S])) 0).trans h.hI
 hS:=(gv (r.keep _ (by simp[Wk.S])) 0).trans h.hS
 hid:=(gv (r.keep _ (by simp[Wk.S])) _).trans h.hid
 hx:=(gv (r.keep _ (by simp[Wk.S])) _).trans h.hx
 hN:=(gv (r.keep _ (by simp[Wk.S])) 0).trans h.hN
 hm:=(gv (r.keep _ (by simp[Wk.S])) _).trans h.hm
 lx:=h.lx
 ln:=h.ln
 live:=r.live h.live
noncomputable def kA:Array Oper:=match Tryz.f59.body with
 |some (.region _ ops _)=>ops
 |_=>#[]
def Wk.val (p:Wk) (ret:Value):Nat→Value
 |0=>.chan (some p.CB)
 |1|6|13=>.int .i64 p.i
 |2|3|8|9|10=>.pointer (some ⟨p.sp,p.so,none⟩)
 |4=>.pointer (some ⟨p.sp,p.so+1,none⟩)
 |5=>.slice (some ⟨p.xb,p.xo,none⟩) p.xl p.xc
 |7=>.pointer (some ⟨p.xb,p.xo+p.i*14,none⟩)
 |11=>.int .i64 p.id
 |12=>.slice (some ⟨p.nb,p.no,none⟩) p.nl p.nc
 |14=>.pointer (some ⟨p.nb,p.no+p.i,none⟩)
 |15=>p.m
 |16=>ret
 |17=>.agg (#[.int .i64 p.i]++ret.cells)
 |_=>undef
theorem vO:kH kA [0,1,2,3] 22=true:=by kernel_rfl
variable {listed:Array Bool} {a:Act} {i:Nat} {o:Oper}
theorem dep{ops:Array Oper}{val:Nat→Value}{fix:List (Nat×Value)}{T:Nat}(r:me ops val fix T listed a)(u:ops[i]?=some o)(hr:i∈Region.ready .any ops listed):∀e∈o.after,e.on<ops.size→Region.binds .any e=true→∀o' d,ops[e.on]?=some o'→o'.dst=some d→a.tmps[d]?=some (val e.on):=by
 intro e he y hb o' d h hd;obtain⟨_,A,m,z⟩:=ga.1 hr;rw[u]at m;obtain rfl:=eX m;exact r.val e.on o' d h (z e he hb) hd
theorem I5{ret:Value}(h:kA[i]?=some o)(hr:i∈Region.ready .any kA listed)(j3:(i == 16 || i == 18)=false)(r:i≠17)(m:me kA (p.val ret) p.fix 22 listed a)(hF:WF p w):(execOp a.eval o).run Tryz.prog w=.ok (.value (p.val ret i)) w∧∀e∈(execOp a.eval o).events Tryz.prog w #[],∃ad:Addr,e=⟨.cell ad,false,false⟩∧p.S ad.block:=by
 have hd:=dep m h hr;have u:i<19:=(dp.1 h).1;have f0:a.tmps[0]?=some (box p.bC):=m.fix (0,box p.bC) (by simp[Wk.fix]);have f1:a.tmps[1]?=some (box p.bI):=m.fix (1,box p.bI) (by simp[Wk.fix]);have f2:a.tmps[2]?=some (box p.bS):=m.fix (2,box p.bS) (by simp[Wk.fix]);have f3:a.tmps[3]?=some (box p.bN):=m.fix (3,box p.bN) (by simp[Wk.fix]);have hC:=hF.hC;have hI:=hF.hI;have hS:=hF.hS;have hid:=hF.hid;have hx:=hF.hx;have hN:=hF.hN;have hm:=hF.hm;have lx:=hF.lx;have ln:=hF.ln;clear hr;obtain rfl|rfl|rfl|rfl|rfl|rfl|rfl|rfl|rfl|rfl|rfl|rfl|rfl|rfl|rfl|rfl|rfl|rfl|rfl:i=0∨i=1∨i=2∨i=3∨i=4∨i=5∨i=6∨i=7∨i=8∨i=9∨i=10∨i=11∨i=12∨i=13∨i=14∨i=15∨i=16∨i=17∨i=18:=by omega
 all_goals first|(exfalso;revert j3;decide)|exact absurd rfl r|skip
 all_goals
  simp only[kA,Tryz.f59]at h hd;simp only[fR,gx,fS,dR]at h hd;subst h;simp[Region.binds]at hd
 all_goals(refine⟨?_,?_⟩)
 all_goals unfold execOp
 all_goals simp only[Act.eval,Wk.val,du,hd,f0,f1,f2,f3,ez,box]
 all_goals first|go_simp|trace_state
 all_goals simp[Wk.S]
variable {S:Nat→Prop}
theorem DQ.nil:DQ S w w #[]:=⟨⟨w.drawn,rfl⟩,by simp⟩
theorem DQ.drew:DQ S w { w with drawn:=w.drawn+1 } #[]:=⟨⟨w.drawn+1,rfl⟩,by simp⟩
variable {c0 c1:Value}
theorem I6(h:kA[17]?=some o)(hr:17∈Region.ready .any kA listed)(m:me kA (p.val (.agg #[c0,c1])) p.fix 22 listed a):(execOp a.eval o).run Tryz.prog w=.ok (.value (p.val (.agg #[c0,c1]) 17)) w∧∀e∈(execOp a.eval o).events Tryz.prog w #[],False:=by
 have hd:=dep m h hr;clear hr;simp only[kA,Tryz.f59]at h hd;simp only[fR,gx,fS,dR]at h hd;subst h;simp[Region.binds]at hd;refine⟨?_,?_⟩
 all_goals unfold execOp
 all_goals simp only[Act.eval,Wk.val,du,hd,ez,et,gy,List.map_nil,Value.cells]
 ·rw[gz,run_build w _ _ #[.int .i64 p.i,c0,c1] (by kernel_rfl)];rfl
 ·intro e he;simp[go_sem]at he
theorem zw(i:Nat)(o:Oper)(listed:Array Bool)(a:Act)(w:World)(h:kA[i]?=some o)(hr:i∈Region.ready .any kA listed)(j3:(i == 16 || i == 18)=false)(m:me kA (p.val (.agg #[c0,c1])) p.fix 22 listed a)(hF:WF p w):(execOp a.eval o).run Tryz.prog w=.ok (.value (p.val (.agg #[c0,c1]) i)) w∧∀e∈(execOp a.eval o).events Tryz.prog w #[],∃ad:Addr,e=⟨.cell ad,false,false⟩∧p.S ad.block:=by
 by_cases e:i=17
 ·subst e;obtain⟨r,u⟩:=I6 (w:=w) h hr m;exact⟨r,fun e he=>(u e he).elim⟩
 ·exact I5 h hr j3 e m hF
theorem I7(m:Bool)(t:Nat):Region.schedule m kA t=Region.linearise .any kA t:=by
 have:Region.departs kA=false:=by kernel_rfl
 simp[Region.schedule,this]
abbrev vP (i:Nat):Bool:=i == 16 || i == 18
theorem rF:kA.size=19:=by kernel_rfl
theorem Cn:∃o,kA[16]?=some o∧o.dst=some 20∧o.op=.call { callee:=.value (.func 60),args:=#[.tmp 11,.tmp 15,.tmp 19],argTypes:=#[100,3,44] }∧o.guard=none:=⟨_,rfl,rfl,rfl,rfl⟩
end
section
open Go.Conc Go.ConcN Go.Conc.Lib Go.ConcR.Gen Go.ConcN.Gen Go.Proofs.YtjnkcibpkkjniaaGreat.j7
open Go.ConcR (KK wgBlock WgAt stA smA rd wr mk DC0)
variable [Scope]
def Wk.kq (p:Wk) (B n CF:Nat):mE:=⟨B,n,p.Wg,p.CB,CF,Tryz.link.tWg,.tuple #[]⟩
def Wk.u9 (p:Wk) (ρ:jR) (args:Array Value) (wS:World) (R:Value→World→Prop):lC :=
 {S:=p.S,f:=60,args:=args,lF:=#[.pointer (some ⟨p.xb,p.xo+p.i*14,none⟩),.int .i64 p.id,p.m],wS:=wS,
  ok:=fun v=>∃sa sl sc sb,v=.agg #[.slice sa sl sc,.bool sb],msg:=fun v=>.agg (#[.int .i64 p.i]++v.cells),ρ:=ρ,R:=R }
noncomputable def I8:Array Oper:=match Tryz.f76.body with
 |some (.seq _ (.region _ ops _))=>ops
 |_=>#[]
noncomputable def I9 (p:Wk):Frame:=(baseD 76).at ⟨#[box p.bW,box p.bF,mF 77 #[box p.bW],mF 59 p.caps,undef],[oP 77 #[box p.bW]]⟩ [.inRegion I8 [1]]
noncomputable def under (p:Wk):List Frame:=[I9 p,qq Tryz.prog]
noncomputable def lit:Frame:=base 59
abbrev oQ (p:Wk):World→World→Prop:=RK Tryz.link.tWg p.Wg p.S
def Ja (p:Wk) (g:Goroutine) (w:World):Prop:=WF p w∧∃m t,g=G (lit.at ⟨p.caps++Array.replicate 18 undef,[]⟩ [.inRegion kA (Region.schedule m kA t)]) (under p)
theorem Jb{p:Wk}{w:World}(hF:WF p w):Goes Tryz.prog false (oQ p) (DQ p.S) (Ja p) 10 (born Tryz.prog (oP 76 #[box p.bW,box p.bF])) w:=by
 refine gp rfl fun w₁ h=>?_
 replace hF:=hF.rely h;clear h;rw[Ck Tryz.func76 rfl rfl];simp only[fv];refine⟨DQ.nil,?_⟩
 walk_nrmf Tryz.f76
 ((refine gp rfl (fun _ h=>?_);replace hF:=WF.rely hF h;clear h);rw[stepG_seq];simp only[fv];refine⟨DQ.nil,?_⟩)
 ((refine gp rfl (fun _ h=>?_);replace hF:=WF.rely hF h;clear h);rw[fq];simp only[fv,gA,gB,gC,Nat.reduceAdd,dB,List.range,List.range.loop];refine⟨DQ.nil,?_⟩)
 ((refine gp rfl (fun _ h=>?_);replace hF:=WF.rely hF h;clear h);refine gD rfl rfl (by decide) (fun K r=>?_);have u:=WF.hW hF;have y:=WF.hF hF;simp only[box]at *;go_simp;refine r _ _ ⟨⟨⟨_,rfl⟩,fun e he=>?_⟩,?_⟩;(focus(have hm:=gu he;simp[go_sem, *]at hm;(try(subst hm;exact⟨_,rfl,by simp[Wk.S]⟩))));clear r K u y)
 (refine gp rfl (fun _ h=>?_);replace hF:=WF.rely hF h;clear h);rw[I0 rfl rfl (by decide) rfl rfl];simp only[fv];refine⟨DQ.nil,?_⟩;walk_nrm
 ((refine gp rfl (fun _ h=>?_);replace hF:=WF.rely hF h;clear h);rw[stepG_region_end];simp only[fv];refine⟨DQ.nil,?_⟩)
 ((refine gp rfl (fun _ h=>?_);replace hF:=WF.rely hF h;clear h);rw[fq];simp only[fv,gA,gB,gC,Nat.reduceAdd,dB,List.range,List.range.loop];refine⟨DQ.nil,?_⟩)
 ((refine gp rfl (fun _ h=>?_);replace hF:=WF.rely hF h;clear h);refine gD rfl rfl (by decide) (fun K r=>?_);have u:=WF.hW hF;have y:=WF.hF hF;simp only[box]at *;go_simp;refine r _ _ ⟨⟨⟨_,rfl⟩,fun e he=>?_⟩,?_⟩;(focus(have hm:=gu he;simp[go_sem, *]at hm;(try(subst hm;exact⟨_,rfl,by simp[Wk.S]⟩))));clear r K u y)
 (refine gp rfl (fun _ h=>?_);replace hF:=WF.rely hF h;clear h);refine I2 rfl rfl (by decide) rfl rfl Tryz.func59 rfl rfl ⟨DQ.nil,?_⟩
 (refine gp rfl (fun _ h=>?_);replace hF:=WF.rely hF h;clear h);rw[stepG_region_draw];simp only[fv];refine⟨DQ.drew,fM fun z m=>?_⟩;exact⟨hF.rely ⟨fun b hb=>m.keep b hb,fun A=>m.live A⟩,_,_,rfl⟩
end
section
open Go.Conc Go.ConcN Go.Conc.Lib Go.ConcR.Gen Go.ConcN.Gen Go.Proofs.YtjnkcibpkkjniaaGreat.j7
open Go.ConcR (KK wgBlock WgAt stA smA rd wr mk DC0)
variable [Scope]
theorem Jc(p:Wk)(ret:Value):me kA (p.val ret) p.fix 22 (Array.replicate kA.size false) ⟨p.caps++Array.replicate 18 undef,[]⟩ where
 defers:=rfl
 size:=by simp[Wk.caps]
 fix:=fun x hx=>by
  simp only[Wk.fix,fJ,fK,fL]at hx;rcases hx with rfl|rfl|rfl|rfl<;>(simp only;rw[gE (by simp[Wk.caps])];rfl)
 val:=fun i o d _ e=>by
  simp[du,dt]at e;split at e<;>simp at e
 ky:=by simp
 pU:=fun i o _ e=>by
  simp[du,dt]at e;split at e<;>simp at e
variable {i:Nat}
theorem xN(h:vP i=true):i=16∨i=18:=by simpa[vP]using h
theorem Co(ops:Array Oper)(l:Array Bool):mr ops l≤ops.size:=by
 unfold mr;exact dz (gd _ _) (by simp)
variable {listed:Array Bool}
theorem xO{ops:Array Oper}(m:listed.size=ops.size)(h:i∈Region.ready .any ops listed):listed.getD i false=false:=by
 obtain⟨e,o,r,_⟩:=ga.1 h;have u:i<listed.size:=by rw[m];exact(dp.1 r).1
 rw[du,dq u]at e ⊢;simpa using e
theorem vQ:lit.kind≠.early:=by decide
variable {val:Nat→Value} {fix:List (Nat×Value)} {T:Nat} {a:Act}
theorem Cp(r:me kA val fix T listed a)(hr:18∈Region.ready .any kA listed):listed.getD 16 false=true∧listed.getD 17 false=true∧listed.getD 0 false=true:=by
 obtain⟨_,o,m,h⟩:=ga.1 hr;have e:kA[18]?=some o:=m;simp only[kA,Tryz.f59,fR,gx,fS,dR]at e;subst e;simp[Region.binds]at h;simp only[du];exact⟨h.2.2,h.2.1,h.1⟩
theorem Jd(r:me kA val fix T listed a)(h:listed.getD 17 false=true):listed.getD 16 false=true:=by
 obtain⟨o,m⟩:∃o,kA[17]?=some o:=⟨_,rfl⟩;have hd:=r.pU 17 o m h;have e:kA[17]?=some o:=m;simp only[kA,Tryz.f59,fR,gx,fS,dR]at e;subst e;simp[Region.binds]at hd;rw[du];exact hd.2
variable {p:Wk}
theorem Je{ret:Value}(m:me kA (p.val ret) p.fix 22 listed a)(hr:16∈Region.ready .any kA listed):a.tmps[11]?=some (p.val ret 7)∧a.tmps[15]?=some (p.val ret 11)∧a.tmps[19]?=some (p.val ret 15):=by
 obtain⟨o,h,r,u,y⟩:=Cn;have hd:=dep m h hr;have e:kA[16]?=some o:=h;simp only[kA,Tryz.f59,fR,gx,fS,dR]at e;subst e;exact⟨hd ⟨7,.data⟩ (by simp) (by rw[rF];decide) rfl _ 11 (by rfl) rfl,hd ⟨11,.data⟩ (by simp) (by rw[rF];decide) rfl _ 15 (by rfl) rfl,hd ⟨15,.data⟩ (by simp) (by rw[rF];decide) rfl _ 19 (by rfl) rfl⟩
noncomputable def sS (p:Wk) (a:Act) (l:List Nat):Goroutine:=G (lit.at a [.inRegion kA l]) (under p)
variable {ρ:jR} {args:Array Value} {wS w:World} {R:Value→World→Prop} {B n CF:Nat}
theorem Jf(hsend:∀(c0 c1:Value)(a:Act)(listed:Array Bool)(fuel t:Nat)(w:World),WF p w→me kA (p.val (.agg #[c0,c1])) p.fix 22 listed a→listed.getD 16 false=true→listed.getD 18 false=false→mr kA listed≤fuel →
   ∃m,Goes Tryz.prog false (oQ p) (DQ p.S) (AtSend Tryz.prog (p.kq B n CF) p.S (.agg (#[.int .i64 p.i]++#[c0,c1]))) m (sS p a (Region.linearise.go .any kA fuel t listed [])) w)(hF:WF p w)(m:Bool)(t:Nat):Goes Tryz.prog false (oQ p) (DQ p.S) (xM Tryz.prog (p.kq B n CF) (p.u9 ρ args wS R)) 19 (G (lit.at ⟨p.caps++Array.replicate 18 undef,[]⟩ [.inRegion kA (Region.schedule m kA t)]) (under p)) w:=by
 rw[I7];unfold Region.linearise;have hw:=vN (P:=Tryz.prog) (mn:=false) (R:=oQ p) (S:=p.S) (ops:=kA) (val:=p.val (.agg #[undef,undef])) (fix:=p.fix) (T:=22) (sp:=vP) (L0:=fun _=>false) (Sok:=WF p) (b:=lit) (k:=[]) (cs:=under p)
  RK.trans (fun w w₁ h hF=>hF.rely h) vO vQ zw kA.size t _ _ w (Jc p _) (fun j _=>by simp[du,dt];split<;>rfl) hF (Co _ _)
 rw[show kA.size=19 from rF]at hw ⊢;refine Goes.bind (m2:=0) RK.refl (fun g w0 Y=>fM fun w' h'=>?_) hw;obtain⟨r,a,listed,y,z,⟨i,fuel,t',Z,hr,hu,rfl⟩|⟨A,rfl⟩⟩:=Y
 ·rcases xN Z with rfl|rfl
  ·replace r:=r.rely h';obtain⟨K,L,M⟩:=Je y hr;obtain⟨o,O,od,C,og⟩:=Cn;have E:16<listed.size:=by rw[y.ky,rF];decide
   have u:#[Operand.tmp 11,Operand.tmp 15,Operand.tmp 19].map a.eval=(p.u9 ρ args wS R).lF:=by
    simp[Act.eval,du,K,L,M,Wk.u9,Wk.val]
   refine⟨rfl,lit.at a [.inRegion kA (16::Region.linearise.go .any kA fuel t' (listed.setIfInBounds 16 true) [])],under p,fun w₁ _=>?_,fun v' I=>?_⟩
   ·have Q:Region.wanted o (yielded kA a.tmps)=true:=by simp[Region.wanted,og]
    rw[stepG_enter O Q vQ (run_call_body C Tryz.func60 rfl rfl),u];have:listed=listed:=rfl;have hl:Go.Conc.listed Tryz.prog lit.fn a o w₁=#[]:=by unfold Go.Conc.listed;rw[events_call_body C Tryz.func60 rfl rfl];exact fY _ _
    rw[hl];rfl
   ·obtain⟨sa,sl,sc,sb,I⟩:=I;generalize(Value.slice sa sl sc)=c0,(Value.bool sb)=c1 at I;subst I;have hT:me kA (p.val (.agg #[c0,c1])) p.fix 22 (listed.setIfInBounds 16 true) (a.put o.dst (.agg #[c0,c1])):=y.put vO O hr rfl fun j U=>by
     have V:j≠16:=fun e=>by
      subst e;rw[z 16 rfl]at U
      cases U
     have W:j≠17:=fun e=>by
      subst e;have:=Jd y U;rw[z 16 rfl]at this
      cases this
     unfold Wk.val;split<;>first|rfl|exact absurd rfl V|exact absurd rfl W
    have F:(listed.setIfInBounds 16 true).getD 16 false=true:=by rw[mg _ _ _ E,dj rfl]
    have H:(listed.setIfInBounds 16 true).getD 18 false=false:=by rw[mg _ _ _ E,dk (by decide)];exact z 18 rfl
    have aa:=qI (ops:=kA) (listed:=listed) (i:=16) (by rw[rF];decide) y.ky (z 16 rfl);obtain⟨m,hm⟩:=hsend c0 c1 _ _ fuel t' w' r hT F H (by omega);refine⟨m,?_⟩;have e:({ frame:=(lit.at a [.inRegion kA (16::Region.linearise.go .any kA fuel t' (listed.setIfInBounds 16 true) [])]).finish (.agg #[c0,c1]),callers:=under p,status:=.running,dying:=none }:Goroutine)=sS p (a.put o.dst (.agg #[c0,c1])) (Region.linearise.go .any kA fuel t' (listed.setIfInBounds 16 true) []):=by
     rw[fl,O];rfl
    rw[e];exact hm
  ·have:=(Cp y hr).1;rw[z 16 rfl]at this
   cases this
 ·have:=A 16 (by rw[rF];decide);rw[z 16 rfl]at this
  cases this
theorem Jg:∃o,kA[18]?=some o∧o.dst=none∧o.op=.send (.tmp 4) (.tmp 21)∧o.guard=none:=⟨_,rfl,rfl,rfl,rfl⟩
theorem Jh{mo:Nat}(z:∀(a:Act)(w:World),WF p w→a.defers=[]→Goes Tryz.prog false (oQ p) (DQ p.S) (u6 Tryz.prog false (oQ p) Tryz.link.tWg p.Wg) mo (sS p a []) w){c0 c1:Value}{fuel t:Nat}(hF:WF p w)(hT:me kA (p.val (.agg #[c0,c1])) p.fix 22 listed a)(I:listed.getD 16 false=true)(K:listed.getD 18 false=false)(hu:mr kA listed≤fuel):∃m,Goes Tryz.prog false (oQ p) (DQ p.S) (AtSend Tryz.prog (p.kq B n CF) p.S (.agg (#[.int .i64 p.i]++#[c0,c1]))) m (sS p a (Region.linearise.go .any kA fuel t listed [])) w:=by
 have hw:=vN (P:=Tryz.prog) (mn:=false) (R:=oQ p) (S:=p.S) (ops:=kA) (val:=p.val (.agg #[c0,c1])) (fix:=p.fix) (T:=22) (sp:=vP) (L0:=fun i=>i == 16) (Sok:=WF p) (b:=lit) (k:=[]) (cs:=under p)
  RK.trans (fun w w₁ h hF=>hF.rely h) vO vQ zw fuel t _ _ w hT (fun j L=>by rcases xN L with rfl|rfl<;>simp[I,K]) hF hu
 refine⟨_,Goes.bind (m2:=0) RK.refl (fun g w0 M=>fM fun w' h'=>?_) hw⟩;obtain⟨r,a,listed,u,A,⟨i,fuel,t',O,hr,hu,rfl⟩|⟨y,rfl⟩⟩:=M
 ·rcases xN O with rfl|rfl
  ·have:=xO u.ky hr;rw[A 16 rfl]at this
   cases this
  ·replace r:=r.rely h';obtain⟨o,Q,od,C,og⟩:=Jg;obtain⟨U,V,k0⟩:=Cp u hr;obtain⟨o0,W,Y⟩:∃o,kA[0]?=some o∧o.dst=some 4:=⟨_,rfl,rfl⟩;obtain⟨Z,E,F⟩:∃o,kA[17]?=some o∧o.dst=some 21:=⟨_,rfl,rfl⟩;have e4:=u.val 0 o0 4 W k0 Y;have aa:=u.val 17 Z 21 E V F;have ab:18<listed.size:=by rw[u.ky,rF];decide
   have ad:Region.wanted o (yielded kA a.tmps)=true:=by simp[Region.wanted,og]
   have H:(execOp a.eval o).run Tryz.prog w'=.ok (.comm #[scase p.CB (.agg (#[.int .i64 p.i]++#[c0,c1])) (.tuple #[])] true .send) w':=by
    unfold execOp;simp[C,scase,Act.eval,du,e4,aa,Wk.val,Value.cells]
   have ae:(execOp a.eval o).events Tryz.prog w' #[]=#[]:=by
    unfold execOp;simp[C]
   refine⟨rfl,?_,?_⟩
   ·rw[stepG_comm Q ad vQ H];unfold Go.Conc.listed;rw[ae,fY];rfl
   ·have af:me kA (p.val (.agg #[c0,c1])) p.fix 22 (listed.setIfInBounds 18 true) (a.put o.dst undef):=u.put vO Q hr rfl fun _ _=>rfl
    have ag:=qI (ops:=kA) (listed:=listed) (i:=18) (by rw[rF];decide) u.ky (A 18 rfl);have hw:=vN (P:=Tryz.prog) (mn:=false) (R:=oQ p) (S:=p.S) (ops:=kA) (val:=p.val (.agg #[c0,c1])) (fix:=p.fix) (T:=22) (sp:=vP) (L0:=fun _=>true) (Sok:=WF p) (b:=lit) (k:=[]) (cs:=under p)
     RK.trans (fun w w₁ h hF=>hF.rely h) vO vQ zw fuel t' _ _ w' af (fun j L=>by
      rw[mg _ _ _ ab];rcases xN L with rfl|rfl
      ·rw[dk (by decide)];exact U
      ·rw[dj rfl]) r (by omega)
    obtain⟨e⟩:Nonempty (Go.Conc.served (G (lit.at a [.inRegion kA (18::Region.linearise.go .any kA fuel t' (listed.setIfInBounds 18 true) [])]) (under p)) undef=sS p (a.put o.dst undef) (Region.linearise.go .any kA fuel t' (listed.setIfInBounds 18 true) [])):=⟨by
     unfold Go.Conc.served sS G;simp only;rw[fl,Q];rfl⟩
    rw[e];refine⟨_,Goes.bind (m2:=mo) RK.refl (fun g w0 M=>?_) hw⟩;obtain⟨r,a,listed,u,A,⟨i,fuel,t',O,hr,hu,rfl⟩|⟨y,rfl⟩⟩:=M
    ·have:=xO u.ky hr;rw[A i O]at this
     cases this
    ·exact z a w0 r u.defers
 ·have:=y 18 (by rw[rF];decide);rw[A 18 rfl]at this
  cases this
theorem Ji(p:Wk):sd (oQ p) (fun _=>True) Tryz.link.tWg p.Wg:=⟨RK.trans,fun _ _ h=>h.live,fun _ _ _ h=>h,fun _ _ _ _ h=>h⟩
theorem Jj(d:Nat)(w:World)(es:Array Event):(Op.equalIn (d+1) 20 .nilIface .nilIface).events Tryz.prog w es=es:=by
 have h:=Tryz.underlying20;simp[Op.equalIn,underlying,h]
theorem Jk(w:World)(es:Array Event):(Op.equal 20 .nilIface .nilIface).events Tryz.prog w es=es:=Jj 9999 w es
noncomputable def zx:Array Oper:=match Tryz.f78.body with
 |some (.region _ ops _)=>ops
 |_=>#[]
noncomputable def Jl:Array Oper:=match Tryz.f77.body with
 |some (.seq _ (.region _ ops _))=>ops
 |_=>#[]
variable {c:Frame} {cs:List Frame} {q:Nat}
theorem Jm(e:c.mode=.returning)(h:QuitsD Tryz.prog q 0 (G c cs))(m r:Array Value):QuitsD Tryz.prog (q+6) 0 (G ((base 78).at (Act.put ⟨m,[]⟩ ((zx[1]?).bind (·.dst)) (.tuple #[])) [.inRegion zx []]) ((baseD 77).at ⟨r,[]⟩ [.inRegion Jl [1]]::c::cs)):=by
 q_c stepG_region_end
 q_c fU
 refine QuitsD.leave0 rfl rfl Tryz.func78 rfl ?_
 q_c stepG_region_end
 q_c fU
 refine QuitsD.ctl rfl (fun _=>I3 rfl Tryz.func77 rfl e) ?_;exact h
theorem Jn(z:c.mode=.returning)(C:QuitsD Tryz.prog q 0 (G c cs))(w:World)(hF:WF p w):Goes Tryz.prog false (oQ p) (DQ p.S) (u6 Tryz.prog false (oQ p) Tryz.link.tWg p.Wg) 50 (G ((baseD 77).at ⟨#[box p.bW]++Array.replicate 7 undef,[]⟩ [.code (Tryz.f77.body.getD .skip)]) (c::cs)) w:=by
 simp only[Tryz.f77,ez];walk_nrm
 ((refine gp rfl (fun _ m=>?_);replace hF:=WF.rely hF m;clear m);rw[stepG_seq];simp only[fv];refine⟨DQ.nil,?_⟩)
 ((refine gp rfl (fun _ m=>?_);replace hF:=WF.rely hF m;clear m);rw[stepG_seq];simp only[fv];refine⟨DQ.nil,?_⟩)
 ((refine gp rfl (fun _ m=>?_);replace hF:=WF.rely hF m;clear m);rw[fq];simp only[fv,gA,gB,gC,Nat.reduceAdd,dB,List.range,List.range.loop];refine⟨DQ.nil,?_⟩)
 (refine gp rfl (fun _ m=>?_);replace hF:=WF.rely hF m;clear m);rw[I4 rfl rfl rfl z];simp only[fv];refine⟨DQ.nil,?_⟩;walk_nrm
 ((refine gp rfl (fun _ m=>?_);replace hF:=WF.rely hF m;clear m);refine gD rfl rfl (by decide) (fun K r=>?_);have u:=WF.hW hF;have y:=WF.hF hF;simp only[box]at *;go_simp;refine r _ _ ⟨⟨⟨_,rfl⟩,fun e he=>?_⟩,?_⟩;(focus(have hm:=gu he;simp[go_sem, *]at hm;(try(subst hm;exact⟨_,rfl,by simp[Wk.S]⟩))));clear r K u y)
 ((refine gp rfl (fun _ m=>?_);replace hF:=WF.rely hF m;clear m);rw[stepG_region_end];simp only[fv];refine⟨DQ.nil,?_⟩)
 ((refine gp rfl (fun _ m=>?_);replace hF:=WF.rely hF m;clear m);rw[stepG_seq];simp only[fv];refine⟨DQ.nil,?_⟩)
 ((refine gp rfl (fun _ m=>?_);replace hF:=WF.rely hF m;clear m);rw[fq];simp only[fv,gA,gB,gC,Nat.reduceAdd,dB,List.range,List.range.loop];refine⟨DQ.nil,?_⟩)
 ((refine gp rfl (fun _ m=>?_);replace hF:=WF.rely hF m;clear m);refine gD rfl rfl (by decide) (fun K r=>?_);have u:=WF.hW hF;have y:=WF.hF hF;simp only[box]at *;go_simp;refine r _ _ ⟨⟨⟨_,rfl⟩,fun e he=>?_⟩,?_⟩;(focus(have hm:=gu he;simp[go_sem, *]at hm;(try(subst hm;exact⟨_,rfl,by simp[Wk.S]⟩))));clear r K u y)
 (refine gp rfl (fun _ m=>?_);replace hF:=WF.rely hF m;clear m);refine gD rfl rfl (by decide) (fun K r=>?_);go_simp;refine r _ _ ⟨⟨⟨_,rfl⟩,fun e he=>?_⟩,?_⟩
 ·clear r;have hm:=gu he;clear he;simp[binOp,go_sem,Jk]at hm
 clear r K
 ((refine gp rfl (fun _ m=>?_);replace hF:=WF.rely hF m;clear m);rw[stepG_region_end];simp only[fv];refine⟨DQ.nil,?_⟩)
 ((refine gp rfl (fun _ m=>?_);replace hF:=WF.rely hF m;clear m);rw[fp (t:=false) rfl];simp only[fv,dg,dh,dG,↓reduceIte];refine⟨DQ.nil,?_⟩)
 ((refine gp rfl (fun _ m=>?_);replace hF:=WF.rely hF m;clear m);rw[stepG_skip];simp only[fv];refine⟨DQ.nil,?_⟩)
 ((refine gp rfl (fun _ m=>?_);replace hF:=WF.rely hF m;clear m);rw[fq];simp only[fv,gA,gB,gC,Nat.reduceAdd,dB,List.range,List.range.loop];refine⟨DQ.nil,?_⟩)
 ((refine gp rfl (fun _ m=>?_);replace hF:=WF.rely hF m;clear m);refine gD rfl rfl (by decide) (fun K r=>?_);have u:=WF.hW hF;have y:=WF.hF hF;simp only[box]at *;go_simp;refine r _ _ ⟨⟨⟨_,rfl⟩,fun e he=>?_⟩,?_⟩;(focus(have hm:=gu he;simp[go_sem, *]at hm;(try(subst hm;exact⟨_,rfl,by simp[Wk.S]⟩))));clear r K u y)
 (refine gp rfl (fun _ m=>?_);replace hF:=WF.rely hF m;clear m);refine ft rfl rfl (by decide) rfl Tryz.func78 rfl rfl ⟨DQ.nil,?_⟩
 walk_nrmf Tryz.f78
 ((refine gp rfl (fun _ m=>?_);replace hF:=WF.rely hF m;clear m);rw[fq];simp only[fv,gA,gB,gC,Nat.reduceAdd,dB,List.range,List.range.loop];refine⟨DQ.nil,?_⟩)
 ((refine gp rfl (fun _ m=>?_);replace hF:=WF.rely hF m;clear m);refine gD rfl rfl (by decide) (fun K r=>?_);have u:=WF.hW hF;have y:=WF.hF hF;simp only[box]at *;go_simp;refine r _ _ ⟨⟨⟨_,rfl⟩,fun e he=>?_⟩,?_⟩;(focus(have hm:=gu he;simp[go_sem, *]at hm;(try(subst hm;exact⟨_,rfl,by simp[Wk.S]⟩))));clear r K u y)
 (refine gp rfl (fun _ m=>?_);replace hF:=WF.rely hF m;clear m);refine ft rfl rfl (by decide) rfl Tryz.uc.f_add rfl rfl ⟨DQ.nil,?_⟩;walk_nrm;refine Goes.mono (n:=20) (Goes.u7 (fun _ _ _ h=>DQ.pF h) ?_) (by decide);have A:=IV (R:=oQ p) (F:=fun _=>True) (Wg:=p.Wg) (ops₀:=zx) (i₀:=1) (rest₀:=[]) (k₀:=[]) Tryz.uc (Ji p) (Jm z C #[.pointer (some ⟨p.Wg,0,none⟩),undef,.pointer (some ⟨p.Wg,0,none⟩),undef] #[.pointer (some ⟨p.bW,0,none⟩),.nilIface,.nilIface,.nilIface,.bool false,undef,.pointer (some ⟨p.Wg,0,none⟩),undef]) _ ⟨trivial,hF.live⟩;simp only[body_add,addFn,ez]at A;exact A
theorem Jo(a:Act)(w:World)(hF:WF p w)(hd:a.defers=[]):Goes Tryz.prog false (oQ p) (DQ p.S) (u6 Tryz.prog false (oQ p) Tryz.link.tWg p.Wg) 60 (sS p a []) w:=by
 unfold sS
 ((refine gp rfl (fun _ e=>?_);replace hF:=WF.rely hF e;clear e);rw[stepG_region_end];simp only[fv];refine⟨DQ.nil,?_⟩)
 ((refine gp rfl (fun _ e=>?_);replace hF:=WF.rely hF e;clear e);rw[fU];simp only[fv];refine⟨DQ.nil,?_⟩)
 (refine gp rfl (fun _ e=>?_);replace hF:=WF.rely hF e;clear e);refine goes_leave0 rfl hd Tryz.func59 rfl ⟨DQ.nil,?_⟩
 ((refine gp rfl (fun _ e=>?_);replace hF:=WF.rely hF e;clear e);rw[stepG_region_end];simp only[fv];refine⟨DQ.nil,?_⟩)
 ((refine gp rfl (fun _ e=>?_);replace hF:=WF.rely hF e;clear e);rw[fU];simp only[fv];refine⟨DQ.nil,?_⟩)
 (refine gp rfl (fun _ e=>?_);replace hF:=WF.rely hF e;clear e);rw[I1 rfl Tryz.func77 rfl rfl];simp only[fv];refine⟨DQ.nil,?_⟩;exact Goes.mono (Jn rfl (Cl Tryz.func76 rfl) _ hF) (by decide)
theorem Jp(hF:WF p w):Goes Tryz.prog false (oQ p) (DQ p.S) (xM Tryz.prog (p.kq B n CF) (p.u9 ρ args wS R)) (10+19) (born Tryz.prog (oP 76 #[box p.bW,box p.bF])) w :=
 Goes.bind RK.refl (fun g w0 h=>by
  obtain⟨e,m,t,rfl⟩:=h;exact Jf (fun c0 c1 a listed fuel t w r u y z A=>Jh (mo:=60) Jo r u y z A) e m t) (Jb hF)
end
section
open Go.Conc Go.ConcN Go.Proofs.YtjnkcibpkkjniaaGreat.j7
open Go.ConcR (KK wgBlock WgAt stA smA rd wr mk DC0)
def kL (b:Nat):Loc→Prop
 | .cell a=>a.block=b
 | .obj r=>r=b
 |_=>False
theorem kL.mem{b:Nat}{l:Loc}(h:kL b l):l.isMemory=true:=by cases l<;>first|rfl|exact h.elim
variable {l:Loc}
theorem kL.uniq{b b':Nat}(h:kL b l)(h':kL b' l):b=b':=by cases l<;>first|exact h.elim|exact h.symm.trans h'
variable [Scope]
def qs (ρ:jR):Loc→Prop
 | .cell a=>In ρ a
 | .obj r=>∃b,ρ b=some ⟨r,none⟩
 |_=>False
theorem qs.block{ρ:jR}{l:Loc}(h:qs ρ l):∃b p,ρ b=some p∧kL p.block l:=by
 cases l with
 |cell a=>obtain⟨b,p,e,m,_⟩:=h;exact⟨b,p,e,m.symm⟩
 |obj r=>obtain⟨b,hb⟩:=h;exact⟨b,_,hb,rfl⟩
 |_=>exact h.elim
theorem qs.mono{ρ ρ':jR}{l:Loc}(h:qs ρ l)(k:ρ.le ρ'):qs ρ' l:=by
 cases l with
 |cell a=>exact In.mono h k
 |obj r=>obtain⟨b,hb⟩:=h;exact⟨b,k _ _ hb⟩
 |_=>exact h.elim
def pV (ρ ρ':jR):Prop:=∀b p b' p',ρ b=some p→ρ' b'=some p'→p.block=p'.block →
 ∃x x':Span,p.part=some x∧p'.part=some x'∧(x.start+x.len≤x'.start∨x'.start+x'.len≤x.start)
theorem pV.symm{ρ ρ':jR}(h:pV ρ ρ'):pV ρ' ρ:=fun b p b' p' hb m e=>by
 obtain⟨x,r,u,y,z⟩:=h b' p' b p m hb e.symm;exact⟨r,x,y,u,z.symm⟩
variable {ρ ρ':jR}
theorem pV.loc(m:Scope.sync=false)(h:pV ρ ρ')(k:qs ρ l)(k':qs ρ' l):False:=by
 cases l with
 |cell a =>
  obtain⟨b,p,C,E,F⟩:=k;obtain⟨b',p',u,y,z⟩:=k';obtain⟨⟨s,l,ty⟩,⟨s',l',pg⟩,e,G,H⟩:=h b p b' p' C u (E.trans y.symm);have k1:=F s l ty e;have k2:=z s' l' pg G;rw[m]at k1 k2;simp only[dG,false_or]at k1 k2;simp only at H;omega
 |obj r =>
  obtain⟨b,hb⟩:=k;obtain⟨b',A⟩:=k';obtain⟨x,I,e,_⟩:=h b _ b' _ hb A rfl
  cases e
 |_=>exact k.elim
theorem Kept.leaves{ρ ρ':jR}{w w':World}(h:Kept ρ w w')(a:pV ρ ρ')(r:∀b p,ρ' b=some p→p.block<w.heap.size):Leaves ρ' w w':=by
 intro b p hb
 by_cases hx:∃y q,ρ y=some q∧q.block=p.block
 ·obtain⟨y,q,m,e⟩:=hx;obtain⟨⟨s,l,ty⟩,⟨s',l',pg⟩,u,z,A⟩:=a y q b p m hb e;rw[z];intro C E hC;obtain⟨L,M,F,fr,_,k1,k2,G,H⟩:=h.part y q s l ty m u;rw[e]at k1 k2;rw[hC]at k1
  cases k1
  refine⟨F,k2,G,fun i I K=>H i ?_⟩;simp only at I K A;omega
 ·have e:=h.other p.block (r b p hb) fun y q m e=>hx ⟨y,q,m,e⟩
  split
  ·exact e
  ·exact fun C E hC=>⟨C,e.trans hC,rfl,fun _ _ _=>rfl⟩
variable {ρ1:jR} {w:World}
theorem Grow.apart(g:Grow ρ w ρ1)(a:pV ρ ρ')(r:∀b p,ρ' b=some p→p.block<w.heap.size):pV ρ1 ρ':=by
 intro b p b' p' hb m e;rcases g.new b p hb with h|⟨_,h⟩
 ·exact a b p b' p' h m e
 ·have:=r b' p' m;omega
theorem Grow.loc(g:Grow ρ w ρ1)(h:qs ρ1 l):qs ρ l∨∃b,kL b l∧w.heap.size≤b:=by
 cases l with
 |cell a =>
  obtain⟨b,p,m,e,u⟩:=h;rcases g.new b p m with k|⟨_,k⟩
  ·exact .inl ⟨b,p,k,e,u⟩
  ·exact .inr ⟨p.block,e.symm,k⟩
 |obj r =>
  obtain⟨b,hb⟩:=h;rcases g.new b _ hb with k|⟨_,k⟩
  ·exact .inl ⟨b,k⟩
  ·exact .inr ⟨r,rfl,k⟩
 |_=>exact h.elim
def nI (N:mE) (l:Loc):Prop:=(∃a,l=.cell a∧a.block=N.Wg)∨l=.obj N.CB∨l=.obj N.CF
theorem nI.mem{N:mE}{l:Loc}(h:nI N l):l.isMemory=true:=by
 rcases h with⟨a,rfl,_⟩|rfl|rfl<;>rfl
theorem nI.block{N:mE}{l:Loc}(h:nI N l):kL N.Wg l∨kL N.CB l∨kL N.CF l:=by
 rcases h with⟨a,rfl,e⟩|rfl|rfl
 ·exact .inl e
 ·exact .inr (.inl rfl)
 ·exact .inr (.inr rfl)
structure Rl (N:mE) (t:Trace) (k r:Nat):Prop where
 rel:RelBy (stA N.Wg) t k r
 soft:∀(i:Nat) op x,r<i→t[i]?=some op→op.g=k→op.act.touch? = some x→x.loc.isMemory=true→nI N x.loc∧x.kind=.atomic
theorem Rl.appNot{N:mE}{t u:Trace}{k r:Nat}(h:Rl N t k r)(hu:∀op∈u,op.g≠k):Rl N (t++u) k r :=
 ⟨h.rel.appNot hu,fun i op x hr z y hx hm=>by
  rcases fF z with⟨_,e⟩|⟨_,m⟩
  ·exact h.soft i op x hr e y hx hm
  ·exact absurd y (hu op m)⟩
theorem Rl.appOwn{N:mE}{t:Trace}{k r:Nat}(h:Rl N t k r)(fn:FuncId)(pos:String)(es:Array Event)(m:∀j e,es[j]?=some e→(MemAct.ofEvent e).touch? = none∨((∃ad wr,e=⟨.cell ad,wr,true⟩∧ad.block=N.Wg)∧0<deafBehind (Deaf t k) (es.extract 0 j))):Rl N (t++MemOp.ofEvents k fn pos es) k r:=by
 refine⟨h.rel.appOwn fn pos es fun j e he=>(m j e he).imp id fun⟨⟨ad,wr,z,_⟩,hd⟩=>⟨⟨ad,wr,z⟩,hd⟩,fun i op x hr A C hx hm=>?_⟩;rcases fF A with⟨_,y⟩|⟨_,u⟩
 ·exact h.soft i op x hr y C hx hm
 ·rw[gF]at u;obtain⟨e,he,rfl⟩:=Array.mem_map.1 u;obtain⟨j,E⟩:=Array.mem_iff_getElem?.1 he;rcases m j e E with F|⟨⟨ad,wr,rfl,hb⟩,_⟩
  ·simp only at hx;rw[F]at hx;cases hx
  ·have:x=⟨.cell ad,wr,.atomic⟩:=by
    cases wr<;>simp[MemAct.ofEvent,MemAct.touch?]at hx<;>exact hx.symm
   subst this;exact⟨.inl ⟨ad,rfl,hb⟩,rfl⟩
theorem Rl.new{N:mE}{t:Trace}{k:Nat}(hd:Deaf t k=0)(fn:FuncId)(pos:String):Rl N (t++MemOp.ofEvents k fn pos #[Go.ConcR.mk (.releaseMerge (stA N.Wg))]) k t.size:=by
 refine⟨RelBy.new hd fn pos,fun i op x hr e h hx hm=>?_⟩;have:=fG e;simp[gF]at this;omega
def ud:Tg→Bool
 | .qt=>true
 |_=>false
structure St where
 j:Nat
 p:Nat
 D:Nat→WD
 tag:Tg
 fc:Nat
 dc:Nat
 d0:Nat
 q:Nat→Nat
 V:Nat→Prop
 W:Nat→Prop
 got:List Nat
 wait:List Nat
structure Ctx where
 P:Program
 N:mE
 pk:Machine→Nat×Nat×Option (Nat×Nat)
 m0:Machine
 t0:Trace
 Gt:Nat→Tape
 J:Nat→lC
 Sc:Nat→Prop
 lM:Goroutine→World→Prop
 mC:Nat
 Shun:Loc→Prop
section
variable (X:Ctx)
structure Ctx.Good:Prop where
 sync:Scope.sync=false
 pos:0<X.N.B
 pW:∀i,i<X.N.n→(X.J i).Good X.P
 anch:∀g w,X.lM g w→∃m,Goes X.P false (RK X.N.ty X.N.Wg X.Sc) DC0 (vL X.P false (RK X.N.ty X.N.Wg X.Sc) X.N.ty X.N.Wg X.lM (Nx X.P X.N X.Sc X.mC)) m g w
 sT:∀g w,X.lM g w→g.status=.running
 glue:∀i n j q,(kr X.P X.pk (X.N.B+i) X.m0 X.t0 n).1+j<(kr X.P X.pk (X.N.B+i) X.m0 X.t0 n).2→X.Gt i (kp (kr X.P X.pk (X.N.B+i) X.m0 X.t0) n+j) q=uV X.P X.m0 X.t0 n ((kr X.P X.pk (X.N.B+i) X.m0 X.t0 n).1+j) q
 pX:X.N.n<2147483647
 xP:∀gs w sl,(∀g∈gs,awake g)→(∃(i:Nat)(g:Goroutine),gs[i]?=some g∧g.status=.running) →
  ∃g,gs[(X.pk (crowd gs w sl)).1]?=some g∧g.status=.running∧stepT X.P (crowd gs w sl)=runT X.P (crowd gs (w.at (X.pk (crowd gs w sl)).2.1) (X.pk (crowd gs w sl)).2.2) (X.pk (crowd gs w sl)).1
 kq:X.N.Wg≠X.N.CB∧X.N.Wg≠X.N.CF∧X.N.CB≠X.N.CF
 oz:∀l,X.Shun l→l.isMemory=true∧¬nI X.N l∧¬kL X.N.Wg l∧¬kL X.N.CB l∧¬kL X.N.CF l
def oR (s:St) (k:Nat) (l:Loc):Prop:=∃i,i<X.N.n∧k=X.N.B+i∧qs (s.D i).ρ l
def rG (k:Nat) (l:Loc):Prop:=∃b,kL b l∧((∃i,i<X.N.n∧k=X.N.B+i∧(X.J i).S b)∨(k=X.N.B+X.N.n∧X.Sc b))
def KP (s:St) (k:Nat):Prop:=(X.N.B≤k∧k<X.N.B+s.j)∨(s.tag≠.sp∧k=X.N.B+X.N.n)
def vR:Tg→Bool
 | .sp=>true
 |_=>false
def np (s:St):Nat:=if vR s.tag then 0 else X.N.B+X.N.n
structure qJ (s:St) (w:World):Prop where
 lt:∀i,i<X.N.n→∀b p,(s.D i).ρ b=some p→p.block<w.heap.size∧¬s.V p.block∧p.block≠X.N.Wg∧p.block≠X.N.CB∧p.block≠X.N.CF
 apart:∀i i',i<X.N.n→i'<X.N.n→i≠i'→pV (s.D i).ρ (s.D i').ρ
 oz:∀i,i<X.N.n→∀b p l,(s.D i).ρ b=some p→kL p.block l→¬X.Shun l
 v:∀b,s.V b→b<w.heap.size∧b≠X.N.Wg∧b≠X.N.CB∧b≠X.N.CF∧∀l,kL b l→¬X.Shun l
 wv:∀b,s.W b→s.V b
 sj:∀i,i<s.j→∀b,(X.J i).S b→s.V b∧¬s.W b
 sc:s.tag≠.sp→∀b,X.Sc b→s.V b∧¬s.W b
 kq:X.N.Wg<w.heap.size∧X.N.CB<w.heap.size∧X.N.CF<w.heap.size
 old:∀l b,X.Shun l→kL b l→b<w.heap.size
structure Acq (t:Trace) (q:Nat):Prop where
 act:t.act? q=some (.mark (.acquire (stA X.N.Wg)))
 g:t.g? q=some (X.N.B+X.N.n)
 heard:t.heard q
 all:∀i,i<X.N.n→∃r,Rl X.N t (X.N.B+i) r∧r<q
structure ue (t:Trace) (q p:Nat):Prop where
 acq:Acq X t q
 lt:q<p
 act:t.act? p=some (.close X.N.CF)
 g:t.g? p=some (X.N.B+X.N.n)
 heard:t.heard p
 after:∀(i:Nat) op,p<i→t[i]?=some op→op.g=X.N.B+X.N.n→op.act.touch? = none
structure ku (s:St) (n:Nat) (gs:Array Goroutine) (w:World) (t:Trace):Prop where
 size:(s.tag=.sp→gs.size=X.N.B+s.j)∧(s.tag≠.sp→gs.size=X.N.B+X.N.n+1∧s.j=X.N.n∧s.p=0)
 jn:s.j+s.p≤X.N.n
 lv:∀i g,0<i→i<X.N.B→gs[i]?=some g→QuitsD X.P (s.q i) (Deaf t i) g
 wk:∀i,i<s.j→∃g,gs[X.N.B+i]?=some g∧WSit X.P X.N X.pk X.m0 X.t0 X.Gt X.J i n (s.D i) g w∧Deaf t (X.N.B+i)=(s.D i).deaf
 un:∀i,s.j≤i→i<X.N.n→(s.D i).ρ=(X.J i).ρ∧HR (X.J i).ρ (X.J i).wS w
 cl:s.tag≠.sp→∃g,gs[X.N.B+X.N.n]?=some g∧CSit X.P X.N X.Sc X.lM X.mC s.tag s.fc s.dc g w∧Deaf t (X.N.B+X.N.n)=s.dc
 hear:Deaf t 0=s.d0
 fresh:∀j,gs.size≤j→Deaf t j=0
 wg:∃st sm,WgAt X.N.ty X.N.Wg w st sm∧Mode s.j s.p s.D s.tag st sm
 back:w.heap[X.N.CB]?=some (.chan X.N.n (s.wait.map fun i=>(X.J i).msg (s.D i).v).toArray false (s.got.length+s.wait.length) s.got.length false)
 nodup:(s.got++s.wait).Nodup
 list:∀i,i∈s.got++s.wait↔i<s.j∧(s.D i).stage≤7
 fin:w.heap[X.N.CF]?=some (.chan 0 #[] (ud s.tag) 0 0 false)
 tr:PT (nI X.N) X.Shun (oR X s) (rG X) (KP X s) (np X s) t
 low:∀op∈t,op.act.low w.heap.size
 norel:NoRelease (stA X.N.Wg) t
 rel:∀i,i<s.j→(s.D i).stage≤6→∃r,Rl X.N t (X.N.B+i) r
 acq:s.tag=.cl→∃q,Acq X t q
 cls:s.tag=.qt→∃q p,ue X t q p
 j2:qJ X s w
 base:Scope.base≤w.heap.size
 os:w.os=X.m0.world.os
def meas (s:St):Nat×Nat:=(phi X.N.n (Vc s.j s.D) s.tag+Ssum s.j s.D,s.fc+2*(Fsum s.j s.D+sumTo X.N.B s.q))
end
section
variable {X:Ctx} {s:St} {w:World}
theorem qJ.vT(O:X.Good)(h:qJ X s w)(U:s.j≤X.N.n):Apart (nI X.N) X.Shun (oR X s) (rG X) (KP X s) where
 own:=fun k k' l _ _ ⟨i,C,e,u⟩ ⟨i',z,F,L⟩=>by
  by_cases G:i=i'
  ·subst G;exact e.trans F.symm
  ·exact(pV.loc O.sync (h.apart i i' C z G) u L).elim
 ownRd:=fun k k' l _ H ⟨i,C,e,u⟩ ⟨b,hb,A⟩=>by
  obtain⟨y,p,I,E⟩:=u.block;obtain rfl:=hb.uniq E;have M:s.V p.block:=by
   rcases A with⟨i',z,F,m⟩|⟨F,m⟩
   ·rcases H with⟨k1,k2⟩|⟨k1,k2⟩
    ·exact(h.sj i' (by omega) _ m).1
    ·omega
   ·rcases H with⟨k1,k2⟩|⟨k1,k2⟩
    ·omega
    ·exact(h.sc k1 _ m).1
  exact(h.lt i C y p I).2.1 M
 ownSh:=fun k l _ ⟨i,C,e,u⟩=>by
  obtain⟨y,p,I,E⟩:=u.block;have:=h.lt i C y p I;refine⟨fun A=>?_,h.oz i C y p l I E⟩;rcases A.block with hb|hb|hb
  ·exact this.2.2.1 (E.uniq hb)
  ·exact this.2.2.2.1 (E.uniq hb)
  ·exact this.2.2.2.2 (E.uniq hb)
 rdSh:=fun k l K ⟨b,hb,A⟩=>by
  have M:s.V b:=by
   rcases A with⟨i',z,F,m⟩|⟨F,m⟩
   ·rcases K with⟨k1,k2⟩|⟨k1,k2⟩
    ·exact(h.sj i' (by omega) _ m).1
    ·omega
   ·rcases K with⟨k1,k2⟩|⟨k1,k2⟩
    ·omega
    ·exact(h.sc k1 _ m).1
  have:=h.v b M;refine⟨fun A=>?_,this.2.2.2.2 l hb⟩;rcases A.block with r|r|r
  ·exact this.2.1 (hb.uniq r)
  ·exact this.2.2.1 (hb.uniq r)
  ·exact this.2.2.2.1 (hb.uniq r)
 zero:=fun K=>by
  have:=O.pos;rcases K with⟨u,_⟩|⟨_,u⟩<;>omega
 xJ:=fun l Q=>Q.mem
theorem ku.at{n n':Nat}{gs:Array Goroutine}{t:Trace}(u:X.Good)(h:ku X s n gs w t)(d:Nat)(y:∀i,i<X.N.n→kp (kr X.P X.pk (X.N.B+i) X.m0 X.t0) n'=kp (kr X.P X.pk (X.N.B+i) X.m0 X.t0) n):ku X s n' gs (w.at d) t :=
 {size:=h.size,jn:=h.jn,lv:=h.lv,hear:=h.hear,fresh:=h.fresh,back:=h.back,nodup:=h.nodup,list:=h.list,fin:=h.fin,tr:=h.tr,low:=h.low,norel:=h.norel,rel:=h.rel,acq:=h.acq,cls:=h.cls,base:=h.base,os:=h.os,wg:=h.wg
  j2:=⟨h.j2.lt,h.j2.apart,h.j2.oz,h.j2.v,h.j2.wv,h.j2.sj,h.j2.sc,h.j2.kq,h.j2.old⟩
  wk:=fun i z=>by
   obtain⟨g,e,m,r⟩:=h.wk i z;have:=h.jn;exact⟨g,e,m.rely u.sync (y i (by omega)) (RK.at w d) (Leaves.of_heap rfl) rfl,r⟩
  un:=fun i e m=>⟨(h.un i e m).1,HR.leaves u.sync (h.un i e m).2 (Leaves.of_heap rfl) rfl⟩
  cl:=fun A=>by
   obtain⟨g,e,m,r⟩:=h.cl A;exact⟨g,e,m.rely (RK.at w d),r⟩ }
end
end
section
open Go.Conc Go.ConcN Go.Proofs.YtjnkcibpkkjniaaGreat.j7
open Go.ConcR (KK wgBlock WgAt stA smA rd wr mk DC0)
variable [Scope]
variable {B b:Nat} {op:MemOp}
theorem Jq{x:Touch}(h:op.act.low B)(hx:op.act.touch? = some x)(hb:kL b x.loc):b<B:=by
 obtain⟨g,fn,pos,act⟩:=op
 cases act with
 |access e =>
  simp only[MemAct.touch?,dR]at hx;subst hx;obtain⟨loc,wr,r⟩:=e
  cases loc<;>first|exact hb.elim|(simp only[kL]at hb;subst hb;exact h)
 |mark m=>cases m<;>simp only[MemAct.touch?]at hx<;>first|(cases hx;simp only[kL]at hb;subst hb;exact h)|cases hx
 |_=>simp only[MemAct.touch?]at hx;cases hx
theorem Jr{t:Trace}(h:∀op∈t,op.act.low B)(hb:B≤b){l:Loc}(r:kL b l):∀i a,touchAt t i=some a→a.loc≠l:=by
 intro i a u e;obtain⟨x,hx,m⟩:=fE u;have:=Jq (h x (mem_of_getElem? hx)) m (b:=b) (e▸r);omega
theorem nC{g:Nat}{fn:FuncId}{pos:String}{es:Array Event}(h:op∈MemOp.ofEvents g fn pos es):op.g=g∧∃e∈es,op.act=.ofEvent e:=by
 obtain⟨e,he,rfl⟩:=eP h;exact⟨rfl,e,he,rfl⟩
theorem xQ{e:Event}{a:Addr}(h:e.loc≠.mark (.release a)):MemAct.ofEvent e≠.mark (.release a):=by
 obtain⟨loc,wr,r⟩:=e
 cases loc with
 |mark m=>intro k;apply h;simpa[MemAct.ofEvent]using k
 |obj c=>cases wr<;>cases r<;>simp[MemAct.ofEvent]
 |_=>simp[MemAct.ofEvent]
section
variable {X:Ctx} {s:St} {n:Nat} {gs:Array Goroutine} {w w':World} {t:Trace}
theorem Mode.Cq{j p:Nat}{D:Nat→WD}{tag:Tg}{st sm:Int}(h:Mode j p D tag st sm)(m:isFin tag):AllQuit j D:=by
 cases h with
 |opn e _ _=>cases tag<;>first|exact m.elim|exact e.elim
 |reg e=>cases tag<;>first|exact m.elim|exact e.elim
 |last L e=>cases tag<;>first|exact m.elim|exact e.elim
 |sema e=>rcases e with rfl|rfl<;>exact m.elim
 |fin _ _ h=>exact h
theorem Acq.app{q:Nat}{u:Trace}(h:Acq X t q)(hu:∀i r,i<X.N.n→Rl X.N t (X.N.B+i) r→Rl X.N (t++u) (X.N.B+i) r):Acq X (t++u) q:=by
 have e:=lt_of_act? h.act;exact⟨by rw[act?_old e];exact h.act,by rw[g?_old e];exact h.g,(heard_old e).2 h.heard,fun i m=>by
  obtain⟨r,y,z⟩:=h.all i m;exact⟨r,hu i r m y,z⟩⟩
theorem ue.app{q p:Nat}{u:Trace}(h:ue X t q p)(hu:∀i r,i<X.N.n→Rl X.N t (X.N.B+i) r→Rl X.N (t++u) (X.N.B+i) r)(z:∀op∈u,op.g=X.N.B+X.N.n→op.act.touch? = none):ue X (t++u) q p:=by
 have hp:=lt_of_act? h.act;exact⟨h.acq.app hu,h.lt,by rw[act?_old hp];exact h.act,by rw[g?_old hp];exact h.g,(heard_old hp).2 h.heard,fun i op A C y=>by
  rcases fF C with⟨_,e⟩|⟨_,m⟩
  ·exact h.after i op A e y
  ·exact z op m y⟩
variable {i:Nat} {x:WD} {tag':Tg}
theorem qJ.upd(h:qJ X s w)(L:i<X.N.n)(I:tag'≠.sp→s.tag≠.sp){C:Nat}(y:Grow (s.D i).ρ w x.ρ)(E:∀b p,x.ρ b=some p→p.block<w'.heap.size)(hsz:w.heap.size≤w'.heap.size):qJ X { s with D:=upd s.D i x,tag:=tag',fc:=C } w':=by
 refine⟨fun i' m b p hb=>?_,fun i1 i2 z A r=>?_,fun i' m b p l hb u F=>?_,fun b hb=>?_,h.wv,h.sj,fun k=>h.sc (I k),⟨dA h.kq.1 hsz,dA h.kq.2.1 hsz,dA h.kq.2.2 hsz⟩,fun l b u hb=>dA (h.old l b u hb) hsz⟩
 ·by_cases e:i'=i
  ·subst e;simp only[fg]at hb;refine⟨E b p hb,?_⟩;rcases y.new b p hb with k|⟨_,k⟩
   ·exact(h.lt i' m b p k).2
   ·refine⟨fun K=>?_,?_,?_,?_⟩
    ·have:=(h.v _ K).1;omega
    ·have:=h.kq.1;omega
    ·have:=h.kq.2.1;omega
    ·have:=h.kq.2.2;omega
  ·simp only[fi s.D x e]at hb;have:=h.lt i' m b p hb;exact⟨dA this.1 hsz,this.2⟩
 ·have old:∀i',i'<X.N.n→∀b p,(s.D i').ρ b=some p→p.block<w.heap.size:=fun i' m b p hb=>(h.lt i' m b p hb).1
  by_cases G:i1=i
  ·subst G;simp only[fg,fi s.D x (dE r)];exact Grow.apart y (h.apart i1 i2 z A r) (old i2 A)
  ·by_cases H:i2=i
   ·subst H;simp only[fg,fi s.D x G];exact(Grow.apart y (h.apart i2 i1 A z (dE r)) (old i1 z)).symm
   ·simp only[fi s.D x G,fi s.D x H];exact h.apart i1 i2 z A r
 ·by_cases e:i'=i
  ·subst e;simp only[fg]at hb;rcases y.new b p hb with k|⟨_,k⟩
   ·exact h.oz i' m b p l k u F
   ·have:=h.old l _ F u;omega
  ·simp only[fi s.D x e]at hb;exact h.oz i' m b p l hb u F
 ·have:=h.v b hb;exact⟨dA this.1 hsz,this.2⟩
def qK (s s':St):Prop:=s'.j=s.j∧s'.p=s.p∧s'.d0=s.d0∧s'.V=s.V∧s'.W=s.W∧(s'.tag=s.tag∨(s.tag=.blk∧s'.tag=.w3))∧s'.dc=s.dc∧∀i,i<s.j→(s.D i).stage≤7→(s'.D i).v=(s.D i).v
theorem ku.closer(u:X.Good)(h:ku X s n gs w t)(y:∀b,s.V b→w'.heap[b]?=w.heap[b]?)(z:WgLive X.N.ty X.N.Wg w')(g g':Goroutine):∃tag' m,(s.tag≠.sp→∃a,gs[X.N.B+X.N.n]?=some a∧CSit X.P X.N X.Sc X.lM X.mC tag' m s.dc (woken X.P g g' w' a) w'∧Deaf t (X.N.B+X.N.n)=s.dc)∧m≤s.fc+1∧(tag'=s.tag∨(s.tag=.blk∧tag'=.w3))∧(mayWake X.P g=true→g'.status=.running→tag'≠.blk):=by
 by_cases r:s.tag=.sp
 ·exact⟨s.tag,s.fc,fun e=>absurd r e,by omega,.inl rfl,fun _ _ e=>by rw[r]at e;cases e⟩
 ·obtain⟨a,A,C,E⟩:=h.cl r;obtain⟨tag',F,k1,k2,G,H⟩:=C.wokenBy u.sT ⟨fun b hb=>y b (h.j2.sc r b hb).1,fun _=>z⟩ g g';exact⟨tag',F,fun _=>⟨a,A,k1,E⟩,k2,G,H⟩
theorem oS(h:tag'=s.tag∨(s.tag=.blk∧tag'=.w3)):tag'=.sp↔s.tag=.sp:=by
 rcases h with rfl|⟨h,rfl⟩
 ·exact Iff.rfl
 ·rw[h];simp
theorem zy(h:tag'=s.tag∨(s.tag=.blk∧tag'=.w3)):ud tag'=ud s.tag:=by
 rcases h with rfl|⟨h,rfl⟩
 ·rfl
 ·rw[h];rfl
theorem ku.worker(hX:X.Good)(h:ku X s n gs w t)(hi:i<s.j){g g':Goroutine}{es:Array Event}{st' sm':Int}(hg:gs[X.N.B+i]?=some g)(hs:WSit X.P X.N X.pk X.m0 X.t0 X.Gt X.J i (n+1) x g' w')(hn:∀i',i'<X.N.n→i'≠i→kp (kr X.P X.pk (X.N.B+i') X.m0 X.t0) (n+1)=kp (kr X.P X.pk (X.N.B+i') X.m0 X.t0) n)(hsz:w.heap.size≤w'.heap.size)(M:w'.os=w.os)(hV:∀b,s.V b→w'.heap[b]?=w.heap[b]?)(ah:w'.heap[X.N.CB]?=w.heap[X.N.CB]?)(ai:w'.heap[X.N.CF]?=w.heap[X.N.CF]?)(hL:∀i',i'<X.N.n→i'≠i→Leaves (s.D i').ρ w w')(O:Grow (s.D i).ρ w x.ρ)(aj:∀b p,x.ρ b=some p→p.block<w'.heap.size)(ad:WgAt X.N.ty X.N.Wg w' st' sm')(Q:∀tag',(tag'=s.tag∨(s.tag=.blk∧tag'=.w3))→(mayWake X.P g=true→g'.status=.running→tag'≠.blk)→Mode s.j s.p (upd s.D i x) tag' st' sm')(ak:∀op∈MemOp.ofEvents (X.N.B+i) g.frame.fn g.frame.place es,∀a,op.act.touch? = some a→a.loc.isMemory=true→(nI X.N a.loc∧a.kind≠.plain∧a.kind≠.said)∨qs x.ρ a.loc∨(∃b,kL b a.loc∧(X.J i).S b∧a.write=false))(ae:∀e∈es,(MemAct.ofEvent e).low w'.heap.size)(al:∀e∈es,e.loc≠.mark (.release (stA X.N.Wg)))(U:deafBehind (s.D i).deaf es=x.deaf)(hrel:(s.D i).stage≤6→∀r,Rl X.N t (X.N.B+i) r→Rl X.N (t++MemOp.ofEvents (X.N.B+i) g.frame.fn g.frame.place es) (X.N.B+i) r)(W:x.stage≤6→(s.D i).stage≤6∨∃r,Rl X.N (t++MemOp.ofEvents (X.N.B+i) g.frame.fn g.frame.place es) (X.N.B+i) r)(Y:x.stage≤7↔(s.D i).stage≤7)(L:(s.D i).stage≤7→x.v=(s.D i).v)(Z:(x.stage<(s.D i).stage∧cnt x≤cnt (s.D i))∨(x.stage=(s.D i).stage∧x.fuel<(s.D i).fuel)):∃s',ku X s' (n+1) ((gs.map (woken X.P g g' w')).setIfInBounds (X.N.B+i) g') w' (t++MemOp.ofEvents (X.N.B+i) g.frame.fn g.frame.place es)∧Lt2 (meas X s') (meas X s)∧qK s s'∧s'.got=s.got∧s'.wait=s.wait:=by
 have aq:=h.jn;have aa:i<X.N.n:=by omega
 have F:WgLive X.N.ty X.N.Wg w':=⟨_,_,ad⟩;obtain⟨tag',E,am,ar,u,an⟩:=h.closer hX hV F g g';have af:X.N.B+i<gs.size:=(dp.1 hg).1;have hB:=hX.pos;have H:∀op∈MemOp.ofEvents (X.N.B+i) g.frame.fn g.frame.place es,op.g=X.N.B+i:=fun op z=>(nC z).1
 have ao:∀i',i'<s.j→RK X.N.ty X.N.Wg (X.J i').S w w':=fun i' m=>⟨fun b hb=>hV b (h.j2.sj i' m b hb).1,fun _=>F⟩
 have hz:qJ X { s with D:=upd s.D i x,tag:=tag',fc:=E } w':=h.j2.upd aa (fun e k=>e ((oS u).2 k)) O aj hsz;have C:∀k,k≠X.N.B+i→Deaf (t++MemOp.ofEvents (X.N.B+i) g.frame.fn g.frame.place es) k=Deaf t k:=fun k hk=>eN t (dE hk) _ H
 have hK:∀k,KP X { s with D:=upd s.D i x,tag:=tag',fc:=E } k↔KP X s k:=fun k=>by
  unfold KP;simp only[ne_eq,oS u]
 have ab:∀i' r,i'<X.N.n→Rl X.N t (X.N.B+i') r→((s.D i).stage≤6∨i'≠i)→Rl X.N (t++MemOp.ofEvents (X.N.B+i) g.frame.fn g.frame.place es) (X.N.B+i') r:=fun i' r m hr hc=>by
  by_cases e:i'=i
  ·subst e;exact hrel (hc.resolve_right (fun k=>k rfl)) r hr
  ·exact hr.appNot fun op z=>by rw[H op z];omega
 refine⟨{ s with D:=upd s.D i x,tag:=tag',fc:=E },⟨?_,h.jn,fun i' g1 h0 h1 h2=>?_,fun i' m=>?_,fun i' h1 h2=>?_,fun ht=>?_,?_,fun j hj=>?_,⟨st',sm',ad,Q tag' u an⟩,?_,h.nodup,fun i'=>?_,?_,?_,?_,?_,fun i' m I=>?_,fun ht=>?_,fun ht=>?_,hz,dz h.base hsz,M.trans h.os⟩,?_,⟨rfl,rfl,rfl,rfl,rfl,u,rfl,fun i' _ k=>by
   by_cases e:i'=i
   ·subst e;simp only[fg];exact L k
   ·simp only[fi s.D x e]⟩,rfl,rfl⟩
 ·simp only[gG,gH];exact⟨fun e=>h.size.1 ((oS u).1 e),fun e=>h.size.2 fun k=>e ((oS u).2 k)⟩
 ·rw[gI _ _ _ _ (by omega)]at h2;obtain⟨y,hy,rfl⟩:=eg.1 h2;have hq:=h.lv i' y h0 h1 hy;rw[eM hq,C i' (by omega)];exact hq
 ·have ag:i'<s.j:=m
  by_cases e:i'=i
  ·subst e;refine⟨g',by rw[gJ _ _ _ af],by simp only[fg];exact hs,?_⟩;obtain⟨g1,e1,_,e3⟩:=h.wk i' m;rw[fh,e3,U];simp only[fg]
  ·obtain⟨g1,e1,e2,e3⟩:=h.wk i' m;refine⟨g1,by rw[gI _ _ _ _ (by omega),e1,dH,e2.woken],?_,by rw[C _ (by omega),e3];simp only[fi s.D x e]⟩;simp only[fi s.D x e];exact e2.rely hX.sync (hn i' (by omega) e) (ao i' m) (hL i' (by omega) e) M
 ·have e:i'≠i:=by have:s.j≤i':=h1;omega
  simp only[fi s.D x e];have hu:=h.un i' h1 h2;have hle:=hL i' h2 e;rw[hu.1]at hle;exact⟨hu.1,HR.leaves hX.sync hu.2 hle M⟩
 ·obtain⟨a,k1,k2,k3⟩:=am fun k=>ht ((oS u).2 k)
  refine⟨_,by rw[gI _ _ _ _ (by omega),k1];rfl,k2,?_⟩;rw[C _ (by omega)];exact k3
 ·rw[C 0 (by omega)];exact h.hear
 ·have ap:gs.size≤j:=by simpa using hj
  rw[C j (by omega)];exact h.fresh j ap
 ·rw[ah,h.back];have K:(s.wait.map fun i'=>(X.J i').msg (upd s.D i x i').v)=s.wait.map fun i'=>(X.J i').msg (s.D i').v:=by
   refine gK fun i' m=>?_
   by_cases e:i'=i
   ·subst e;rw[fg,L ((h.list i').1 (gL _ m)).2]
   ·rw[fi s.D x e]
  rw[K]
 ·rw[h.list]
  by_cases e:i'=i
  ·subst e;simp only[fg,Y]
  ·simp only[fi s.D x e]
 ·rw[ai,h.fin,←zy u]
 ·have g1:PT (nI X.N) X.Shun (oR X { s with D:=upd s.D i x,tag:=tag',fc:=E }) (rG X) (KP X s) (np X s) t:=by
   refine h.tr.grow (fun k l hk ⟨i',m,e,K⟩=>⟨i',m,e,?_⟩) (fun k l hk ⟨i',m,e,K⟩=>?_)
   ·by_cases e':i'=i
    ·subst e';simp only[fg];exact K.mono O.le
    ·simp only[fi s.D x e'];exact K
   ·by_cases e':i'=i
    ·subst e';simp only[fg]at K;rcases Grow.loc O K with k1|⟨b,k1,k2⟩
     ·exact .inl ⟨i',m,e,k1⟩
     ·exact .inr (Jr h.low k2 k1)
    ·simp only[fi s.D x e']at K;exact .inl ⟨i',m,e,K⟩
  have eK:KP X { s with D:=upd s.D i x,tag:=tag',fc:=E }=KP X s:=funext fun k=>propext (hK k)
  have ec:np X { s with D:=upd s.D i x,tag:=tag',fc:=E }=np X s:=by
   unfold np;rcases u with e|⟨e1,e2⟩
   ·simp only[e]
   ·simp only[e1,e2,vR]
  rw[eK,ec];have A:=hz.vT hX (show s.j≤X.N.n by omega);rw[eK]at A;refine g1.B9 A (k:=X.N.B+i) (.inl ⟨by omega,by omega⟩) fun op z=>⟨H op z,fun a ha hm=>?_⟩
  rcases ak op z a ha hm with⟨k1,k2,k3⟩|k1|⟨b,k1,k2,k3⟩
  ·exact .inl ⟨k1,k2,fun e=>absurd e k3⟩
  ·exact .inr (.inl ⟨i,aa,rfl,by simp only[fg];exact k1⟩)
  ·exact .inr (.inr ⟨⟨b,k1,.inl ⟨i,aa,rfl,k2⟩⟩,k3⟩)
 ·intro op z;rcases dN.1 z with k|k
  ·exact MemAct.low_mono hsz (h.low op k)
  ·obtain⟨_,e,he,ha⟩:=nC k;rw[ha];exact ae e he
 ·refine h.norel.app fun op z=>?_
  obtain⟨_,e,he,ha⟩:=nC z;rw[ha];exact xQ (al e he)
 ·have ag:i'<s.j:=m
  by_cases e:i'=i
  ·subst e;simp only[fg]at I;rcases W I with k|k
   ·obtain⟨r,hr⟩:=h.rel i' m k;exact⟨r,hrel k r hr⟩
   ·exact k
  ·simp only[fi s.D x e]at I;obtain⟨r,hr⟩:=h.rel i' m I;exact⟨r,ab i' r (by omega) hr (.inr e)⟩
 ·have G:s.tag=.cl:=by
   rcases u with e|⟨_,e⟩
   ·exact e.symm.trans ht
   ·rw[show tag'=Tg.cl from ht]at e;cases e
  obtain⟨q,hq⟩:=h.acq G;obtain⟨_,_,_,hm⟩:=h.wg;have:=hm.Cq (by rw[G];exact trivial) i hi;exact⟨q,hq.app fun i' r m hr=>ab i' r m hr (.inl (by omega))⟩
 ·have G:s.tag=.qt:=by
   rcases u with e|⟨_,e⟩
   ·exact e.symm.trans ht
   ·rw[show tag'=Tg.qt from ht]at e;cases e
  obtain⟨q,p,hq⟩:=h.cls G;obtain⟨_,_,_,hm⟩:=h.wg;have:=hm.Cq (by rw[G];exact trivial) i hi;exact⟨q,p,hq.app (fun i' r m hr=>ab i' r m hr (.inl (by omega))) fun op z hg=>by rw[H op z]at hg;omega⟩
 ·have e1:=fb s.D x cnt hi;have e2:=fb s.D x WD.stage hi;have e3:=fb s.D x WD.fuel hi;unfold meas;simp only;rw[phi_retag X.N.n _ u];simp only[Vc,Ssum,Fsum]at *;rcases Z with⟨h1,h2⟩|⟨h1,h2⟩
  ·refine Prod.Lex.left _ _ ?_;have:=phi_mono X.N.n (v':=sumTo s.j fun a=>cnt (upd s.D i x a)) (v:=sumTo s.j fun a=>cnt (s.D a)) (by omega) s.tag;omega
  ·have ec:cnt x=cnt (s.D i):=by simp only[cnt,h1]
   have ev:(sumTo s.j fun a=>cnt (upd s.D i x a))=sumTo s.j fun a=>cnt (s.D a):=by omega
   have lz:(sumTo s.j fun a=>(upd s.D i x a).stage)=sumTo s.j fun a=>(s.D a).stage:=by omega
   rw[ev,lz];refine Prod.Lex.right _ ?_;omega
end
end
end Go.Proofs.YtjnkcibpkkjniaaGreat.kj
