import Derived.Test.YtjnkcibpkkjniaaGreatA10
import Derived.Test.YtjnkcibpkkjniaaGreatA12
import Derived.Test.YtjnkcibpkkjniaaGreatA04
import Derived.Conc.Company
import Derived.Conc.CrowdSel
import Derived.Conc.CompanyDraw
import Derived.Orders
import Derived.Below
import Derived.KernelRfl
import Derived.Test.YtjnkcibpkkjniaaGreatA05
import Derived.Test.YtjnkcibpkkjniaaGreatA06
import Derived.Test.YtjnkcibpkkjniaaGreatA07
import Derived.Deep.RegionLaw
import Derived.LoopN
import Derived.BigQuiet
import Derived.Deep.QuietTactic
import Derived.Laws.BitsAllLaws
import Derived.Laws.MakeOwn
import Derived.Test.YtjnkcibpkkjniaaGreatChecked
import Derived.Conc.WgGenN3
import Derived.Conc.BesideWords
import Derived.Laws.Build
import Derived.Laws.Tables
import Derived.Laws.ByValue
set_option linter.unusedVariables false
set_option linter.unusedSimpArgs false
set_option linter.unusedSectionVars false
namespace Go.Proofs.YtjnkcibpkkjniaaGreat.Pool
open Go.Conc Go.ConcN Go.Proofs.YtjnkcibpkkjniaaGreat.Sim
open Go.ConcR (KK wgBlock WgAt stA smA rd wr mk DC0)
section
variable {P:Program} {main:Bool} {R:World→World→Prop} {D D':World→World→Array Event→Prop} {S1 S2:Goroutine→World→Prop}
theorem Goes.monoD (hD:∀ w w' es,D w w' es→D' w w' es):∀ {n:Nat} {g:Goroutine} {w:World},Goes P main R D S1 n g w→Goes P main R D' S1 n g w:=by
 intro n
 induction n with
 | zero=>intro g w h;exact h
 | succ n ih =>
  intro g w h
  rcases h with h | ⟨hs,h⟩
  ·exact .inl h
  ·refine .inr ⟨hs,fun w₁ h₁=>?_⟩
   have:=h w₁ h₁
   revert this
   cases stepG P main g w₁ <;> simp only [GStep.goes,imp_self]
   exact fun ⟨d,x⟩=>⟨hD _ _ _ d,ih x⟩
theorem Goes.bind (refl:∀ w,R w w) {m2:Nat} (h2:∀ g w,S1 g w→Goes P main R D S2 m2 g w):∀ {n:Nat} {g:Goroutine} {w:World},Goes P main R D S1 n g w→Goes P main R D S2 (n+m2) g w:=by
 intro n
 induction n with
 | zero=>intro g w h;rw [Nat.zero_add];exact h2 g w (h w (refl w))
 | succ n ih =>
  intro g w h
  rcases h with h | ⟨hs,h⟩
  ·exact Goes.mono (h2 g w (h w (refl w))) (by omega)
  ·rw [show n+1+m2=(n+m2)+1 by omega]
   refine .inr ⟨hs,fun w₁ h₁=>?_⟩
   have:=h w₁ h₁
   revert this
   cases stepG P main g w₁ <;> simp only [GStep.goes,imp_self]
   exact fun ⟨d,x⟩=>⟨d,ih x⟩
end
structure RK (ty:TypeId) (Wg:Nat) (S:Nat→Prop) (w w₁:World):Prop where
 keep:∀ b,S b→w₁.heap[b]? = w.heap[b]?
 live:WgLive ty Wg w→WgLive ty Wg w₁
theorem RK.refl {ty:TypeId} {Wg:Nat} {S:Nat→Prop} (w:World):RK ty Wg S w w:=⟨fun _ _=>rfl,id⟩
theorem RK.trans {ty:TypeId} {Wg:Nat} {S:Nat→Prop} (a b c:World) (h:RK ty Wg S a b) (k:RK ty Wg S b c):RK ty Wg S a c:=⟨fun x hx=>(k.keep x hx).trans (h.keep x hx),fun h1=>k.live (h.live h1)⟩
theorem RK.at {ty:TypeId} {Wg:Nat} {S:Nat→Prop} (w:World) (d:Nat):RK ty Wg S w (w.at d):=⟨fun _ _=>rfl,id⟩
def DQ (S:Nat→Prop) (w w':World) (es:Array Event):Prop:=(∃ d,w'=w.at d)∧∀ e∈es,∃ a:Addr,e=⟨.cell a,false,false⟩∧S a.block
theorem DQ.of0 {S:Nat→Prop} {w w':World} {es:Array Event} (h:DC0 w w' es):DQ S w w' es:=by
 obtain ⟨rfl,rfl⟩:=h
 exact ⟨⟨_,rfl⟩,by simp⟩
structure Nums where
 B:Nat
 n:Nat
 Wg:Nat
 CB:Nat
 CF:Nat
 ty:TypeId
 z:Value
structure Job where
 S:Nat→Prop
 f:FuncId
 args:Array Value
 args':Array Value
 wS:World
 ok:Value→Prop
 msg:Value→Value
variable [Scope]
structure Work extends Job where
 ρ:Ren
 R:Value→World→Prop
structure Work.Good (P:Program) (J:Work):Prop where
 okf:Scope.ok J.f=true
 rel:VsR J.ρ J.args J.args'
 calls:∀ T,Calls P J.f J.args { J.wS with tape:=T,drawn:=0 } fun e w'=>∃ v,e=.returned v∧J.R v w'
 shape:∀ v w ρ v',J.R v w→VR ρ v v'→J.ok v'
def Leaves (ρ:Ren) (w w':World):Prop:=∀ b p,ρ b=some p→match p.part with
 | none=>w'.heap[p.block]? = w.heap[p.block]?
 | some x=>∀ C E,w.heap[p.block]? = some (.cells C E (0,0))→∃ C',w'.heap[p.block]? = some (.cells C' E (0,0))∧C'.size=C.size∧∀ i:Nat,x.start≤i→i < x.start+x.len→C'[i]? = C[i]?
theorem Leaves.refl (ρ:Ren) (w:World):Leaves ρ w w:=by
 intro b p h
 split
 ·rfl
 ·exact fun C E hc=>⟨C,hc,rfl,fun _ _ _=>rfl⟩
theorem Leaves.of_heap {ρ:Ren} {w w':World} (h:w'.heap=w.heap):Leaves ρ w w':=by
 intro b p hb
 rw [h]
 exact Leaves.refl ρ w b p hb
theorem Leaves.block {ρ:Ren} {w w':World} (h:∀ b p,ρ b=some p→w'.heap[p.block]? = w.heap[p.block]?):Leaves ρ w w':=by
 intro b p hb
 rw [h b p hb]
 exact Leaves.refl ρ w b p hb
theorem Leaves.obj {ρ:Ren} {w w':World} (h:Leaves ρ w w') {b:Nat} {p:Sim.Place} {o o':Obj} (hb:ρ b=some p) (h1:w.heap[p.block]? = some o) (h2:ObjR ρ p o' o):∃ o2,w'.heap[p.block]? = some o2∧ObjR ρ p o' o2:=by
 have:=h b p hb
 unfold ObjR at h2 ⊢
 split at this
 ·rename_i e
  rw [e] at h2 ⊢
  exact ⟨o,this.trans h1,h2⟩
 ·rename_i x e
  rw [e] at h2 ⊢
  obtain ⟨c,C,rfl,rfl,hd,hp⟩:=h2
  obtain ⟨C',e1,e2,e3⟩:=this C _ h1
  refine ⟨_,e1,c,C',rfl,rfl,hd,hp.size,by rw [e2];exact hp.room,fun i v hv=>?_⟩
  have hi:i < x.len:=by have:=(Array.getElem?_eq_some_iff.1 hv).1;rw [hp.size] at this;exact this
  obtain ⟨v',k1,k2⟩:=hp.get i v hv
  exact ⟨v',by rw [e3 (x.start+i) (by omega) (by omega)];exact k1,k2⟩
theorem HR.leaves {ρ:Ren} {wS w w':World} (hsy:Scope.sync=false) (h:HR ρ wS w) (hl:Leaves ρ w w') (hos:w'.os=w.os):HR ρ wS w' :=
 ⟨fun b p hb=>by
  obtain ⟨o,o',h1,h2,h3⟩:=h.obj b p hb
  obtain ⟨o2,k1,k2⟩:=hl.obj hb h2 h3
  exact ⟨o,o2,h1,k1,k2⟩,h.inj,h.base,hos.trans h.os,fun e=>by rw [hsy] at e;cases e⟩
theorem Ride.leaves {P:Program} {m0:Machine} {K:Nat} {T:Tape} {ρ:Ren} {cs:List Frame} {k D:Nat} {gS g:Goroutine} {wS w w':World} (hsy:Scope.sync=false) (h:Ride P m0 K T ρ cs k D gS wS g w) (hl:Leaves ρ w w') (hos:w'.os=w.os):Ride P m0 K T ρ cs k D gS wS g w' :=
 ⟨h.run,h.gr,HR.leaves hsy h.hr hl hos,h.tape,h.drawn,h.le⟩
structure WD where
 stage:Nat
 fuel:Nat
 deaf:Nat
 ρ:Ren
 v:Value
section
variable (P:Program) (N:Nums)
def AtSend (S:Nat→Prop) (v:Value) (g:Goroutine) (w:World):Prop :=
 g.status=.running∧stepG P false g w=.comm g #[scase N.CB v N.z] true .send w #[]∧∃ m,Goes P false (RK N.ty N.Wg S) (DQ S) (DnR P false (RK N.ty N.Wg S) N.ty N.Wg) m (Go.Conc.served g undef) w
def Back (J:Work) (c:Frame) (cs:List Frame) (w:World):Prop :=
 ∀ v',J.ok v'→∃ m,Goes P false (RK N.ty N.Wg J.S) (DQ J.S) (AtSend P N J.S (J.msg v')) m { frame:=c.finish v',callers:=cs,status:=.running,dying:=none } w
def AtCall (J:Work) (g:Goroutine) (w:World):Prop :=
 g.status=.running∧∃ c cs,(∀ w₁,RK N.ty N.Wg J.S w w₁→stepG P false g w₁=.go { frame:=Frame.enter P J.f J.args' .normal,callers:=c::cs,status:=.running,dying:=none } w₁ #[])∧Back P N J c cs w
def Gn (J:Work) (ρ:Ren):Prop:=J.ρ.le ρ∧∀ b p,ρ b=some p→J.ρ b=some p∨(p.part=none∧Scope.base≤p.block)
theorem Gn.refl (J:Work):Gn J J.ρ:=⟨Ren.le_refl _,fun _ _ h=>.inl h⟩
theorem Gn.grow {J:Work} {ρ ρ':Ren} {w:World} (h:Gn J ρ) (hbase:Scope.base≤w.heap.size) (g:Grow ρ w ρ'):Gn J ρ' :=
 ⟨Ren.le_trans h.1 g.le,fun b p hb=>by
  rcases g.new b p hb with k | ⟨k,k2⟩
  ·exact h.2 b p k
  ·exact .inr ⟨k,by omega⟩⟩
def Done (J:Work) (ρ:Ren) (v':Value) (w:World):Prop:=J.ok v'∧Gn J ρ∧∃ v wE,HR ρ wE w∧VR ρ v v'∧J.R v wE
def loneOf (J:Work) (T:Tape):Machine:=lone (Frame.enter P J.f J.args .normal) [cap P] { J.wS with tape:=T,drawn:=0 }
variable (pk:Machine→Nat×Nat×Option (Nat×Nat)) (m0:Machine) (t0:Trace) (Gt:Nat→Tape) (J:Nat→Work)
inductive WSit (i n:Nat):WD→Goroutine→World→Prop
 | pre {m:Nat} {g:Goroutine} {w:World}:Goes P false (RK N.ty N.Wg (J i).S) (DQ (J i).S) (AtCall P N (J i)) m g w→HR (J i).ρ (J i).wS w→WSit i n ⟨10,m,0,(J i).ρ,undef⟩ g w
 | ride {k K d0 D:Nat} {T:Tape} {ρ:Ren} {c:Frame} {cs:List Frame} {gS g:Goroutine} {wS w wE:World} {frE:Frame} {v:Value} :
   T=(fun x q=>Gt i (d0+x) q)→d0+D=sums (segOf P pk (N.B+i) m0 t0) n→EndsAt P (loneOf P (J i) T) K frE wE→frE.leaving P wE (.returned v)→(J i).R v wE →
   Ride P (loneOf P (J i) T) K T ρ (c::cs) k D gS wS g w→Back P N (J i) c cs w→Gn (J i) ρ→WSit i n ⟨9,K - k,0,ρ,undef⟩ g w
 | post {m:Nat} {ρ:Ren} {v':Value} {g:Goroutine} {w:World}:Goes P false (RK N.ty N.Wg (J i).S) (DQ (J i).S) (AtSend P N (J i).S ((J i).msg v')) m g w→Done (J i) ρ v' w→WSit i n ⟨8,m,0,ρ,v'⟩ g w
 | r0 {m:Nat} {ρ:Ren} {v':Value} {g:Goroutine} {w:World}:Goes P false (RK N.ty N.Wg (J i).S) (DQ (J i).S) (DnR P false (RK N.ty N.Wg (J i).S) N.ty N.Wg) m g w→Done (J i) ρ v' w→WSit i n ⟨7,m,0,ρ,v'⟩ g w
 | k1 {m:Nat} {ρ:Ren} {v':Value} {g:Goroutine} {w:World}:Goes P false (RK N.ty N.Wg (J i).S) DC0 (DnK P false (RK N.ty N.Wg (J i).S) N.ty N.Wg) m g w→Done (J i) ρ v' w→WSit i n ⟨6,m,0,ρ,v'⟩ g w
 | d1 {m:Nat} {ρ:Ren} {v':Value} {g:Goroutine} {w:World}:Goes P false (RK N.ty N.Wg (J i).S) DC0 (Dn1 P false (RK N.ty N.Wg (J i).S) N.ty N.Wg) m g w→Done (J i) ρ v' w→WSit i n ⟨5,m,1,ρ,v'⟩ g w
 | d2 {m:Nat} {ρ:Ren} {v':Value} {g:Goroutine} {w:World}:Goes P false (RK N.ty N.Wg (J i).S) DC0 (Dn2 P false (RK N.ty N.Wg (J i).S) N.ty N.Wg) m g w→Done (J i) ρ v' w→WSit i n ⟨4,m,1,ρ,v'⟩ g w
 | d3 {m:Nat} {ρ:Ren} {v':Value} {g:Goroutine} {w:World}:Goes P false (RK N.ty N.Wg (J i).S) DC0 (Dn3 P false (RK N.ty N.Wg (J i).S) N.ty N.Wg) m g w→Done (J i) ρ v' w→WSit i n ⟨3,m,1,ρ,v'⟩ g w
 | d4 {m:Nat} {ρ:Ren} {v':Value} {g:Goroutine} {w:World}:Goes P false (RK N.ty N.Wg (J i).S) DC0 (Dn4 P false N.ty N.Wg) m g w→Done (J i) ρ v' w→WSit i n ⟨2,m,1,ρ,v'⟩ g w
 | quit {q d:Nat} {ρ:Ren} {v':Value} {g:Goroutine} {w:World}:QuitsD P q d g→Done (J i) ρ v' w→WSit i n ⟨1,q,d,ρ,v'⟩ g w
end
section
variable {P:Program} {N:Nums} {pk:Machine→Nat×Nat×Option (Nat×Nat)} {m0:Machine} {t0:Trace} {Gt:Nat→Tape} {J:Nat→Work} {i n:Nat} {d:WD} {g:Goroutine} {w w₁:World}
theorem Done.leaves (hsy:Scope.sync=false) {J:Work} {ρ:Ren} {v':Value} (h:Done J ρ v' w) (hl:Leaves ρ w w₁) (hos:w₁.os=w.os):Done J ρ v' w₁:=by
 obtain ⟨h1,h0,v,wE,h2,h3,h4⟩:=h
 exact ⟨h1,h0,v,wE,HR.leaves hsy h2 hl hos,h3,h4⟩
theorem Back.rely {J:Work} {c:Frame} {cs:List Frame} (h:Back P N J c cs w) (hr:RK N.ty N.Wg J.S w w₁):Back P N J c cs w₁:=fun v' hv=>by
 obtain ⟨m,hm⟩:=h v' hv
 exact ⟨m,Goes.rely RK.trans hm hr⟩
theorem AtCall.rely {J:Work} (h:AtCall P N J g w) (hr:RK N.ty N.Wg J.S w w₁):AtCall P N J g w₁:=by
 obtain ⟨h1,c,cs,h2,h3⟩:=h
 exact ⟨h1,c,cs,fun w₂ h₂=>h2 w₂ (RK.trans _ _ _ hr h₂),h3.rely hr⟩
theorem WSit.rely (hsy:Scope.sync=false) {n':Nat} (hn:sums (segOf P pk (N.B+i) m0 t0) n'=sums (segOf P pk (N.B+i) m0 t0) n) (h:WSit P N pk m0 t0 Gt J i n d g w) (hr:RK N.ty N.Wg (J i).S w w₁) (hl:Leaves d.ρ w w₁) (hos:w₁.os=w.os):WSit P N pk m0 t0 Gt J i n' d g w₁:=by
 cases h with
 | pre h1 h2=>exact .pre (Goes.rely RK.trans h1 hr) (HR.leaves hsy h2 hl hos)
 | ride h1 h2 h3 h4 h5 h6 h7 h8=>exact .ride h1 (h2.trans hn.symm) h3 h4 h5 (Ride.leaves hsy h6 hl hos) (h7.rely hr) h8
 | post h1 h2=>exact .post (Goes.rely RK.trans h1 hr) (h2.leaves hsy hl hos)
 | r0 h1 h2=>exact .r0 (Goes.rely RK.trans h1 hr) (h2.leaves hsy hl hos)
 | k1 h1 h2=>exact .k1 (Goes.rely RK.trans h1 hr) (h2.leaves hsy hl hos)
 | d1 h1 h2=>exact .d1 (Goes.rely RK.trans h1 hr) (h2.leaves hsy hl hos)
 | d2 h1 h2=>exact .d2 (Goes.rely RK.trans h1 hr) (h2.leaves hsy hl hos)
 | d3 h1 h2=>exact .d3 (Goes.rely RK.trans h1 hr) (h2.leaves hsy hl hos)
 | d4 h1 h2=>exact .d4 (Goes.rely RK.trans h1 hr) (h2.leaves hsy hl hos)
 | quit h1 h2=>exact .quit h1 (h2.leaves hsy hl hos)
theorem WSit.status (h:WSit P N pk m0 t0 Gt J i n d g w):g.status=.running∨g.status=.finished:=by
 cases h with
 | pre h1 _=>exact .inl (Goes.running (fun _ _ x=>x.1) w (RK.refl w) h1)
 | ride _ _ _ _ _ h6 _ _=>exact .inl h6.gr.status.2
 | post h1 _=>exact .inl (Goes.running (fun _ _ x=>x.1) w (RK.refl w) h1)
 | r0 h1 _=>exact .inl (Goes.running (fun _ _ x=>x.1) w (RK.refl w) h1)
 | k1 h1 _=>exact .inl (Goes.running (fun _ _ x=>x.1) w (RK.refl w) h1)
 | d1 h1 _=>exact .inl (Goes.running (fun _ _ x=>x.1) w (RK.refl w) h1)
 | d2 h1 _=>exact .inl (Goes.running (fun _ _ x=>x.1) w (RK.refl w) h1)
 | d3 h1 _=>exact .inl (Goes.running (fun _ _ x=>x.1) w (RK.refl w) h1)
 | d4 h1 _=>exact .inl (Goes.running (fun _ _ x=>x.1) w (RK.refl w) h1)
 | quit h1 _=>exact h1.status
theorem WSit.runs (h:WSit P N pk m0 t0 Gt J i n d g w) (hd:d.stage≠1):g.status=.running:=by
 cases h with
 | pre h1 _=>exact Goes.running (fun _ _ x=>x.1) w (RK.refl w) h1
 | ride _ _ _ _ _ h6 _ _=>exact h6.gr.status.2
 | post h1 _=>exact Goes.running (fun _ _ x=>x.1) w (RK.refl w) h1
 | r0 h1 _=>exact Goes.running (fun _ _ x=>x.1) w (RK.refl w) h1
 | k1 h1 _=>exact Goes.running (fun _ _ x=>x.1) w (RK.refl w) h1
 | d1 h1 _=>exact Goes.running (fun _ _ x=>x.1) w (RK.refl w) h1
 | d2 h1 _=>exact Goes.running (fun _ _ x=>x.1) w (RK.refl w) h1
 | d3 h1 _=>exact Goes.running (fun _ _ x=>x.1) w (RK.refl w) h1
 | d4 h1 _=>exact Goes.running (fun _ _ x=>x.1) w (RK.refl w) h1
 | quit _ _=>exact absurd rfl hd
theorem WSit.woken (h:WSit P N pk m0 t0 Gt J i n d g w) (a a':Goroutine) (w':World):woken P a a' w' g=g:=by
 unfold Go.Conc.woken
 split
 ·exact again_running _ h.status
 ·rfl
theorem WSit.stage (h:WSit P N pk m0 t0 Gt J i n d g w):1≤d.stage∧d.stage≤10:=by cases h <;> simp
theorem WSit.deafs (h:WSit P N pk m0 t0 Gt J i n d g w):6≤d.stage→d.deaf=0:=by cases h <;> simp
theorem WSit.done (h:WSit P N pk m0 t0 Gt J i n d g w):d.stage≤8→Done (J i) d.ρ d.v w:=by cases h <;> simp <;> assumption
end
inductive Tg where
 | sp | kd | anch | w1 | w2 (vs:Nat) | wr | w3 | blk | w4 | ke | acq | cl | qt
def phi (n v:Nat):Tg→Nat
 | .sp=>0
 | .kd=>8 * n+7
 | .anch=>8 * v+6
 | .w1=>8 * v+5
 | .w2 vs=>8 * vs+4
 | .wr=>11
 | .w3=>10
 | .blk=>10
 | .w4=>9
 | .ke=>4
 | .acq=>3
 | .cl=>2
 | .qt=>1
section
variable (P:Program) (N:Nums) (Sc:Nat→Prop) (Anch:Goroutine→World→Prop)
local notation "RC"=>RK N.ty N.Wg Sc
def AtClose (g:Goroutine) (w:World):Prop :=
 g.status=.running∧mayWake P g=true∧(w.heap[N.CF]? = some (.chan 0 #[] false 0 0 false)→∃ g',stepG P false g w=.go g' (w.setChan N.CF 0 #[] true 0 0 false) #[⟨.obj N.CF,false,true⟩,⟨.obj N.CF,true,true⟩]∧∃ q,QuitsD P q 0 g')
def Nx (m:Nat) (g:Goroutine) (w:World):Prop:=Goes P false RC (DQ Sc) (AtClose P N) m g w
inductive CSit (mC:Nat):Tg→Nat→Nat→Goroutine→World→Prop
 | kd {m:Nat} {g:Goroutine} {w:World}:Goes P false RC (DQ Sc) (Says P false RC (mk .disable) Anch) m g w→CSit mC .kd m 0 g w
 | anch {m:Nat} {g:Goroutine} {w:World}:Goes P false RC DC0 Anch m g w→CSit mC .anch m 1 g w
 | w1 {m:Nat} {g:Goroutine} {w:World}:Goes P false RC DC0 (Wa1 P false RC N.ty N.Wg Anch (Nx P N Sc mC)) m g w→CSit mC .w1 m 1 g w
 | w2 {vs m:Nat} {g:Goroutine} {w:World}:Goes P false RC DC0 (Wa2 P false RC N.ty N.Wg Anch (Nx P N Sc mC) vs) m g w→CSit mC (.w2 vs) m 1 g w
 | wr {m:Nat} {g:Goroutine} {w:World}:Goes P false RC DC0 (WaR P false RC N.ty N.Wg (Nx P N Sc mC)) m g w→CSit mC .wr m 1 g w
 | w3 {m:Nat} {g:Goroutine} {w:World}:Goes P false RC DC0 (Wa3 P false RC N.ty N.Wg (Nx P N Sc mC)) m g w→CSit mC .w3 (m+1) 1 g w
 | blk {g:Goroutine} {w:World}:(∀ w₁,RC w w₁→Wa3 P false RC N.ty N.Wg (Nx P N Sc mC) g w₁)→CSit mC .blk 0 1 { g with status:=.blocked } w
 | w4 {m:Nat} {g:Goroutine} {w:World}:Goes P false RC DC0 (Wa4 P false RC N.ty N.Wg (Nx P N Sc mC)) m g w→CSit mC .w4 m 1 g w
 | ke {m:Nat} {g:Goroutine} {w:World}:Goes P false RC DC0 (WaE P false RC N.Wg (Nx P N Sc mC)) m g w→CSit mC .ke m 1 g w
 | acq {m:Nat} {g:Goroutine} {w:World}:Goes P false RC DC0 (Says P false RC (mk (.acquire (stA N.Wg))) (Nx P N Sc mC)) m g w→CSit mC .acq m 0 g w
 | cl {m:Nat} {g:Goroutine} {w:World}:Goes P false RC (DQ Sc) (AtClose P N) m g w→CSit mC .cl m 0 g w
 | qt {q d:Nat} {g:Goroutine} {w:World}:QuitsD P q d g→CSit mC .qt q d g w
end
section
variable {P:Program} {N:Nums} {Sc:Nat→Prop} {Anch:Goroutine→World→Prop} {mC:Nat} {tag:Tg} {f d:Nat} {a:Goroutine} {w w':World}
theorem CSit.rely (h:CSit P N Sc Anch mC tag f d a w) (hr:RK N.ty N.Wg Sc w w'):CSit P N Sc Anch mC tag f d a w':=by
 have tr:=@RK.trans N.ty N.Wg Sc
 cases h with
 | kd h=>exact .kd (Goes.rely tr h hr)
 | anch h=>exact .anch (Goes.rely tr h hr)
 | w1 h=>exact .w1 (Goes.rely tr h hr)
 | w2 h=>exact .w2 (Goes.rely tr h hr)
 | wr h=>exact .wr (Goes.rely tr h hr)
 | w3 h=>exact .w3 (Goes.rely tr h hr)
 | blk h=>exact .blk (fun w₂ h₂=>h w₂ (tr _ _ _ hr h₂))
 | w4 h=>exact .w4 (Goes.rely tr h hr)
 | ke h=>exact .ke (Goes.rely tr h hr)
 | acq h=>exact .acq (Goes.rely tr h hr)
 | cl h=>exact .cl (Goes.rely tr h hr)
 | qt h=>exact .qt h
theorem CSit.status (hAr:∀ g w,Anch g w→g.status=.running) (h:CSit P N Sc Anch mC tag f d a w):(a.status=.running∧tag≠.blk)∨(a.status=.blocked∧tag=.blk)∨(a.status=.finished∧tag=.qt):=by
 cases h with
 | kd h=>exact .inl ⟨Goes.running (fun _ _ x=>x.1) w (.refl w) h,by simp⟩
 | anch h=>exact .inl ⟨Goes.running hAr w (.refl w) h,by simp⟩
 | w1 h=>exact .inl ⟨Goes.running (fun _ _ x=>x.1) w (.refl w) h,by simp⟩
 | w2 h=>exact .inl ⟨Goes.running (fun _ _ x=>x.1) w (.refl w) h,by simp⟩
 | wr h=>exact .inl ⟨Goes.running (fun _ _ x=>x.1) w (.refl w) h,by simp⟩
 | w3 h=>exact .inl ⟨Goes.running (fun _ _ x=>x.1) w (.refl w) h,by simp⟩
 | blk h=>exact .inr (.inl ⟨rfl,rfl⟩)
 | w4 h=>exact .inl ⟨Goes.running (fun _ _ x=>x.1) w (.refl w) h,by simp⟩
 | ke h=>exact .inl ⟨Goes.running (fun _ _ x=>x.1) w (.refl w) h,by simp⟩
 | acq h=>exact .inl ⟨Goes.running (fun _ _ x=>x.1) w (.refl w) h,by simp⟩
 | cl h=>exact .inl ⟨Goes.running (fun _ _ x=>x.1) w (.refl w) h,by simp⟩
 | qt h=>exact h.status.elim (fun e=>.inl ⟨e,by simp⟩) fun e=>.inr (.inr ⟨e,rfl⟩)
theorem CSit.wokenBy (hAr:∀ g w,Anch g w→g.status=.running) (h:CSit P N Sc Anch mC tag f d a w) (hr:RK N.ty N.Wg Sc w w') (g g':Goroutine) :
  ∃ tag' f',CSit P N Sc Anch mC tag' f' d (woken P g g' w' a) w'∧f'≤f+1∧(tag'=tag∨(tag=.blk∧tag'=.w3))∧(mayWake P g=true→g'.status=.running→tag'≠.blk):=by
 have h':=h.rely hr
 unfold Go.Conc.woken
 split
 ·rcases h'.status hAr with ⟨hs,hne⟩ | ⟨_,rfl⟩ | ⟨hs,rfl⟩
  ·exact ⟨tag,f,by rw [again_running _ (.inl hs)];exact h',by omega, .inl rfl,fun _ _=>hne⟩
  ·cases h' with
   | blk hb =>
    rename_i g0
    have h3:=hb w' (.refl w')
    exact ⟨.w3,0+1,by rw [Go.ConcR.again_blocked h3.1 h3.2.1];exact .w3 (Goes.stop hb),by omega, .inr ⟨rfl,rfl⟩,fun _ _=>by simp⟩
  ·exact ⟨.qt,f,by rw [again_running _ (.inr hs)];exact h',by omega, .inl rfl,fun _ _=>by simp⟩
 ·rename_i hc
  exact ⟨tag,f,h',by omega, .inl rfl,fun h1 h2=>absurd (by simp [h1,h2]) hc⟩
end
def cnt (d:WD):Nat:=if 5≤d.stage then 1 else 0
def Vc (j:Nat) (D:Nat→WD):Nat:=sumTo j fun i=>cnt (D i)
def Ssum (j:Nat) (D:Nat→WD):Nat:=sumTo j fun i=>(D i).stage
def Fsum (j:Nat) (D:Nat→WD):Nat:=sumTo j fun i=>(D i).fuel
def isOpen:Tg→Prop
 | .sp | .kd | .anch | .w1 | .w2 _=>True
 | _=>False
def isW3:Tg→Prop
 | .wr | .w3 | .blk=>True
 | _=>False
def isFin:Tg→Prop
 | .w4 | .ke | .acq | .cl | .qt=>True
 | _=>False
def OpenSt (j:Nat) (D:Nat→WD):Prop:=∀ i,i < j→5≤(D i).stage∨(D i).stage=1
def AllQuit (j:Nat) (D:Nat→WD):Prop:=∀ i,i < j→(D i).stage=1
inductive Mode (j p:Nat) (D:Nat→WD):Tg→Int→Int→Prop
 | opn {tag:Tg}:isOpen tag→OpenSt j D→(∀ vs,tag=.w2 vs→Vc j D≤vs∧1≤vs)→Mode j p D tag (((Vc j D+p:Nat):Int) * KK) 0
 | reg {tag:Tg}:isW3 tag→p=0→OpenSt j D→1≤Vc j D→Mode j p D tag (((Vc j D:Nat):Int) * KK+1) 0
 | last {tag:Tg} (L:Nat):isW3 tag→p=0→L < j→((D L).stage=4∨(D L).stage=3∨(D L).stage=2)→(∀ i,i < j→i≠L→(D i).stage=1)→Mode j p D tag (if (D L).stage=2 then 0 else 1) 0
 | sema {tag:Tg}:(tag=.w3∨tag=.wr)→p=0→AllQuit j D→Mode j p D tag 0 1
 | fin {tag:Tg}:isFin tag→p=0→AllQuit j D→Mode j p D tag 0 0
theorem phi_mono (n:Nat) {v v':Nat} (h:v'≤v) (tag:Tg):phi n v' tag≤phi n v tag:=by
 cases tag <;> simp only [phi] <;> omega
theorem phi_retag (n v:Nat) {tag tag':Tg} (e:tag'=tag∨(tag=.blk∧tag'=.w3)):phi n v tag'=phi n v tag:=by
 rcases e with rfl | ⟨rfl,rfl⟩ <;> rfl
theorem Mode.retag {j p:Nat} {D:Nat→WD} {tag tag':Tg} {st sm:Int} (h:Mode j p D tag st sm) (e:tag'=tag∨(tag=.blk∧tag'=.w3)):Mode j p D tag' st sm:=by
 rcases e with rfl | ⟨rfl,rfl⟩
 ·exact h
 ·cases h with
  | opn h1 _ _=>exact h1.elim
  | reg _ h0 h2 h3=>exact .reg trivial h0 h2 h3
  | last L _ h0 h2 h3 h4=>exact .last L trivial h0 h2 h3 h4
  | sema h _ _=>rcases h with h | h <;> cases h
  | fin h1 _=>exact h1.elim
theorem Vc_upd {j i:Nat} (D:Nat→WD) (x:WD) (hi:i < j):Vc j (upd D i x)+cnt (D i)=Vc j D+cnt x:=sumTo_upd D x cnt hi
theorem Vc_le (j:Nat) (D:Nat→WD):Vc j D≤j:=by
 have:=sumTo_le (f:=fun i=>cnt (D i)) (c:=1) (j:=j) fun i _=>by simp only [cnt];split <;> omega
 simpa [Vc] using this
theorem Vc_zero {j:Nat} {D:Nat→WD} (h:Vc j D=0) (ho:OpenSt j D):AllQuit j D:=by
 intro i hi
 have:=le_sumTo (f:=fun i=>cnt (D i)) hi
 rw [show sumTo j (fun i=>cnt (D i))=Vc j D from rfl,h] at this
 rcases ho i hi with h5 | h1
 ·simp only [cnt,h5,if_true] at this;omega
 ·exact h1
theorem Vc_quit {j:Nat} {D:Nat→WD} (h:AllQuit j D):Vc j D=0:=by
 have:Vc j D=sumTo j fun _=>0:=sumTo_congr fun i hi=>by simp [cnt,h i hi]
 rw [this]
 have:=sumTo_le (f:=fun _=>0) (c:=0) (j:=j) fun _ _=>Nat.le_refl _
 omega
theorem Mode.congr {j p:Nat} {D D':Nat→WD} {tag:Tg} {st sm:Int} (h:∀ a,a < j→(D' a).stage=(D a).stage) (hm:Mode j p D tag st sm):Mode j p D' tag st sm:=by
 have hv:Vc j D'=Vc j D:=sumTo_congr fun a ha=>by simp only [cnt,h a ha]
 cases hm with
 | opn h1 h2 h3=>rw [←hv];exact .opn h1 (fun a ha=>by rw [h a ha];exact h2 a ha) (fun vs e=>by rw [hv];exact h3 vs e)
 | reg h1 h0 h2 h3=>rw [←hv];exact .reg h1 h0 (fun a ha=>by rw [h a ha];exact h2 a ha) (by rw [hv];exact h3)
 | last L h1 h0 h2 h3 h4=>rw [←h L h2];exact .last L h1 h0 h2 (by rw [h L h2];exact h3) (fun a ha e=>by rw [h a ha];exact h4 a ha e)
 | sema h1 h0 h2=>exact .sema h1 h0 fun a ha=>by rw [h a ha];exact h2 a ha
 | fin h1 h0 h2=>exact .fin h1 h0 fun a ha=>by rw [h a ha];exact h2 a ha
theorem Mode.counted {j p i:Nat} {D:Nat→WD} {tag:Tg} {st sm:Int} (hm:Mode j p D tag st sm) (hi:i < j) (h5:5≤(D i).stage) {x:WD} (hs:5≤x.stage):Mode j p (upd D i x) tag st sm:=by
 have hv:Vc j (upd D i x)=Vc j D:=by
  have:=Vc_upd D x hi
  have c1:cnt (D i)=1:=by simp [cnt,h5]
  have c2:cnt x=1:=by simp [cnt,hs]
  omega
 have ho:OpenSt j D→OpenSt j (upd D i x):=fun h a ha=>by
  by_cases e:a=i
  ·subst e;rw [upd_same];exact .inl hs
  ·rw [upd_ne D _ e];exact h a ha
 cases hm with
 | opn h1 h2 h3=>rw [←hv];exact .opn h1 (ho h2) (fun vs e=>by rw [hv];exact h3 vs e)
 | reg h1 h0 h2 h3=>rw [←hv];exact .reg h1 h0 (ho h2) (by rw [hv];exact h3)
 | last L h1 h0 h2 h3 h4 =>
  by_cases e:i=L
  ·subst e;omega
  ·have:=h4 i hi e;omega
 | sema _ _ h2=>have:=h2 i hi;omega
 | fin _ _ h2=>have:=h2 i hi;omega
theorem Mode.isLast {j p i:Nat} {D:Nat→WD} {tag:Tg} {st sm:Int} (hm:Mode j p D tag st sm) (hi:i < j) (h:(D i).stage=4∨(D i).stage=3∨(D i).stage=2) :
  isW3 tag∧p=0∧(∀ a,a < j→a≠i→(D a).stage=1)∧st=(if (D i).stage=2 then 0 else 1)∧sm=0:=by
 cases hm with
 | opn _ h2 _=>have:=h2 i hi;omega
 | reg _ _ h2 _=>have:=h2 i hi;omega
 | last L h1 h0 h2 h3 h4 =>
  by_cases e:i=L
  ·subst e;exact ⟨h1,h0,h4,rfl,rfl⟩
  ·have:=h4 i hi e;omega
 | sema _ _ h2=>have:=h2 i hi;omega
 | fin _ _ h2=>have:=h2 i hi;omega
theorem others_uncounted {j i:Nat} {D:Nat→WD} (hi:i < j) (h1:Vc j D=1) (hc:cnt (D i)=1):∀ a,a < j→a≠i→cnt (D a)=0:=by
 intro a ha e
 have h0:=Vc_upd D (⟨0,0,0,fun _=>none,undef⟩:WD) hi
 have c0:cnt (⟨0,0,0,fun _=>none,undef⟩:WD)=0:=rfl
 have:=le_sumTo (f:=fun x=>cnt (upd D i ⟨0,0,0,fun _=>none,undef⟩ x)) ha
 simp only [upd_ne D _ e] at this
 simp only [Vc] at h0 h1
 omega
end Go.Proofs.YtjnkcibpkkjniaaGreat.Pool
namespace Go.Proofs.YtjnkcibpkkjniaaGreat.Pool
open Go.Conc
structure Tab (ops:Array Oper) (val:Nat→Value) (fix:List (Nat×Value)) (T:Nat) (listed:Array Bool) (a:Act):Prop where
 defers:a.defers=[]
 size:a.tmps.size=T
 fix:∀ x∈fix,a.tmps[x.1]? = some x.2
 val:∀ (i:Nat) o (d:Nat),ops[i]? = some o→listed.getD i false=true→o.dst=some d→a.tmps[d]? = some (val i)
 lsz:listed.size=ops.size
 deps:∀ (i:Nat) o,ops[i]? = some o→listed.getD i false=true→∀ e∈o.after,Region.binds .any e=true→listed.getD e.on false=true
def okOps (ops:Array Oper) (nf:List Nat) (T:Nat):Bool :=
 (List.range ops.size).all fun i=>match ops[i]? with
  | some o=>(match o.dst with
   | some d=>(!nf.contains d) && decide (d < T) && (List.range ops.size).all fun j=>decide (i=j) || decide (((ops[j]?).bind (·.dst))≠some d)
   | none=>true) && o.after.all (fun e=>decide (e.on < i)) && o.guard.isNone
  | none=>true
theorem okOps_at {ops:Array Oper} {nf:List Nat} {T:Nat} (h:okOps ops nf T=true) {i:Nat} {o:Oper} (ho:ops[i]? = some o) :
  (∀ d,o.dst=some d→d ∉ nf∧d < T∧∀ (j:Nat) o',ops[j]? = some o'→o'.dst=some d→j=i)∧(∀ e∈o.after,e.on < i)∧o.guard=none:=by
 have hi:i < ops.size:=(Array.getElem?_eq_some_iff.1 ho).1
 have:=List.all_eq_true.1 h i (List.mem_range.2 hi)
 simp only [ho,Bool.and_eq_true] at this
 obtain ⟨⟨h1,h2⟩,h3⟩:=this
 refine ⟨fun d hd=>?_,fun e he=>by simpa using (Array.all_eq_true_iff_forall_mem.1 h2 e he),by simpa using h3⟩
 rw [hd] at h1
 simp only [Bool.and_eq_true,decide_eq_true_eq] at h1
 refine ⟨by have:=h1.1.1;simpa using this,h1.1.2,fun j o' hj hd'=>?_⟩
 have hjs:j < ops.size:=(Array.getElem?_eq_some_iff.1 hj).1
 have:=List.all_eq_true.1 h1.2 j (List.mem_range.2 hjs)
 simp only [Bool.or_eq_true,decide_eq_true_eq,hj,Option.bind_some,hd'] at this
 rcases this with e | e
 ·exact e.symm
 ·exact absurd rfl e
theorem getD_set (l:Array Bool) (i j:Nat) (hi:i < l.size) (d:Bool):(l.setIfInBounds i true).getD j d=if j=i then true else l.getD j d:=by
 rw [Array.getD_eq_getD_getElem?,Array.getD_eq_getD_getElem?,Array.getElem?_setIfInBounds]
 by_cases h:i=j
 ·subst h;simp [hi]
 ·simp [h,Ne.symm h]
theorem Tab.put {ops:Array Oper} {val val':Nat→Value} {fix:List (Nat×Value)} {T:Nat} (hok:okOps ops (fix.map (·.1)) T=true) {listed:Array Bool} {a:Act} (h:Tab ops val fix T listed a) {i:Nat} {o:Oper} (ho:ops[i]? = some o) {v:Value} (hr:i∈Region.ready .any ops listed) (hv:val' i=v)
  (hvv:∀ j,listed.getD j false=true→val' j=val j):Tab ops val' fix T (listed.setIfInBounds i true) (a.put o.dst v):=by
 have hi:i < ops.size:=(Array.getElem?_eq_some_iff.1 ho).1
 obtain ⟨h1,_,_⟩:=okOps_at hok ho
 have tm:(a.put o.dst v).tmps=match o.dst with | some d=>a.tmps.setIfInBounds d v | none=>a.tmps:=by cases hd:o.dst <;> rfl
 have df:(a.put o.dst v).defers=a.defers:=by cases hd:o.dst <;> rfl
 refine ⟨df.trans h.defers,?_,fun x hk=>?_,fun j o' d hj hl hd=>?_,by simpa using h.lsz,fun j o' hj hl e he hb=>?_⟩
 ·rw [tm];cases o.dst <;> simp [h.size]
 ·rw [tm]
  cases hd:o.dst with
  | none=>exact h.fix x hk
  | some d =>
   have hne:d≠x.1:=fun e=>(h1 d hd).1 (by rw [e];exact List.mem_map_of_mem hk)
   simp only
   rw [Array.getElem?_setIfInBounds_ne hne]
   exact h.fix x hk
 ·rw [getD_set _ _ _ (by rw [h.lsz];exact hi)] at hl
  rw [tm]
  by_cases e:j=i
  ·subst e
   rw [ho] at hj
   obtain rfl:=Option.some.inj hj
   rw [hd]
   simp only
   rw [Array.getElem?_setIfInBounds_self_of_lt (by rw [h.size];exact (h1 d hd).2.1),hv]
  ·rw [if_neg e] at hl
   rw [hvv j hl]
   cases hd':o.dst with
   | none=>exact h.val j o' d hj hl hd
   | some d' =>
    simp only
    have hne:d'≠d:=fun e'=>by
     subst e'
     exact e ((h1 d' hd').2.2 j o' hj hd)
    rw [Array.getElem?_setIfInBounds_ne hne]
    exact h.val j o' d hj hl hd
 ·rw [getD_set _ _ _ (by rw [h.lsz];exact hi)] at hl ⊢
  split
  ·rfl
  by_cases e':j=i
  ·subst e'
   obtain ⟨_,o2,k1,k2⟩:=mem_ready.1 hr
   rw [hj] at k1
   obtain rfl:=Option.some.inj k1
   exact k2 e he hb
  ·rw [if_neg e'] at hl
   exact h.deps j o' hj hl e he hb
def unl (ops:Array Oper) (listed:Array Bool):Nat:=((List.range ops.size).filter fun i=>!listed.getD i false).length
theorem unl_zero {ops:Array Oper} {listed:Array Bool} (h:unl ops listed=0):∀ i,i < ops.size→listed.getD i false=true:=by
 intro i hi
 have:=List.length_eq_zero_iff.1 h
 rw [List.filter_eq_nil_iff] at this
 have:=this i (List.mem_range.2 hi)
 simpa using this
theorem unl_set {ops:Array Oper} {listed:Array Bool} {i:Nat} (hi:i < ops.size) (hs:listed.size=ops.size) (hl:listed.getD i false=false):unl ops (listed.setIfInBounds i true) < unl ops listed:=by
 unfold unl
 have hsub:((List.range ops.size).filter fun j=>!(listed.setIfInBounds i true).getD j false)=((List.range ops.size).filter fun j=>!listed.getD j false).filter (fun j=>decide (j≠i)):=by
  rw [List.filter_filter]
  refine List.filter_congr fun j _=>?_
  rw [getD_set _ _ _ (by omega)]
  by_cases e:j=i <;> simp [e]
 rw [hsub]
 have hmem:i∈(List.range ops.size).filter fun j=>!listed.getD j false:=List.mem_filter.2 ⟨List.mem_range.2 hi,by simp [hl]⟩
 refine Nat.lt_of_le_of_ne (List.length_filter_le _ _) fun e=>?_
 have:=List.length_filter_eq_length_iff.1 e i hmem
 simp at this
theorem ready_all {ops:Array Oper} {nf:List Nat} {T:Nat} (hok:okOps ops nf T=true) {listed:Array Bool} (hs:listed.size=ops.size) (hr:Region.ready .any ops listed=[]):∀ i,i < ops.size→listed.getD i false=true:=by
 intro i
 induction i using Nat.strongRecOn with
 | _ i ih =>
  intro hi
  refine Classical.byContradiction fun hn=>?_
  have ho:ops[i]? = some ops[i]:=Array.getElem?_eq_getElem hi
  have hm:i∈Region.ready .any ops listed:=mem_ready.2 ⟨by
   have:listed[i]? = some listed[i]:=Array.getElem?_eq_getElem (by omega)
   rw [Array.getD_eq_getD_getElem?,this] at hn ⊢
   simpa using hn,_,ho,fun e he _=>by
   have hlt:=(okOps_at hok ho).2.1 e he
   exact ih e.on hlt (by omega)⟩
  rw [hr] at hm
  cases hm
section
variable {P:Program} {mn:Bool} {R:World→World→Prop} {S:Nat→Prop} {ops:Array Oper} {val:Nat→Value} {fix:List (Nat×Value)} {T:Nat} {sp L0:Nat→Bool} {Sok:World→Prop} {b:Frame} {k:List Item} {cs:List Frame}
def LinStop (ops:Array Oper) (val:Nat→Value) (fix:List (Nat×Value)) (T:Nat) (sp L0:Nat→Bool) (Sok:World→Prop) (b:Frame) (k:List Item) (cs:List Frame) (g:Goroutine) (w:World):Prop :=
  Sok w∧∃ a listed,Tab ops val fix T listed a∧(∀ j,sp j=true→listed.getD j false=L0 j) ∧
    ((∃ i fuel t,sp i=true∧i∈Region.ready .any ops listed∧unl ops listed≤fuel+1∧g=G (b.at a (.inRegion ops (i::Region.linearise.go .any ops fuel t (listed.setIfInBounds i true) [])::k)) cs) ∨
     ((∀ i,i < ops.size→listed.getD i false=true)∧g=G (b.at a (.inRegion ops []::k)) cs))
theorem lin_walk (trans:∀ a b c,R a b→R b c→R a c) (hSR:∀ w w₁,R w w₁→Sok w→Sok w₁) (hok:okOps ops (fix.map (·.1)) T=true) (hb:b.kind≠.early)
  (hop:∀ (i:Nat) o (listed:Array Bool) (a:Act) (w:World),ops[i]? = some o→i∈Region.ready .any ops listed→sp i=false→Tab ops val fix T listed a→Sok w→(execOp a.eval o).run P w=.ok (.value (val i)) w∧∀ e∈(execOp a.eval o).events P w #[],∃ ad:Addr,e=⟨.cell ad,false,false⟩∧S ad.block) :
  ∀ (fuel t:Nat) (listed:Array Bool) (a:Act) (w:World),Tab ops val fix T listed a→(∀ j,sp j=true→listed.getD j false=L0 j)→Sok w→unl ops listed≤fuel →
   Goes P mn R (DQ S) (LinStop ops val fix T sp L0 Sok b k cs) fuel (G (b.at a (.inRegion ops (Region.linearise.go .any ops fuel t listed [])::k)) cs) w:=by
 intro fuel
 induction fuel with
 | zero =>
  intro t listed a w ht hL hs hu
  exact fun w₁ h₁=>⟨hSR _ _ h₁ hs,a,listed,ht,hL, .inr ⟨unl_zero (by omega),by simp [Region.linearise.go]⟩⟩
 | succ fuel ih =>
  intro t listed a w ht hL hs hu
  simp only [Region.linearise.go]
  change Goes P mn R (DQ S) (LinStop ops val fix T sp L0 Sok b k cs) (fuel+1) (G (b.at a (.inRegion ops (match (Region.ready .any ops listed)[t % (Region.ready .any ops listed).length]? with
   | some i=>Region.linearise.go .any ops fuel (t / (Region.ready .any ops listed).length) (listed.setIfInBounds i true) [i]
   | none=>[].reverse)::k)) cs) w
  cases hi:(Region.ready .any ops listed)[t % (Region.ready .any ops listed).length]? with
  | none =>
   have hnil:Region.ready .any ops listed=[]:=by
    cases hr:Region.ready .any ops listed with
    | nil=>rfl
    | cons x xs =>
     rw [hr] at hi
     have hlt:t % (x::xs).length < (x::xs).length:=Nat.mod_lt _ (by simp)
     simp at hi;simp at hlt;omega
   exact Goes.stop fun w₁ h₁=>⟨hSR _ _ h₁ hs,a,listed,ht,hL, .inr ⟨ready_all hok ht.lsz hnil,rfl⟩⟩
  | some i =>
   simp only []
   rw [linearise_go_acc,List.reverse_singleton,List.singleton_append]
   have hir:i∈Region.ready .any ops listed:=List.mem_of_getElem? hi
   obtain ⟨hul,o,ho,_⟩:=mem_ready.1 hir
   have hio:i < ops.size:=(Array.getElem?_eq_some_iff.1 ho).1
   have hul':listed.getD i false=false:=by
    have hsz:i < listed.size:=by rw [ht.lsz];exact hio
    rw [Array.getD_eq_getD_getElem?,Array.getElem?_eq_getElem hsz] at hul ⊢
    simpa using hul
   cases hsp:sp i with
   | true=>exact Goes.stop fun w₁ h₁=>⟨hSR _ _ h₁ hs,a,listed,ht,hL, .inl ⟨i,fuel,_,hsp,hir,hu,rfl⟩⟩
   | false =>
    refine Goes.step rfl fun w₁ h₁=>?_
    obtain ⟨e1,e2⟩:=hop i o listed a w₁ ho hir hsp ht (hSR _ _ h₁ hs)
    have hg:=(okOps_at hok ho).2.2
    have hw:Region.wanted o (yielded ops a.tmps)=true:=by simp [Region.wanted,hg]
    rw [stepG_value ho hw hb e1]
    refine ⟨⟨⟨w₁.drawn,rfl⟩,fun e he=>e2 e (mem_listed he)⟩,?_⟩
    refine ih _ _ _ _ (ht.put hok ho hir rfl fun _ _=>rfl) (fun j hj=>?_) (hSR _ _ h₁ hs) ?_
    ·rw [getD_set _ _ _ (by rw [ht.lsz];exact hio),if_neg (fun e=>by rw [e,hsp] at hj;cases hj)]
     exact hL j hj
    have:=unl_set hio ht.lsz hul'
    omega
end
end Go.Proofs.YtjnkcibpkkjniaaGreat.Pool
namespace Go.Proofs.YtjnkcibpkkjniaaGreat.Pool
open Go
structure TabPD (D:List Deferred) (ops:Array Oper) (val:Nat→Value→World→Prop) (fix:List (Nat×Value)) (T:Nat) (listed:Array Bool) (a:Act) (w:World):Prop where
 defers:a.defers=D
 size:a.tmps.size=T
 fix:∀ x∈fix,a.tmps[x.1]? = some x.2
 val:∀ (i:Nat) o (d:Nat),ops[i]? = some o→listed.getD i false=true→o.dst=some d→∃ v,a.tmps[d]? = some v∧val i v w
 lsz:listed.size=ops.size
 deps:∀ (i:Nat) o,ops[i]? = some o→listed.getD i false=true→∀ e∈o.after,Region.binds .any e=true→listed.getD e.on false=true
theorem TabPD.put {D:List Deferred} {ops:Array Oper} {val:Nat→Value→World→Prop} {fix:List (Nat×Value)} {T:Nat} (hok:okOps ops (fix.map (·.1)) T=true) {listed:Array Bool} {a:Act} {w w':World} (h:TabPD D ops val fix T listed a w) {i:Nat} {o:Oper} (ho:ops[i]? = some o) {v:Value} (hr:i∈Region.ready .any ops listed) (hv:val i v w')
  (hvv:∀ j u,listed.getD j false=true→val j u w→val j u w'):TabPD D ops val fix T (listed.setIfInBounds i true) (a.put o.dst v) w':=by
 have hi:i < ops.size:=(Array.getElem?_eq_some_iff.1 ho).1
 obtain ⟨h1,_,_⟩:=okOps_at hok ho
 have tm:(a.put o.dst v).tmps=match o.dst with | some d=>a.tmps.setIfInBounds d v | none=>a.tmps:=by cases hd:o.dst <;> rfl
 have df:(a.put o.dst v).defers=a.defers:=by cases hd:o.dst <;> rfl
 refine ⟨df.trans h.defers,?_,fun x hk=>?_,fun j o' d hj hl hd=>?_,by simpa using h.lsz,fun j o' hj hl e he hb=>?_⟩
 ·rw [tm];cases o.dst <;> simp [h.size]
 ·rw [tm]
  cases hd:o.dst with
  | none=>exact h.fix x hk
  | some d =>
   have hne:d≠x.1:=fun e=>(h1 d hd).1 (by rw [e];exact List.mem_map_of_mem hk)
   simp only
   rw [Array.getElem?_setIfInBounds_ne hne]
   exact h.fix x hk
 ·rw [getD_set _ _ _ (by rw [h.lsz];exact hi)] at hl
  rw [tm]
  by_cases e:j=i
  ·subst e
   rw [ho] at hj
   obtain rfl:=Option.some.inj hj
   rw [hd]
   simp only
   rw [Array.getElem?_setIfInBounds_self_of_lt (by rw [h.size];exact (h1 d hd).2.1)]
   exact ⟨v,rfl,hv⟩
  ·rw [if_neg e] at hl
   cases hd':o.dst with
   | none =>
    obtain ⟨u,k1,k2⟩:=h.val j o' d hj hl hd
    exact ⟨u,k1,hvv j u hl k2⟩
   | some d' =>
    simp only
    have hne:d'≠d:=fun e'=>by
     subst e'
     exact e ((h1 d' hd').2.2 j o' hj hd)
    rw [Array.getElem?_setIfInBounds_ne hne]
    obtain ⟨u,k1,k2⟩:=h.val j o' d hj hl hd
    exact ⟨u,k1,hvv j u hl k2⟩
 ·rw [getD_set _ _ _ (by rw [h.lsz];exact hi)] at hl ⊢
  split
  ·rfl
  by_cases e':j=i
  ·subst e'
   obtain ⟨_,o2,k1,k2⟩:=mem_ready.1 hr
   rw [hj] at k1
   obtain rfl:=Option.some.inj k1
   exact k2 e he hb
  ·rw [if_neg e'] at hl
   exact h.deps j o' hj hl e he hb
abbrev TabP (ops:Array Oper) (val:Nat→Value→World→Prop) (fix:List (Nat×Value)) (T:Nat) (listed:Array Bool) (a:Act) (w:World):Prop:=TabPD [] ops val fix T listed a w
theorem TabPD.dep {D:List Deferred} {ops:Array Oper} {val:Nat→Value→World→Prop} {fix:List (Nat×Value)} {T:Nat} {listed:Array Bool} {a:Act} {w:World} (ht:TabPD D ops val fix T listed a w) {i:Nat} {o:Oper} (ho:ops[i]? = some o) (hr:i∈Region.ready .any ops listed) {j:Nat} {o':Oper} {d:Nat} (hj:ops[j]? = some o') (hd:o'.dst=some d) (he:∃ e∈o.after,e.on=j∧Region.binds .any e=true) :
  ∃ v,a.tmps[d]? = some v∧val j v w:=by
 obtain ⟨e,h1,h2,h3⟩:=he
 obtain ⟨_,o2,k1,k2⟩:=mem_ready.1 hr
 rw [ho] at k1
 obtain rfl:=Option.some.inj k1
 subst h2
 exact ht.val e.on o' d hj (k2 e h1 h3) hd
section
variable {P:Program} {ops:Array Oper} {Q:Exit→Act→World→Prop} {val:Nat→Value→World→Prop} {fix:List (Nat×Value)} {T:Nat} {Sok:Array Bool→World→Prop}
theorem wpAny_lin (hok:okOps ops (fix.map (·.1)) T=true)
  (hop:∀ (i:Nat) (o:Oper) (listed:Array Bool) (a:Act) (w:World),ops[i]? = some o→i∈Region.ready .any ops listed→TabP ops val fix T listed a w→Sok listed w →
   ∀ K:Act→World→Prop,(∀ v w',val i v w'→(∀ j u,listed.getD j false=true→val j u w→val j u w')→Sok (listed.setIfInBounds i true) w'→K (a.put o.dst v) w')→o.wp P a w K Q)
  (hend:∀ (listed:Array Bool) (a:Act) (w:World),TabP ops val fix T listed a w→(∀ i,i < ops.size→listed.getD i false=true)→Sok listed w→Q .normal a w) :
  ∀ (fuel:Nat) (listed:Array Bool) (a:Act) (w:World),TabP ops val fix T listed a w→Sok listed w→unl ops listed≤fuel→wpAny P .any ops Q fuel listed a w:=by
 intro fuel
 induction fuel with
 | zero =>
  intro listed a w ht hs hu
  have hall:=unl_zero (ops:=ops) (listed:=listed) (by omega)
  refine ⟨?_,hend listed a w ht hall hs⟩
  cases hr:Region.ready .any ops listed with
  | nil=>rfl
  | cons x xs =>
   have hx:x∈Region.ready .any ops listed:=by rw [hr];simp
   obtain ⟨h1,o,ho,_⟩:=mem_ready.1 hx
   have hx':x < listed.size:=by rw [ht.lsz];exact (Array.getElem?_eq_some_iff.1 ho).1
   have:=hall x (by rw [←ht.lsz];exact hx')
   rw [Array.getD_eq_getD_getElem?,Array.getElem?_eq_getElem hx'] at h1 this
   simp at h1 this
   rw [this] at h1
   cases h1
 | succ fuel ih =>
  intro listed a w ht hs hu
  refine ⟨fun hnil=>hend listed a w ht (ready_all hok ht.lsz hnil) hs,fun i hi=>?_⟩
  obtain ⟨hul,o,ho,_⟩:=mem_ready.1 hi
  have hio:i < ops.size:=(Array.getElem?_eq_some_iff.1 ho).1
  have hul':listed.getD i false=false:=by
   have hsz:i < listed.size:=by rw [ht.lsz];exact hio
   rw [Array.getD_eq_getD_getElem?,Array.getElem?_eq_getElem hsz] at hul ⊢
   simpa using hul
  unfold wpOp
  rw [ho]
  have hg:=(okOps_at hok ho).2.2
  have hw:Region.wanted o (yielded ops a.tmps)=true:=by simp [Region.wanted,hg]
  simp only [hw,if_true]
  refine .inl (hop i o listed a w ho hi ht hs _ fun v w' hv hm hs'=>?_)
  have:=unl_set hio ht.lsz hul'
  exact ih _ _ _ (ht.put hok ho hi hv hm) hs' (by omega)
theorem wp_region_lin {id:Nat} {a:Act} {w:World} (hm:P.follows .mixedOrders=true) (hok:okOps ops (fix.map (·.1)) T=true)
  (hop:∀ (i:Nat) (o:Oper) (listed:Array Bool) (a:Act) (w:World),ops[i]? = some o→i∈Region.ready .any ops listed→TabP ops val fix T listed a w→Sok listed w →
   ∀ K:Act→World→Prop,(∀ v w',val i v w'→(∀ j u,listed.getD j false=true→val j u w→val j u w')→Sok (listed.setIfInBounds i true) w'→K (a.put o.dst v) w')→o.wp P a w K Q)
  (hend:∀ (listed:Array Bool) (a:Act) (w:World),TabP ops val fix T listed a w→(∀ i,i < ops.size→listed.getD i false=true)→Sok listed w→Q .normal a w)
  (hd:a.defers=[]) (hs:a.tmps.size=T) (hf:∀ x∈fix,a.tmps[x.1]? = some x.2) (h0:Sok (Array.replicate ops.size false) { w with drawn:=w.drawn+1 }):(Code.region id ops true).wp P Q a w:=by
 refine wp_region_any hm (wpAny_lin hok hop hend ops.size _ a _ ⟨hd,hs,hf,fun i o d _ hl=>?_,by simp,fun i o _ hl=>?_⟩ h0 ?_)
 ·simp [Array.getD_eq_getD_getElem?,Array.getElem?_replicate] at hl
  split at hl <;> simp at hl
 ·simp [Array.getD_eq_getD_getElem?,Array.getElem?_replicate] at hl
  split at hl <;> simp at hl
 ·unfold unl
  exact Nat.le_trans (List.length_filter_le _ _) (by simp)
end
end Go.Proofs.YtjnkcibpkkjniaaGreat.Pool
namespace Go.Proofs.YtjnkcibpkkjniaaGreat.Pool
open Go Go.Conc Go.Proofs.YtjnkcibpkkjniaaGreat.Sim
@[reducible] def GX (cs:List Frame) (Q:Frame→List Frame→World→Prop) (fr:Frame) (xs:List Frame) (w:World):Prop:=@GetsX Tryz.prog scopeM cs Q fr xs w
theorem m_ptr (a:Option Addr):isMk (.pointer a)=false:=rfl
theorem m_sl (a:Option Addr) (l c:Nat):isMk (.slice a l c)=false:=rfl
theorem m_int (k:IntKind) (n:Int):isMk (.int k n)=false:=rfl
theorem m_str (s:ByteArray):isMk (.string s)=false:=rfl
theorem m_bool (s:Bool):isMk (.bool s)=false:=rfl
theorem m_func (f:Fn) (a b:Array Value):isMk (.func f a b)=false:=rfl
theorem m_tup (a:Array Value):isMk (.tuple a)=false:=rfl
theorem m_agg (k:IntKind) (n:Int) (x y:Value):isMk (.agg #[.int k n,x,y])=false:=rfl
def noMkL (xs:Array Operand) (e:Operand→Value):Bool:=xs.toList.all fun x=>!isMk (e x)
theorem noMkL_all {xs:Array Operand} {e:Operand→Value} (h:noMkL xs e=true):(xs.all fun x=>!isMk (e x))=true:=by
 rw [Array.all_eq_true_iff_forall_mem]
 exact fun x hx=>List.all_eq_true.1 h x (Array.mem_toList_iff.2 hx)
theorem noMk_of {o:Oper} {e:Operand→Value} (h:noMkL o.op.operands e=true):noMk o e=true:=noMkL_all h
section
variable {cs:List Frame} {Q:Frame→List Frame→World→Prop} {b:Frame} {a:Act} {ops:Array Oper} {i:Nat} {l:List Nat} {k:List Item} {xs:List Frame} {w:World} {o:Oper}
theorem GX.like {v:World} {fr:Frame} (h:GX cs Q fr xs v) (e1:v.heap=w.heap) (e2:v.os=w.os):GX cs Q fr xs w:=by
 intro Shun ρ gs w0 sl t q hs
 refine h Shun ρ gs w0 sl t q (@StandX.mk scopeM _ _ _ _ _ _ _ _ _ _ _ (@StandX.main scopeM _ _ _ _ _ _ _ _ _ _ _ hs) ?_ (@StandX.leave scopeM _ _ _ _ _ _ _ _ _ _ _ hs) (@StandX.past scopeM _ _ _ _ _ _ _ _ _ _ _ hs) (@StandX.away scopeM _ _ _ _ _ _ _ _ _ _ _ hs))
 exact @HR.like scopeM _ _ _ _ (@StandX.hr scopeM _ _ _ _ _ _ _ _ _ _ _ hs) e1 e2
theorem GX.opv (ho:ops[i]? = some o) (hw:Region.wanted o (yielded ops a.tmps)=true) (hok:@okOper scopeM Tryz.prog o=true)
  (h:∀ T,∃ v w2,(execOp a.eval o).run Tryz.prog (again w T)=.ok (.value v) w2∧GX cs Q (b.at (a.put o.dst v) (.inRegion ops l::k)) xs w2) (hu:noMkL o.op.operands a.eval=true:=by first | rfl | (simp [noMkL,Op.operands,Call.operands,Act.eval,m_ptr,m_sl,m_int,m_str,m_bool,m_func,m_tup,m_agg, *])):GX cs Q (b.at a (.inRegion ops (i::l)::k)) xs w :=
 @GetsX.op_value scopeM Tryz.prog zerosM codesM.toBodies cs Q b a ops i l k xs w o ho hw hok (noMk_of hu) (fun v w2=>GX cs Q (b.at (a.put o.dst v) (.inRegion ops l::k)) xs w2)
  (fun T=>by obtain ⟨v,w2,h1,h2⟩:=h T;exact ⟨v,w2,w2,h1,rfl,rfl,h2⟩) (fun _ _ h=>h)
theorem GX.opu (ho:ops[i]? = some o) (hw:Region.wanted o (yielded ops a.tmps)=true) (hok:@okOper scopeM Tryz.prog o=true)
  (h:∀ T,∃ w2,(execOp a.eval o).run Tryz.prog (again w T)=.ok .skip w2∧GX cs Q (b.at (a.put o.dst undef) (.inRegion ops l::k)) xs w2) (hu:noMkL o.op.operands a.eval=true:=by first | rfl | (simp [noMkL,Op.operands,Call.operands,Act.eval,m_ptr,m_sl,m_int,m_str,m_bool,m_func,m_tup,m_agg, *])):GX cs Q (b.at a (.inRegion ops (i::l)::k)) xs w :=
 @GetsX.op_unit scopeM Tryz.prog zerosM codesM.toBodies cs Q b a ops i l k xs w o ho hw hok (noMk_of hu) (fun w2=>GX cs Q (b.at (a.put o.dst undef) (.inRegion ops l::k)) xs w2)
  (fun T=>by obtain ⟨w2,h1,h2⟩:=h T;exact ⟨w2,w2,h1,rfl,rfl,h2⟩) (fun _ h=>h)
theorem GX.opc (ho:ops[i]? = some o) (hw:Region.wanted o (yielded ops a.tmps)=true) (hok:@okOper scopeM Tryz.prog o=true)
  (h:∀ T,∃ f args w2,(execOp a.eval o).run Tryz.prog (again w T)=.ok (.enter f args) w2∧∀ T',Calls Tryz.prog f args (again w2 T') fun e w'=>∃ v,e=.returned v∧GX cs Q (b.at (a.put o.dst v) (.inRegion ops l::k)) xs w') (hu:noMkL o.op.operands a.eval=true:=by first | rfl | (simp [noMkL,Op.operands,Call.operands,Act.eval,m_ptr,m_sl,m_int,m_str,m_bool,m_func,m_tup,m_agg, *])):GX cs Q (b.at a (.inRegion ops (i::l)::k)) xs w :=
 @GetsX.op_call scopeM Tryz.prog zerosM codesM cs Q b a ops i l k xs w o ho hw hok (noMk_of hu) (fun v w2=>GX cs Q (b.at (a.put o.dst v) (.inRegion ops l::k)) xs w2)
  (fun T=>by obtain ⟨f,args,w2,h1,h2⟩:=h T;exact ⟨f,args,w2,w2,h1,rfl,rfl,h2⟩) (fun _ _ _ h e1 e2=>GX.like h e1.symm e2.symm)
def ValTo (r:Result Next) (K:Value→World→Prop):Prop:=match r with | .ok (.value v) w=>K v w | _=>False
def SkpTo (r:Result Next) (K:World→Prop):Prop:=match r with | .ok .skip w=>K w | _=>False
def EntTo (r:Result Next) (K:FuncId→Array Value→World→Prop):Prop:=match r with | .ok (.enter f args) w=>K f args w | _=>False
theorem valTo_ok (v:Value) (w:World) (K:Value→World→Prop):ValTo (.ok (.value v) w) K=K v w:=rfl
theorem skpTo_ok (w:World) (K:World→Prop):SkpTo (.ok .skip w) K=K w:=rfl
theorem entTo_ok (f:FuncId) (args:Array Value) (w:World) (K:FuncId→Array Value→World→Prop):EntTo (.ok (.enter f args) w) K=K f args w:=rfl
theorem GX.v (ho:ops[i]? = some o) (hw:Region.wanted o (yielded ops a.tmps)=true) (hok:@okOper scopeM Tryz.prog o=true)
  (h:∀ T (K:Value→World→Prop),(∀ v w2,GX cs Q (b.at (a.put o.dst v) (.inRegion ops l::k)) xs w2→K v w2)→ValTo ((execOp a.eval o).run Tryz.prog (again w T)) K) (hu:noMkL o.op.operands a.eval=true:=by first | rfl | (simp [noMkL,Op.operands,Call.operands,Act.eval,m_ptr,m_sl,m_int,m_str,m_bool,m_func,m_tup,m_agg, *])):GX cs Q (b.at a (.inRegion ops (i::l)::k)) xs w :=
 GX.opv (hu:=hu) ho hw hok fun T=>by
  have:=h T (fun v w2=>GX cs Q (b.at (a.put o.dst v) (.inRegion ops l::k)) xs w2) (fun _ _ h=>h)
  cases hr:(execOp a.eval o).run Tryz.prog (again w T) with
  | ok nx w2 =>
   rw [hr] at this
   cases nx with
   | value v=>exact ⟨v,w2,rfl,this⟩
   | _=>exact this.elim
  | _=>rw [hr] at this;exact this.elim
theorem GX.u (ho:ops[i]? = some o) (hw:Region.wanted o (yielded ops a.tmps)=true) (hok:@okOper scopeM Tryz.prog o=true)
  (h:∀ T (K:World→Prop),(∀ w2,GX cs Q (b.at (a.put o.dst undef) (.inRegion ops l::k)) xs w2→K w2)→SkpTo ((execOp a.eval o).run Tryz.prog (again w T)) K) (hu:noMkL o.op.operands a.eval=true:=by first | rfl | (simp [noMkL,Op.operands,Call.operands,Act.eval,m_ptr,m_sl,m_int,m_str,m_bool,m_func,m_tup,m_agg, *])):GX cs Q (b.at a (.inRegion ops (i::l)::k)) xs w :=
 GX.opu (hu:=hu) ho hw hok fun T=>by
  have:=h T (fun w2=>GX cs Q (b.at (a.put o.dst undef) (.inRegion ops l::k)) xs w2) (fun _ h=>h)
  cases hr:(execOp a.eval o).run Tryz.prog (again w T) with
  | ok nx w2 =>
   rw [hr] at this
   cases nx with
   | skip=>exact ⟨w2,rfl,this⟩
   | _=>exact this.elim
  | _=>rw [hr] at this;exact this.elim
theorem GX.c (ho:ops[i]? = some o) (hw:Region.wanted o (yielded ops a.tmps)=true) (hok:@okOper scopeM Tryz.prog o=true)
  (h:∀ T (K:FuncId→Array Value→World→Prop),(∀ f args w2,(∀ T',Calls Tryz.prog f args (again w2 T') fun e w'=>∃ v,e=.returned v∧GX cs Q (b.at (a.put o.dst v) (.inRegion ops l::k)) xs w')→K f args w2)→EntTo ((execOp a.eval o).run Tryz.prog (again w T)) K) (hu:noMkL o.op.operands a.eval=true:=by first | rfl | (simp [noMkL,Op.operands,Call.operands,Act.eval,m_ptr,m_sl,m_int,m_str,m_bool,m_func,m_tup,m_agg, *])):GX cs Q (b.at a (.inRegion ops (i::l)::k)) xs w :=
 GX.opc (hu:=hu) ho hw hok fun T=>by
  have:=h T (fun f args w2=>∀ T',Calls Tryz.prog f args (again w2 T') fun e w'=>∃ v,e=.returned v∧GX cs Q (b.at (a.put o.dst v) (.inRegion ops l::k)) xs w') (fun _ _ _ h=>h)
  cases hr:(execOp a.eval o).run Tryz.prog (again w T) with
  | ok nx w2 =>
   rw [hr] at this
   cases nx with
   | enter f args=>exact ⟨f,args,w2,rfl,this⟩
   | _=>exact this.elim
  | _=>rw [hr] at this;exact this.elim
theorem cell_again (w:World) (T:Tape) (a:Addr):(again w T).cell? a=w.cell? a:=rfl
theorem frozen_again (w:World) (T:Tape) (a:Addr):(again w T).frozen? a=w.frozen? a:=rfl
theorem heap_again (w:World) (T:Tape):(again w T).heap=w.heap:=rfl
theorem GX.seq {x y:Code} (h:GX cs Q (b.at a (.code x::.code y::k)) xs w):GX cs Q (b.at a (.code (.seq x y)::k)) xs w:=by letI:Scope:=scopeM;exact GetsX.seq h
theorem GX.skipCode (h:GX cs Q (b.at a k) xs w):GX cs Q (b.at a (.code .skip::k)) xs w:=by letI:Scope:=scopeM;exact GetsX.skipCode h
theorem GX.inBlock {id:Nat} (h:GX cs Q (b.at a k) xs w):GX cs Q (b.at a (.inBlock id::k)) xs w:=by letI:Scope:=scopeM;exact GetsX.inBlock h
theorem GX.block {id:Nat} {c:Code} (h:GX cs Q (b.at a (.code c::.inBlock id::k)) xs w):GX cs Q (b.at a (.code (.block id c)::k)) xs w:=by letI:Scope:=scopeM;exact GetsX.block h
theorem GX.loop {c:Code} (h:GX cs Q (b.at a (.code c::.inLoop c::k)) xs w):GX cs Q (b.at a (.code (.loop c)::k)) xs w:=by letI:Scope:=scopeM;exact GetsX.loop h
theorem GX.inLoop {c:Code} (h:GX cs Q (b.at a (.code c::.inLoop c::k)) xs w):GX cs Q (b.at a (.inLoop c::k)) xs w:=by letI:Scope:=scopeM;exact GetsX.inLoop h
theorem GX.exit {id:Nat} {k':List Item} (hk:exitTo id k=some k') (h:GX cs Q (b.at a k') xs w):GX cs Q (b.at a (.code (.exit id)::k)) xs w:=by letI:Scope:=scopeM;exact GetsX.exit hk h
theorem GX.region {id:Nat} (h:GX cs Q (b.at a (.inRegion ops (List.range ops.size)::k)) xs w):GX cs Q (b.at a (.code (.region id ops false)::k)) xs w:=by letI:Scope:=scopeM;exact GetsX.region h
theorem GX.regionEnd (h:GX cs Q (b.at a k) xs w):GX cs Q (b.at a (.inRegion ops []::k)) xs w:=by letI:Scope:=scopeM;exact GetsX.regionEnd h
theorem GX.cond {c:Operand} {x y:Code} {t:Bool} (hc:@okOperand scopeM c=true) (ht:a.eval c=.bool t) (h:GX cs Q (b.at a (.code (if t then x else y)::k)) xs w):GX cs Q (b.at a (.code (.cond c x y)::k)) xs w:=by letI:Scope:=scopeM;exact GetsX.cond hc ht h
theorem GX.skip (ho:ops[i]? = some o) (hw:Region.wanted o (yielded ops a.tmps)=false) (h:GX cs Q (b.at (a.put o.dst undef) (.inRegion ops l::k)) xs w):GX cs Q (b.at a (.inRegion ops (i::l)::k)) xs w:=by letI:Scope:=scopeM;exact GetsX.skip ho hw h
theorem GX.ret (h:GX cs Q { b.at a (.code .ret::k) with mode:=.returning } xs w):GX cs Q (b.at a (.code .ret::k)) xs w:=by letI:Scope:=scopeM;exact GetsX.ret h
theorem GX.callX {f:FuncId} {fn:Func} {c:Code} {args:Array Operand} {ats:Array TypeId} (ho:ops[i]? = some o) (hw:Region.wanted o (yielded ops a.tmps)=true)
  (hop:o.op=.call { callee:=.value (.func f),args,argTypes:=ats }) (hargs:args.all (@okOperand scopeM)=true) (hf:Tryz.prog.funcs[f]? = some fn) (hname:(fn.name == "runtime.NumGoroutine")=false) (hb:fn.body=some c)
  (h:GX cs Q ((base f).at { tmps:=args.map a.eval++Array.replicate (fn.ntmps - (args.map a.eval).size) undef,defers:=[] } [.code c]) (b.at a (.inRegion ops (i::l)::k)::xs) w) (hma:noMkL args a.eval=true:=by first | rfl | (simp [noMkL,Act.eval,m_ptr,m_sl,m_int,m_str,m_bool,m_func,m_tup,m_agg, *])):GX cs Q (b.at a (.inRegion ops (i::l)::k)) xs w:=by letI:Scope:=scopeM;exact GetsX.callX ho hw hop hargs (noMkL_all hma) hf hname hb h
theorem GX.leave {todo:List Item} {fn:Func} {tr:Tmp} {c:Frame} {x2:List Frame} (hd:a.defers=[]) (hf:Tryz.prog.funcs[b.fn]? = some fn) (hres:fn.results=#[.tmp tr]) {bc:Frame} {ac:Act} (hc:c=bc.at ac (.inRegion ops (i::l)::k))
  (h:GX cs Q (c.finish (a.tmps.getD tr undef)) x2 w):GX cs Q { b.at a todo with mode:=.returning } (c::x2) w:=by letI:Scope:=scopeM;exact GetsX.leave hd hf hres hc h
end
end Go.Proofs.YtjnkcibpkkjniaaGreat.Pool
namespace Go.Proofs.YtjnkcibpkkjniaaGreat
open Go Go.RowKit
theorem wpList_append_row {P:Program} {w:World} {ops:Array Oper} {rest:List Oper} {o:Oper} {a:Act} {Q:Exit→Act→World→Prop} (hgd:o.guard=none) (s x:Operand) (t:TypeId) (hop:o.op=Op.call { callee:=Callee.builtin Builtin.append,args:=#[s,x],argTypes:=#[t,t] })
  (base:Nat) (e:TypeId) (i:TypeInfo) (z:Value) (size bytes:Nat) (h1:P.underlying t=some (.slice e)) (h2:P.info? e=some i) (h3:i.zero=some z) (h4:i.size=size) (h5:i.bytes=bytes) (h6:z.cells.size=size) (h7:0 < size)
  (v:Value) (n:Nat) (xs:List Value) (hs:a.eval s=v) (hown:w.ownsRow base e size v n xs)
  (ad:Addr) (m c:Nat) (news:List Value) (hx:a.eval x=.slice (some ad) m c) (hn:news.length=m * size) (hc:∀ j u,news[j]? = some u→w.cell? (ad.add j)=some u) (h1c:∀ u∈news,u.oneCell'=true)
  (b1:n+m≤maxLen) (b2:(n+m) * bytes≤140737488355328) (hb:base≤w.heap.size)
  (h:∀ v' w',w'.ownsRow base e size v' (n+m) (xs++news)→w.grownBy w' v.ownBlock→wpList P ops Q rest (a.put o.dst v') w'):wpList P ops Q (o::rest) a w :=
 wpList_plain hgd fun _ hK=>by
  obtain ⟨v',w',hrun,r1,r2,_⟩:=run_append_own (P:=P) w base t o.type e i z size bytes h1 h2 h3 h4 h5 h6 h7 v n xs hown ad m c news hn hc h1c b1 b2 hb
  unfold Oper.wp execOp
  simp only [hop,resolve,invoke,builtin,Sem.run_bind,Sem.run_pure,Result.andThen_ok,List.map_toArray,List.map_cons,List.map_nil,hs,hx,hrun]
  exact hK _ _ (h v' w' r1 r2)
structure ElI (e:TypeId) (i:TypeInfo) (z:Value) (sz bt:Nat):Prop where
 info:Tryz.prog.info? e=some i
 zero:i.zero=some z
 size:i.size=sz
 bytes:i.bytes=bt
 cells:z.cells.size=sz
theorem elI {e:TypeId} {size bytes:Nat} (h:((Tryz.prog.info? e).bind fun i=>i.zero.map fun z=>(i.size,i.bytes,z.cells.size))=some (size,bytes,size)):∃ i z,ElI e i z size bytes:=by
 cases hi:Tryz.prog.info? e with
 | none=>rw [hi] at h;cases h
 | some i =>
  rw [hi] at h
  simp only [Option.bind_some] at h
  cases hz:i.zero with
  | none=>rw [hz] at h;cases h
  | some z =>
   rw [hz] at h
   simp only [Option.map_some,Option.some.injEq,Prod.mk.injEq] at h
   exact ⟨i,z,hi,hz,h.1,h.2.1,h.2.2⟩
theorem row_open {w:World} {base:Nat} {e:TypeId} {size n:Nat} {v:Value} {xs:List Value} (h:w.ownsRow base e size v n xs) (hpos:0 < xs.length):∃ g c cur,v=.slice (some ⟨g,0,none⟩) n c∧base≤g∧n≤c∧w.heap[g]? = some (.cells cur e (0,0))∧∀ i (hi:i < xs.length),w.cell? ⟨g,i,none⟩=some xs[i]:=by
 have hh:=h
 obtain ⟨hlen,h2⟩:=h
 rcases h2 with ⟨rfl,rfl⟩ | ⟨g,c,cur,rfl,k2,k3,k4,k5,k6,k7⟩
 ·simp at hlen;subst hlen;exact absurd hpos (by simp)
 ·refine ⟨g,c,cur,rfl,k2,k4,k3,fun i hi=>?_⟩
  have:=hh.cells (g:=g) rfl i xs[i] (List.getElem?_eq_getElem hi)
  simpa [Addr.add_lit] using this
end Go.Proofs.YtjnkcibpkkjniaaGreat
namespace Go.Proofs.YtjnkcibpkkjniaaGreat
open Go Go.RowKit
set_option maxHeartbeats 800000
set_option maxRecDepth 20000
theorem later_any (now t:Int) (h0:0≤now) (h1:0≤t) (h2:now+t≤1099511627776) (w:World) :
  Calls Tryz.prog 33 #[.int .i64 now, .int .i64 t] w fun e w'=>e=.returned (.int .i64 (now+t))∧w'=w:=by
 have k1:¬ t < 0:=by omega
 have k2:wrap64 (1099511627776 - now)=1099511627776 - now:=by unfold wrap64;omega
 have k3:¬ 1099511627776 - now < t:=by omega
 have k4:wrap64 (now+t)=now+t:=by unfold wrap64;omega
 go_enter Tryz.func33,Tryz.ntmps33
 go_wp2
 all_goals (exact bodyPost_ret (v:=.int .i64 (now+t)) (by simp [results,Tryz.results33,go_sem]) rfl ⟨rfl,rfl⟩)
theorem has_any (w:World) (sp:Nat) (a:Option Addr) (l c:Nat) (hc:w.cell? ⟨sp,1,none⟩=some (.slice a l c)) (hl:0 < l) :
  Calls Tryz.prog 37 #[.pointer (some ⟨sp,0,none⟩), .int .i64 0] w fun e w'=>e=.returned (.bool true)∧w'=w:=by
 have h:(0:Int) < (l:Int):=by omega
 go_enter Tryz.func37,Tryz.ntmps37
 go_wp2
 all_goals go_ret
 all_goals exact ⟨rfl,rfl⟩
theorem sstate_any (w:World) (xb xo:Nat) (st:Int) (h:w.cell? ⟨xb,xo+9,none⟩=some (.int .i64 st)) :
  Calls Tryz.prog 38 #[.pointer (some ⟨xb,xo,none⟩)] w fun e w'=>e=.returned (.int .i64 st)∧w'=w:=by
 go_enter Tryz.func38,Tryz.ntmps38
 go_wp2
 go_ret
 exact ⟨rfl,rfl⟩
theorem state_any (w:World) (sp xb l c:Nat) (st:Int) (hc:w.cell? ⟨sp,1,none⟩=some (.slice (some ⟨xb,0,none⟩) l c)) (hl:0 < l) (h:w.cell? ⟨xb,9,none⟩=some (.int .i64 st)) :
  Calls Tryz.prog 18 #[.pointer (some ⟨sp,0,none⟩), .int .i64 0] w fun e w'=>e=.returned (.int .i64 st)∧w'=w:=by
 have hl2:(0:Int) < (l:Int):=by omega
 have hl3:¬ ((l:Int)≤0):=by omega
 have HH:Hid (Calls Tryz.prog 37 #[.pointer (some ⟨sp,0,none⟩), .int .i64 0] w fun e w'=>e=.returned (.bool true)∧w'=w):=has_any w sp _ l c hc hl
 have HS:Hid (Calls Tryz.prog 38 #[.pointer (some ⟨xb,0,none⟩)] w fun e w'=>e=.returned (.int .i64 st)∧w'=w):=sstate_any w xb 0 st h
 go_enter Tryz.func18,Tryz.ntmps18
 go_wp2_with (first
  | (go_at_call 37;go_loud (refine HH.out.mono ?_);go_loud (rintro e w1 ⟨rfl,rfl⟩))
  | (go_at_call 38;go_loud (refine HS.out.mono ?_);go_loud (rintro e w1 ⟨rfl,rfl⟩)))
 go_ret
 exact ⟨rfl,rfl⟩
end Go.Proofs.YtjnkcibpkkjniaaGreat
namespace Go.Proofs.YtjnkcibpkkjniaaGreat
open Go Go.RowKit
set_option maxHeartbeats 1600000
set_option maxRecDepth 20000
theorem S_sub (xs:List Int) (a b:Nat):(strOfNums xs).extract a b=strOfNums ((xs.drop a).take (b - a)):=by
 simp [ByteArray.ext_iff,strOfNums,ByteArray.extract,ByteArray.copySlice]
theorem S_get {xs:List Int} (hx:Bytes xs) {i:Nat} {k:Int} (hk:xs[i]? = some k) (h:i < (strOfNums xs).size):(((strOfNums xs)[i]'h).toNat:Int)=k:=by
 have hi:i < xs.length:=(List.getElem?_eq_some_iff.1 hk).1
 have e:(strOfNums xs)[i]'h=UInt8.ofNat (xs[i]).toNat:=by
  show (strOfNums xs).data[i]'(by exact h)=_
  simp [strOfNums]
 have hk':xs[i]=k:=by rw [List.getElem?_eq_getElem hi] at hk;exact Option.some.inj hk
 rw [e,hk']
 exact byte_back (by rw [←hk'];exact hx _ (List.getElem_mem hi))
def numL (xs:List Int):Int:=xs.foldl (fun n x=>256 * n+x) 0
theorem numL_snoc (xs:List Int) (x:Int):numL (xs++[x])=256 * numL xs+x:=by simp [numL,List.foldl_append]
theorem numL_bd {xs:List Int} (h:Bytes xs):0≤numL xs∧numL xs < 256 ^ xs.length:=by
 have key:∀ (n:Nat) (xs:List Int),xs.length=n→Bytes xs→0≤numL xs∧numL xs < 256 ^ n:=by
  intro n
  induction n with
  | zero=>intro xs hl _;obtain rfl:=List.eq_nil_of_length_eq_zero hl;simp [numL]
  | succ n ih =>
   intro xs hl hb
   obtain ⟨ys,y,rfl⟩:∃ ys y,xs=ys++[y]:=⟨xs.dropLast,xs.getLast (by intro e;subst e;simp at hl),(List.dropLast_concat_getLast _).symm⟩
   have h1:=ih ys (by simp at hl;exact hl) fun x hx=>hb x (by simp [hx])
   have h2:=hb y (by simp)
   rw [numL_snoc,Int.pow_succ]
   omega
 exact key _ xs rfl h
theorem or_byte {n x:Int} (h0:0≤n) (h1:n < 16777216) (hx:0≤x∧x < 256):bits .or .u32 (n * 256 % 4294967296) (x % 4294967296)=256 * n+x:=by
 rw [Int.emod_eq_of_lt (by omega) (by omega),Int.emod_eq_of_lt (by omega) (by omega),u32_or _ _ (by omega) (by omega) hx.1 (by omega)]
 have e:=Nat.two_pow_add_eq_or_of_lt (i:=8) (b:=x.toNat) (by omega) n.toNat
 have e2:(n * 256).toNat=2 ^ 8 * n.toNat:=by omega
 rw [e2,←e]
 omega
theorem kindOf_any (xs:List Int) (hx:Bytes xs) (k:Int) (hk:xs[18]? = some k) (w:World) :
  Calls Tryz.prog 169 #[.string (strOfNums xs)] w fun e w'=>e=.returned (.int .i64 k)∧w'=w:=by
 have kz:=strOfNums_size
 have hl:18 < xs.length:=(List.getElem?_eq_some_iff.1 hk).1
 have hlt:18 < (strOfNums xs).size:=by rw [kz];exact hl
 have kg:∀ h:18 < (strOfNums xs).size,(((strOfNums xs)[18]'h).toNat:Int)=k:=fun h=>S_get hx hk h
 have hb:0≤k∧k < 256:=by
  have:=hx k (List.mem_of_getElem? hk)
  exact this
 have hw:wrap64 k=k:=by unfold wrap64;omega
 go_enter Tryz.func169,Tryz.ntmps169
 go_wp2
 go_ret
 exact ⟨rfl,rfl⟩
theorem number_any (xs:List Int) (hx:Bytes xs) (hl:xs.length≤4) (w:World) :
  Calls Tryz.prog 178 #[.string (strOfNums xs)] w fun e w'=>e=.returned (.int .u32 (numL xs))∧w'=w:=by
 have kz:=strOfNums_size
 go_enter Tryz.func178,Tryz.ntmps178
 go_wp2_with fail
 go_loop [3,7] (fun n i=>∃ k:Nat,k≤xs.length∧i=.int .i64 k∧n=.int .u32 (numL (xs.take k))) (fun _ i=>xs.length - (intOf i).toNat)
 case atStart=>exact ⟨0,Nat.zero_le _,rfl,rfl⟩
 case round =>
  obtain ⟨k,hk,rfl,rfl⟩:=hrel
  by_cases hlt:k < xs.length
  ·have hk1:xs[k]? = some xs[k]:=List.getElem?_eq_getElem hlt
   have hbx:=hx _ (List.getElem_mem hlt)
   have hnb:=numL_bd (xs:=xs.take k) (fun x h=>hx x (List.mem_of_mem_take h))
   have hlk:(xs.take k).length=k:=by rw [List.length_take];omega
   rw [hlk] at hnb
   have hp:(256:Int) ^ k≤16777216:=by
    have:k=0∨k=1∨k=2∨k=3:=by omega
    rcases this with rfl | rfl | rfl | rfl <;> decide
   have hsz:k < (strOfNums xs).size:=by rw [kz];exact hlt
   have kg:(((strOfNums xs)[k]'hsz).toNat:Int)=xs[k]:=S_get hx hk1 hsz
   have hor:=or_byte hnb.1 (by omega) hbx
   have hsn:numL (xs.take (k+1))=256 * numL (xs.take k)+xs[k]:=by
    rw [List.take_add_one,hk1]
    exact numL_snoc _ _
   have HO:Hid (bits .or .u32 (numL (xs.take k) * 256 % 4294967296) (xs[k] % 4294967296)=numL (xs.take (k+1))):=by rw [hsn];exact hor
   clear hor hsn hnb hp hk1 hbx hlk
   go_wp2_with fail
   go_round
   case rel=>exact ⟨k+1,by omega,by go_num,by first | rw [kg,HO.out] | rw [HO.out]⟩
   case measure=>simp [intOf];omega
  ·have hk2:k=xs.length:=by omega
   subst hk2
   go_wp2_with fail
   go_ret
   exact ⟨rfl,rfl⟩
end Go.Proofs.YtjnkcibpkkjniaaGreat
namespace Go.Proofs.YtjnkcibpkkjniaaGreat
open Go Go.RowKit
set_option maxHeartbeats 400000
set_option maxRecDepth 20000
def lenL (xs:List Int):Int:=numL ((xs.drop 16).take 2)
theorem lengthOf_any (xs:List Int) (hx:Bytes xs) (hl:18≤xs.length) (w:World) :
  Calls Tryz.prog 174 #[.string (strOfNums xs)] w fun e w'=>e=.returned (.int .i64 (lenL xs))∧w'=w:=by
 have kz:=strOfNums_size
 have ks:(strOfNums xs).extract 16 18=strOfNums ((xs.drop 16).take 2):=S_sub xs 16 18
 have hb2:Bytes ((xs.drop 16).take 2):=fun x h=>hx x (List.mem_of_mem_drop (List.mem_of_mem_take h))
 have hl2:((xs.drop 16).take 2).length=2:=by simp;omega
 have hbd:=numL_bd hb2
 rw [hl2] at hbd
 have hw:wrap64 (lenL xs)=lenL xs:=by unfold wrap64 lenL;omega
 have HN:Hid (Calls Tryz.prog 178 #[.string (strOfNums ((xs.drop 16).take 2))] w fun e w'=>e=.returned (.int .u32 (lenL xs))∧w'=w):=number_any _ hb2 (by omega) w
 clear hbd hl2 hb2
 go_enter Tryz.func174,Tryz.ntmps174
 go_wp2_with (go_at_call 178;refine HN.out.mono ?_;rintro e w1 ⟨rfl,rfl⟩)
 go_ret
 exact ⟨by show Ending.returned (Value.int .i64 (wrap64 (lenL xs)))=_;rw [hw],rfl⟩
theorem slPrefix_any (xs ys:List Int) (hp:xs.take ys.length=ys) (w:World) :
  Calls Tryz.prog 179 #[.string (strOfNums xs), .string (strOfNums ys)] w fun e w'=>e=.returned (.bool true)∧w'=w:=by
 have kz:=strOfNums_size
 have ks:(strOfNums xs).extract 0 ys.length=strOfNums ys:=by rw [S_sub];simp [hp]
 have hle:ys.length≤xs.length:=by rw [←hp,List.length_take];omega
 have h2:decide ((ys.length:Int)≤(xs.length:Int))=true:=by simpa using hle
 go_enter Tryz.func179,Tryz.ntmps179
 go_wp2
 go_ret
 exact ⟨rfl,rfl⟩
theorem prefix_any (xs ys:List Int) (hp:xs.take ys.length=ys) (w:World) :
  Calls Tryz.prog 175 #[.string (strOfNums xs), .string (strOfNums ys)] w fun e w'=>e=.returned (.bool true)∧w'=w:=by
 go_enter Tryz.func175,Tryz.ntmps175
 go_wp2_with (go_at_call 179;refine (slPrefix_any xs ys hp _).mono ?_;rintro e w1 ⟨rfl,rfl⟩)
 go_ret
 exact ⟨rfl,rfl⟩
theorem lengthMayBe_open (n:Int) (hn:29≤n) (w:World):Calls Tryz.prog 177 #[.int .i64 1, .int .i64 n] w fun e w'=>e=.returned (.bool true)∧w'=w:=by
 have h:decide (29≤n)=true:=by simpa using hn
 go_enter Tryz.func177,Tryz.ntmps177
 go_wp2
 go_ret
 exact ⟨rfl,rfl⟩
theorem lengthMayBe_alive (w:World):Calls Tryz.prog 177 #[.int .i64 4, .int .i64 19] w fun e w'=>e=.returned (.bool true)∧w'=w:=by
 go_enter Tryz.func177,Tryz.ntmps177
 go_wp2
 go_ret
 exact ⟨rfl,rfl⟩
structure HdOk (xs:List Int) (n k:Int):Prop where
 bytes:Bytes xs
 len:xs.length=19
 pre:xs.take 16=mark
 nn:lenL xs=n
 kk:xs[18]? = some k
 may:(k=1∧n=29)∨(k=4∧n=19)
end Go.Proofs.YtjnkcibpkkjniaaGreat
namespace Go.Proofs.YtjnkcibpkkjniaaGreat
open Go Go.RowKit
set_option maxHeartbeats 400000
set_option maxRecDepth 20000
theorem checkHeader_any {xs:List Int} {n k:Int} (h:HdOk xs n k) (w:World) :
  Calls Tryz.prog 167 #[.string (strOfNums xs)] w fun e w'=>(∃ v,e=.returned v)∧w'=w:=by
 obtain ⟨hb,hl,hm,hn,hk,hmay⟩:=h
 have HL:Hid (∀ w,Calls Tryz.prog 174 #[.string (strOfNums xs)] w fun e w'=>e=.returned (.int .i64 n)∧w'=w):=fun w=>by rw [←hn];exact lengthOf_any xs hb (by omega) w
 have HK:Hid (∀ w,Calls Tryz.prog 169 #[.string (strOfNums xs)] w fun e w'=>e=.returned (.int .i64 k)∧w'=w):=fun w=>kindOf_any xs hb k hk w
 have HP:Hid (∀ w,Calls Tryz.prog 175 #[.string (strOfNums xs), .string (strOfNums mark)] w fun e w'=>e=.returned (.bool true)∧w'=w):=fun w=>prefix_any xs mark hm w
 have km:=msg_join1
 clear hb hl hm hn hk
 rcases hmay with ⟨rfl,rfl⟩ | ⟨rfl,rfl⟩
 ·have HM:Hid (∀ w,Calls Tryz.prog 177 #[.int .i64 1, .int .i64 29] w fun e w'=>e=.returned (.bool true)∧w'=w):=fun w=>lengthMayBe_open 29 (by omega) w
  go_enter Tryz.func167,Tryz.ntmps167
  go_wp2_with (first
   | (go_at_call 174;go_loud (refine (HL.out _).mono ?_);go_loud (rintro e w1 ⟨rfl,rfl⟩))
   | (go_at_call 169;go_loud (refine (HK.out _).mono ?_);go_loud (rintro e w1 ⟨rfl,rfl⟩))
   | (go_at_call 175;go_loud (refine (HP.out _).mono ?_);go_loud (rintro e w1 ⟨rfl,rfl⟩))
   | (go_at_call 177;go_loud (refine (HM.out _).mono ?_);go_loud (rintro e w1 ⟨rfl,rfl⟩)))
  exact bodyPost_end (v:=.tuple #[]) (by simp [results,Tryz.results167,go_sem]) rfl ⟨⟨_,rfl⟩,rfl⟩
 ·have HM:Hid (∀ w,Calls Tryz.prog 177 #[.int .i64 4, .int .i64 19] w fun e w'=>e=.returned (.bool true)∧w'=w):=fun w=>lengthMayBe_alive w
  go_enter Tryz.func167,Tryz.ntmps167
  go_wp2_with (first
   | (go_at_call 174;go_loud (refine (HL.out _).mono ?_);go_loud (rintro e w1 ⟨rfl,rfl⟩))
   | (go_at_call 169;go_loud (refine (HK.out _).mono ?_);go_loud (rintro e w1 ⟨rfl,rfl⟩))
   | (go_at_call 175;go_loud (refine (HP.out _).mono ?_);go_loud (rintro e w1 ⟨rfl,rfl⟩))
   | (go_at_call 177;go_loud (refine (HM.out _).mono ?_);go_loud (rintro e w1 ⟨rfl,rfl⟩)))
  exact bodyPost_end (v:=.tuple #[]) (by simp [results,Tryz.results167,go_sem]) rfl ⟨⟨_,rfl⟩,rfl⟩
end Go.Proofs.YtjnkcibpkkjniaaGreat
namespace Go.Proofs.YtjnkcibpkkjniaaGreat
open Go Go.RowKit
set_option maxHeartbeats 800000
set_option maxRecDepth 20000
theorem own_open {w:World} {base:Nat} {v:Value} {n:Nat} {xs:List Int} (h:w.ownsRow base 5 1 v n (cellsOf xs)) (hpos:0 < xs.length):∃ g c,v=.slice (some ⟨g,0,none⟩) xs.length c∧xs.length≤c∧(∀ i (hi:i < xs.length),w.cell? ⟨g,i,none⟩=some (.int .u8 xs[i])):=by
 have hn:n=xs.length:=by have:=h.1;rw [cellsOf_len] at this;omega
 subst hn
 rcases h.2 with ⟨_,e⟩ | ⟨g,c,cur,k1,k2,k3,k4,k5,k6,k7⟩
 ·rw [e] at hpos;exact absurd hpos (by simp)
 ·refine ⟨g,c,k1,k4,fun i hi=>?_⟩
  have:=h.cells (g:=g) (by rw [k1];rfl) i (.int .u8 xs[i]) (by simp [cellsOf,List.getElem?_eq_getElem hi])
  simpa [Addr.add_lit] using this
theorem conv_row (w:World) (g c:Nat) (ys:List Int) (h:∀ i (hi:i < ys.length),w.cell? ⟨g,i,none⟩=some (.int .u8 ys[i])):(convert 86 9 (.slice (some ⟨g,0,none⟩) ys.length c)).run Tryz.prog w=.ok (.string (strOfNums ys)) w :=
 run_convert_bytes_arg w 86 5 Tryz.underlying86 Tryz.underlying5 g 0 ys.length c ys rfl (fun i hi=>by
  rw [Nat.zero_add,h i hi]
  simp [List.getD,List.getElem?_eq_getElem hi]) 9 Tryz.underlying9
theorem head_any {w:World} {cb co base:Nat} {pv:Value} {xs:List Int} (hc:w.cell? ⟨cb,co,none⟩=some pv) (ho:w.ownsRow base 5 1 pv xs.length (cellsOf xs)) (hl:19≤xs.length) :
  Calls Tryz.prog 168 #[.pointer (some ⟨cb,co,none⟩)] w fun e w'=>e=.returned (.string (strOfNums (xs.take 19)))∧w'=w:=by
 obtain ⟨g,c,rfl,hlc,hcell⟩:=own_open ho (by omega)
 have e19:(xs.take 19).length=19:=by rw [List.length_take];omega
 have kc:=conv_row w g c (xs.take 19) (fun i hi=>by
  rw [List.getElem_take]
  exact hcell i (by rw [e19] at hi;omega))
 rw [e19] at kc
 have h19:19≤c:=by omega
 clear ho hcell
 go_enter Tryz.func168,Tryz.ntmps168
 go_wp2
 go_ret
 exact ⟨rfl,rfl⟩
theorem lenL_take (xs:List Int) (hl:19≤xs.length):lenL (xs.take 19)=lenL xs:=by
 unfold lenL
 rw [List.drop_take,List.take_take]
 rfl
def wantL (xs:List Int):Int:=if xs.length < 19 then 19 - (xs.length:Int) else lenL xs - (xs.length:Int)
theorem wanted_less {w:World} {cb co base:Nat} {pv:Value} {xs:List Int} (hc:w.cell? ⟨cb,co,none⟩=some pv) (ho:w.ownsRow base 5 1 pv xs.length (cellsOf xs)) (hl:xs.length < 19) :
  Calls Tryz.prog 166 #[.pointer (some ⟨cb,co,none⟩)] w fun e w'=>e=.returned (.int .i64 (wantL xs))∧∃ m,w'=w.drewN m:=by
 obtain ⟨ao,cp,rfl,_⟩:=own_slice ho
 have e:wantL xs=19 - (xs.length:Int):=by unfold wantL;rw [if_pos hl]
 have h1:(xs.length:Int) < 19:=by omega
 rw [e]
 clear ho e
 go_enter Tryz.func166,Tryz.ntmps166
 go_wp2_with fail
 go_ret
 exact ⟨rfl,0,rfl⟩
theorem wanted_more {w:World} {cb co base:Nat} {pv:Value} {xs:List Int} (hc:w.cell? ⟨cb,co,none⟩=some pv) (ho:w.ownsRow base 5 1 pv xs.length (cellsOf xs)) (hb:Bytes xs) (hl:19≤xs.length) (hl2:xs.length≤100000) :
  Calls Tryz.prog 166 #[.pointer (some ⟨cb,co,none⟩)] w fun e w'=>e=.returned (.int .i64 (wantL xs))∧∃ m,w'=w.drewN m:=by
 have hbt:Bytes (xs.take 19):=fun x h=>hb x (List.mem_of_mem_take h)
 have e19:(xs.take 19).length=19:=by rw [List.length_take];omega
 have HH:Hid (∀ n,Calls Tryz.prog 168 #[.pointer (some ⟨cb,co,none⟩)] (w.drewN n) fun e w'=>e=.returned (.string (strOfNums (xs.take 19)))∧w'=w.drewN n):=fun n=>head_any (w:=w.drewN n) (base:=base) (pv:=pv) (by simpa using hc) (own_keep ho fun k _=>rfl) hl
 have HL:Hid (∀ w,Calls Tryz.prog 174 #[.string (strOfNums (xs.take 19))] w fun e w'=>e=.returned (.int .i64 (lenL xs))∧w'=w):=fun w=>by rw [←lenL_take xs hl];exact lengthOf_any _ hbt (by omega) w
 have hbd:0≤lenL xs∧lenL xs < 65536:=by
  have h2:Bytes ((xs.drop 16).take 2):=fun x h=>hb x (List.mem_of_mem_drop (List.mem_of_mem_take h))
  have:=numL_bd h2
  rw [show ((xs.drop 16).take 2).length=2 by simp;omega] at this
  exact this
 obtain ⟨ao,cp,rfl,_⟩:=own_slice ho
 have e:wantL xs=lenL xs - (xs.length:Int):=by unfold wantL;rw [if_neg (by omega)]
 have h1:¬ ((xs.length:Int) < 19):=by omega
 have hw:wrap64 (lenL xs - (xs.length:Int))=lenL xs - (xs.length:Int):=by unfold wrap64;omega
 rw [e]
 clear ho e hbt e19 hb hbd
 go_enter Tryz.func166,Tryz.ntmps166
 go_wp2_with fail
 go_quiet ((first | (go_at_call 168;exact Calls.quiet_of_same (HH.out _)) | (go_at_call 174;exact Calls.quiet_of_same (HL.out _))))
 go_wp2_with fail
 go_ret
 exact ⟨by first | rfl | (show Ending.returned (Value.int .i64 (wrap64 (lenL xs - (xs.length:Int))))=_;rw [hw]),_,rfl⟩
end Go.Proofs.YtjnkcibpkkjniaaGreat
namespace Go.Proofs.YtjnkcibpkkjniaaGreat
open Go Go.RowKit
open Go.Proofs.YtjnkcibpkkjniaaGreat.Sim (RowAt)
set_option maxHeartbeats 1600000
set_option maxRecDepth 20000
theorem el41:∃ i z,ElI 41 i z 3 32:=elI (by kernel_rfl)
theorem out_none {w:World} {rb:Nat} {ao:Option Addr} {c:Nat} (h:w.heap[rb]? = some (.cells #[.slice ao 0 c, .bool false] 140 (0,0))) :
  Calls Tryz.prog 34 #[.slice (some ⟨rb,0,none⟩) 1 1] w fun e w'=>e=.returned (.slice none 0 0)∧Below w.heap.size w w':=by
 have c0:=cell_blk h 0
 have c1:=cell_blk h 1
 simp at c0 c1
 clear h
 go_enter Tryz.func34,Tryz.ntmps34
 go_wp2_with fail
 refine wp_loop_rounds 2 ?_
 rw [rounds_succ]
 go_wp2_with fail
 rw [rounds_succ]
 go_wp2_with fail
 exact bodyPost_ret (v:=.slice none 0 0) (by simp [results,Tryz.results34,go_sem]) rfl ⟨rfl,by (repeat (first | exact Below.refl _ _ | refine Below.drew ?_ | refine Below.alloc ?_ (by first | omega | (simp only [World.size_alloc,World.size_setCell,World.size_drew];omega) | simp) _ | refine Below.setCell ?_ (by first | omega | simp) _ | assumption))⟩
theorem out_one {w:World} {rb g c:Nat} {sent:List Int} {cl:Bool} (h:w.heap[rb]? = some (.cells #[.slice (some ⟨g,0,none⟩) sent.length c, .bool cl] 140 (0,0))) (hpos:0 < sent.length) (hs:∀ i (hi:i < sent.length),w.cell? ⟨g,i,none⟩=some (.int .u8 sent[i])) :
  Calls Tryz.prog 34 #[.slice (some ⟨rb,0,none⟩) 1 1] w fun e w'=>∃ nb nc,e=.returned (.slice (some ⟨nb,0,none⟩) 1 nc)∧w.heap.size≤nb∧Below w.heap.size w w'∧w'.cell? ⟨nb,0,none⟩=some (.int .i64 0)∧w'.cell? ⟨nb,1,none⟩=some (.string (strOfNums sent))∧w'.cell? ⟨nb,2,none⟩=some (.bool cl):=by
 obtain ⟨i0,z0,hE⟩:=el41
 have HE:Hid (ElI 41 i0 z0 3 32):=hE
 have c0:=cell_blk h 0
 have c1:=cell_blk h 1
 simp at c0 c1
 have hp:(0:Int) < (sent.length:Int):=by omega
 have hlt:g < w.heap.size:=by
  have:=hs 0 hpos
  by_cases e:g < w.heap.size
  ·exact e
  ·simp [World.cell?,Array.getElem?_eq_none (show w.heap.size≤g by omega)] at this
 have kc:=conv_row (w.alloc (.cells #[.slice (some ⟨g,0,none⟩) sent.length c, .bool cl] 140)) g c sent (fun i hi=>by
  have hB:Below w.heap.size w (w.alloc (.cells #[.slice (some ⟨g,0,none⟩) sent.length c, .bool cl] 140)):=(Below.refl _ _).alloc (Nat.le_refl _) _
  exact (hB.cell (p:=⟨g,i,none⟩) hlt).trans (hs i hi))
 clear h hs hE
 go_enter Tryz.func34,Tryz.ntmps34
 go_wp2_with fail
 refine wp_loop_rounds 2 ?_
 rw [rounds_succ]
 go_wp2_with (at_builtin;go_loud (refine wpList_append_row rfl (.tmp 21) (.tmp 29) 37 rfl (w.heap.size+1) 41 i0 z0 3 32 Tryz.underlying37 HE.out.info HE.out.zero HE.out.size HE.out.bytes HE.out.cells (by decide) (.slice none 0 0) 0 [] rfl (World.ownsRow_nil _ _ _ _) ⟨w.heap.size+1,0,none⟩ 1 1 [.int .i64 0, .string (strOfNums sent), .bool cl] (by simp [Act.eval,Act.put]) rfl (by intro j u hu;match j,hu with | 0,hu=>simp at hu;subst hu;simp [Addr.add] | 1,hu=>simp at hu;subst hu;simp [Addr.add] | 2,hu=>simp at hu;subst hu;simp [Addr.add]) (by intro u hu;simp at hu;rcases hu with rfl | rfl | rfl <;> rfl) (by unfold maxLen;omega) (by omega) (by simp <;> omega) ?_);go_loud (intro v' w2 hown hg);go_loud (obtain ⟨nb,nc,cur,hv,hb1,_,hcur,hcell⟩:=row_open hown (by simp));go_loud (subst hv))
 have hB:Below w.heap.size w w2:=Below.grown (by (repeat (first | exact Below.refl _ _ | refine Below.drew ?_ | refine Below.alloc ?_ (by first | omega | (simp only [World.size_alloc,World.size_setCell,World.size_drew];omega) | simp) _ | refine Below.setCell ?_ (by first | omega | simp) _ | assumption))) hg (by simp only [World.size_alloc];omega) (fun j hj=>by cases hj)
 have d0:=hcell 0 (by simp)
 have d1:=hcell 1 (by simp)
 have d2:=hcell 2 (by simp)
 simp at d0 d1 d2
 clear hcell hown hg hcur c0 c1 kc
 rw [rounds_succ]
 go_wp2_with fail
 exact bodyPost_ret (v:=.slice (some ⟨nb,0,none⟩) 1 nc) (by simp [results,Tryz.results34,go_sem]) rfl ⟨nb,nc,rfl,by omega,hB,d0,d1,d2⟩
end Go.Proofs.YtjnkcibpkkjniaaGreat
namespace Go.Proofs.YtjnkcibpkkjniaaGreat
open Go Go.RowKit
set_option maxHeartbeats 1600000
set_option maxRecDepth 20000
theorem mk44 (w:World):(Instr.makeSlice 47 (.int .i64 1) (.int .i64 1)).run Tryz.prog w=.ok (.slice (some ⟨w.heap.size,0,none⟩) 1 1) (w.alloc (.cells #[.slice none 0 0] 44)):=by
 have h1:((Tryz.prog.info? 44).map fun i=>(i.size,i.bytes))=some (1,24):=by kernel_rfl
 have h2:((Tryz.prog.info? 44).bind (·.zero))=some (.slice none 0 0):=by kernel_rfl
 obtain ⟨i,hi,e⟩:=Option.map_eq_some_iff.1 h1
 rw [hi] at h2
 simp only [Prod.mk.injEq,Option.bind_some] at e h2
 have hb:i.bytes=24:=e.2
 have:=run_make w 47 44 i (.slice none 0 0) Tryz.underlying47 hi h2 .i64 .i64 1 1 (by omega) (Int.le_refl _) (by rw [hb];omega) (by omega)
 have hm:madeCells (Value.slice none 0 0).cells 1=#[.slice none 0 0]:=by first | rfl | decide | (simp [madeCells];done) | kernel_rfl
 rw [this,e.1]
 show Result.ok _ (w.alloc (.cells (madeCells (Value.slice none 0 0).cells 1) _))=_
 rw [hm]
 rfl
theorem split_none {w:World} {sp xb xc:Nat} (hc:w.cell? ⟨sp,1,none⟩=some (.slice (some ⟨xb,0,none⟩) 1 xc)) :
  Calls Tryz.prog 36 #[.pointer (some ⟨sp,0,none⟩), .slice none 0 0] w fun e w'=>∃ nb,e=.returned (.slice (some ⟨nb,0,none⟩) 1 1)∧w.heap.size≤nb∧Below w.heap.size w w'∧w'.heap[nb]? = some (.cells #[.slice none 0 0] 44 (0,0)):=by
 have km:=mk44
 go_enter Tryz.func36,Tryz.ntmps36
 go_wp2_with fail
 refine wp_loop_rounds 1 ?_
 rw [rounds_succ]
 go_wp2_with fail
 exact bodyPost_ret (v:=.slice (some ⟨w.heap.size,0,none⟩) 1 1) (by simp [results,Tryz.results36,go_sem]) rfl ⟨w.heap.size,rfl,Nat.le_refl _,by (repeat (first | exact Below.refl _ _ | refine Below.drew ?_ | refine Below.alloc ?_ (by first | omega | (simp only [World.size_alloc,World.size_setCell,World.size_drew];omega) | simp) _ | refine Below.setCell ?_ (by first | omega | simp) _ | assumption)),Go.heap_alloc_new w _⟩
theorem el43:∃ i z,ElI 43 i z 3 32:=elI (by kernel_rfl)
end Go.Proofs.YtjnkcibpkkjniaaGreat
namespace Go.Proofs.YtjnkcibpkkjniaaGreat.Pool
open Go.Conc Go.ConcN
variable {P:Program} {main:Bool} {b:Frame} {a:Act} {k:List Item} {cs:List Frame} {w:World}
def clos (f:FuncId) (caps:Array Value):Value:=.func (.func f) #[] caps
def ccall (f:FuncId) (caps:Array Value):Deferred:={ target:=.fn (.func f) caps,args:=#[] }
noncomputable def botF (P:Program):Frame:={ (default:Frame) with fn:=P.funcs.size,defers:=[],mode:=.panicking [goexitEntry] }
theorem stepG_defer_clos {ops:Array Oper} {i:Nat} {rest:List Nat} {o:Oper} {f:FuncId} {caps:Array Value} {x:Operand} (ho:ops[i]? = some o) (hw:Region.wanted o (yielded ops a.tmps)=true) (hk:b.kind≠.early)
  (hop:o.op=.defer { callee:=.value x,args:=#[],argTypes:=#[] }) (ef:a.eval x=clos f caps) :
  stepG P main (G (b.at a (.inRegion ops (i::rest)::k)) cs) w=.go (G (b.at (Act.put ⟨a.tmps,ccall f caps::a.defers⟩ o.dst undef) (.inRegion ops rest::k)) cs) w #[]:=by
 have hr:(execOp a.eval o).run P w=.ok (.defer (ccall f caps)) w:=by
  unfold execOp
  simp [hop,resolve,Deferred.ofValue,ef,ccall,clos]
 have he:(execOp a.eval o).events P w #[]=#[]:=by
  unfold execOp
  simp [hop,resolve,Deferred.ofValue,ef,clos]
 have hfin:(b.at ⟨a.tmps,ccall f caps::a.defers⟩ (.inRegion ops (i::rest)::k)).finish undef=b.at (Act.put ⟨a.tmps,ccall f caps::a.defers⟩ o.dst undef) (.inRegion ops rest::k):=by rw [Frame.finish_at,ho];rfl
 have hk':(b.kind == CallKind.early)=false:=by simpa using hk
 rw [stepG_oper ho hw,←hfin]
 simp [stepG.apply,hr,he,G,Frame.at,hk',GStep.after,seen_none]
theorem stepG_unwind_clos {todo:List Item} {ds:List Deferred} {f:FuncId} {fn:Func} {caps:Array Value} {c:Code} (hd:a.defers=ccall f caps::ds) (hf:P.funcs[f]? = some fn) (hname:(fn.name == "runtime.NumGoroutine")=false) (hb:fn.body=some c) :
  stepG P main (G { b.at a todo with mode:=.returning } cs) w =
   .go (G ((baseD f).at { tmps:=caps++Array.replicate (fn.ntmps - caps.size) undef,defers:=[] } [.code c]) ({ b.at ⟨a.tmps,ds⟩ todo with mode:=.returning }::cs)) w #[]:=by
 have h1:¬ fn.name = "runtime.NumGoroutine":=by simpa using hname
 rw [←enter_atD caps hf hb]
 simp [G,stepG,unwind,callDeferred,Frame.at,hd,ccall,invoke,callFunc,hf,h1,hb,GStep.after,seen_none]
theorem goes_call_clos {ops:Array Oper} {i:Nat} {rest:List Nat} {o:Oper} {K:Goroutine→World→Array Event→Prop} {f:FuncId} {fn:Func} {c:Code} {caps:Array Value} {x:Operand}
  (ho:ops[i]? = some o) (hw:Region.wanted o (yielded ops a.tmps)=true) (hk:b.kind≠.early) (hop:o.op=.call { callee:=.value x,args:=#[],argTypes:=#[] }) (ef:a.eval x=clos f caps)
  (hf:P.funcs[f]? = some fn) (hname:(fn.name == "runtime.NumGoroutine")=false) (hb:fn.body=some c)
  (h:K (G ((base f).at { tmps:=caps++Array.replicate (fn.ntmps - caps.size) undef,defers:=[] } [.code c]) (b.at a (.inRegion ops (i::rest)::k)::cs)) w #[]) :
  (stepG P main (G (b.at a (.inRegion ops (i::rest)::k)) cs) w).goes K:=by
 have h1:¬ fn.name = "runtime.NumGoroutine":=by simpa using hname
 have hr:(execOp a.eval o).run P w=.ok (.enter f caps) w:=by
  unfold execOp
  simp [hop,resolve,Deferred.ofValue,ef,clos,invoke,callFunc,hf,h1,hb]
 have he:(execOp a.eval o).events P w #[]=#[]:=by
  unfold execOp
  simp [hop,resolve,Deferred.ofValue,ef,clos,invoke,callFunc,hf,h1,hb]
 rw [stepG_enter ho hw hk hr,enter_at _ hf hb]
 have:listed P b.fn a o w=#[]:=by unfold listed;rw [he];exact seen_none P _
 rw [this]
 exact h
theorem born_clos {f:FuncId} {fn:Func} {c:Code} {caps:Array Value} (hf:P.funcs[f]? = some fn) (hname:(fn.name == "runtime.NumGoroutine")=false) (hb:fn.body=some c) :
  stepG P false (born P (ccall f caps)) w=.go (G ((baseD f).at ⟨caps++Array.replicate (fn.ntmps - caps.size) undef,[]⟩ [.code c]) [botF P]) w #[]:=by
 have h1:¬ fn.name = "runtime.NumGoroutine":=by simpa using hname
 rw [←enter_atD caps hf hb]
 simp [born,ccall,stepG,unwind,callDeferred,invoke,callFunc,hf,h1,hb,seen_none,GStep.after,G,botF]
theorem quits_bot {f:FuncId} {fn:Func} {T:Array Value} {todo:List Item} (hf:P.funcs[f]? = some fn) (hr:fn.results=#[]):QuitsD P 2 0 (G { (baseD f).at ⟨T,[]⟩ todo with mode:=.returning } [botF P]):=by
 refine QuitsD.ctl (g':=G (botF P) []) rfl (fun w=>?_) ?_
 ·simp [G,stepG,unwind,doReturn,results,Frame.at,baseD,hf,hr,seen_none,GStep.after,goexitEntry,botF]
 refine QuitsD.ctl (g':={ G (botF P) [] with status:=.finished }) rfl (fun w=>?_) ⟨rfl,rfl⟩
 simp [G,stepG,unwind,botF,goexitEntry,Frame.catches]
 try rfl
theorem stepG_leaveD {f:FuncId} {fn:Func} {todo:List Item} {c:Frame} (ha:a.defers=[]) (hf:P.funcs[f]? = some fn) (hr:fn.results=#[]) (hc:c.mode=.returning) :
  stepG P main (G { (baseD f).at a todo with mode:=.returning } (c::cs)) w=.go (G c cs) w #[]:=by
 simp [G,stepG,unwind,doReturn,results,Frame.at,ha,hf,hr,hc,seen_none,GStep.after,baseD]
theorem stepG_recover {ops:Array Oper} {i:Nat} {rest:List Nat} {o:Oper} {f:FuncId} {c:Frame} (ho:ops[i]? = some o) (hw:Region.wanted o (yielded ops a.tmps)=true) (hop:o.op=.call { callee:=.builtin .recover,args:=#[],argTypes:=#[] }) (hc:c.mode=.returning) :
  stepG P main (G ((baseD f).at a (.inRegion ops (i::rest)::k)) (c::cs)) w=.go (G ((baseD f).at (a.put o.dst .nilIface) (.inRegion ops rest::k)) (c::cs)) w #[]:=by
 have hr:(execOp a.eval o).run P w=.ok .recover w:=by
  unfold execOp
  simp [hop,resolve,invoke,builtin]
 have he:(execOp a.eval o).events P w #[]=#[]:=by
  unfold execOp
  simp [hop,resolve,invoke,builtin]
 have hfin:((baseD f).at a (.inRegion ops (i::rest)::k)).finish .nilIface=(baseD f).at (a.put o.dst .nilIface) (.inRegion ops rest::k):=by rw [Frame.finish_at,ho];rfl
 rw [stepG_oper ho hw,←hfin]
 simp [stepG.apply,hr,he,G,Frame.at,GStep.after,seen_none,baseD,tryRecover,hc,Frame.roundOf]
end Go.Proofs.YtjnkcibpkkjniaaGreat.Pool
namespace Go.Proofs
abbrev Tryz.link:Go.Conc.Lib.WgLink:={ add:=75,done:=78,wait:=62,relMerge:=108,disable:=80,enable:=82,inBubble:=88,associate:=109,fatal:=110,uOr:=111,uAdd:=112,raceRead:=113,uLoad:=81,uStore:=114,disassociate:=86,semrelease:=115,acquire:=83,isAssociated:=84,uCas:=85,raceWrite:=87,semacquire:=89,orU64:=137,addU64:=138,loadU64:=120,storeU64:=139,casU64:=121,tWgP:=168,tUP:=175,tAssoc:=208,tWg:=151,tAU:=149,tU64:=147,tUint:=119,tU32:=22,tPU32:=179,tPAU:=218,tPU64:=220,tNoCopy:=144,tANoCopy:=145,tAlign64:=146 }
theorem Tryz.wgLib:Go.Conc.Lib.WgLib Tryz.prog Tryz.link :=
 ⟨Tryz.func75,Tryz.func78,Tryz.func62,Tryz.func108,Tryz.func80,Tryz.func82,Tryz.func88,Tryz.func109,Tryz.func110,Tryz.func111,Tryz.func112,Tryz.func113,Tryz.func81,Tryz.func114,Tryz.func86,Tryz.func115,Tryz.func83,Tryz.func84,Tryz.func85,Tryz.func87,Tryz.func89,Tryz.func137,Tryz.func138,Tryz.func120,Tryz.func139,Tryz.func121,Tryz.underlying168,Tryz.runUnderlying168,Tryz.sizeOf168,Tryz.isAgg168,Tryz.zeroValue168,Tryz.underlying175,Tryz.runUnderlying175,Tryz.sizeOf175,Tryz.isAgg175,Tryz.zeroValue175,Tryz.underlying208,Tryz.runUnderlying208,Tryz.sizeOf208,Tryz.isAgg208,Tryz.zeroValue208,Tryz.underlying151,Tryz.runUnderlying151,Tryz.sizeOf151,Tryz.isAgg151,Tryz.zeroValue151,Tryz.underlying149,Tryz.runUnderlying149,Tryz.sizeOf149,Tryz.isAgg149,Tryz.zeroValue149,Tryz.underlying147,Tryz.runUnderlying147,Tryz.sizeOf147,Tryz.isAgg147,Tryz.zeroValue147,Tryz.underlying119,Tryz.runUnderlying119,Tryz.sizeOf119,Tryz.isAgg119,Tryz.zeroValue119,Tryz.underlying22,Tryz.runUnderlying22,Tryz.sizeOf22,Tryz.isAgg22,Tryz.zeroValue22,Tryz.underlying179,Tryz.runUnderlying179,Tryz.sizeOf179,Tryz.isAgg179,Tryz.zeroValue179,Tryz.underlying218,Tryz.runUnderlying218,Tryz.sizeOf218,Tryz.isAgg218,Tryz.zeroValue218,Tryz.underlying220,Tryz.runUnderlying220,Tryz.sizeOf220,Tryz.isAgg220,Tryz.zeroValue220,Tryz.underlying0,Tryz.runUnderlying0,Tryz.sizeOf0,Tryz.isAgg0,Tryz.zeroValue0,Tryz.underlying3,Tryz.runUnderlying3,Tryz.sizeOf3,Tryz.isAgg3,Tryz.zeroValue3,Tryz.underlying4,Tryz.runUnderlying4,Tryz.sizeOf4,Tryz.isAgg4,Tryz.zeroValue4,Tryz.underlying9,Tryz.runUnderlying9,Tryz.sizeOf9,Tryz.isAgg9,Tryz.zeroValue9,Tryz.underlying20,Tryz.runUnderlying20,Tryz.sizeOf20,Tryz.isAgg20,Tryz.zeroValue20,Tryz.underlying21,Tryz.runUnderlying21,Tryz.sizeOf21,Tryz.isAgg21,Tryz.zeroValue21,(by kernel_rfl),(by kernel_rfl)⟩
end Go.Proofs
namespace Go.Proofs.YtjnkcibpkkjniaaGreat.Pool
open Go.Conc Go.ConcN Go.Conc.Lib
open Go.ConcR (KK wgBlock WgAt stA smA rd wr mk DC0)
structure Wk where
 Wg:Nat
 CB:Nat
 bW:Nat
 bF:Nat
 bC:Nat
 bI:Nat
 bS:Nat
 bN:Nat
 i:Nat
 sp:Nat
 so:Nat
 id:Int
 xb:Nat
 xo:Nat
 xl:Nat
 xc:Nat
 nb:Nat
 no:Nat
 nl:Nat
 nc:Nat
 m:Value
def Wk.S (p:Wk) (b:Nat):Prop:=b=p.bW∨b=p.bF∨b=p.bC∨b=p.bI∨b=p.bS∨b=p.bN∨b=p.sp∨b=p.nb
def box (b:Nat):Value:=.pointer (some ⟨b,0,none⟩)
def Wk.fix (p:Wk):List (Nat×Value):=[(0,box p.bC),(1,box p.bI),(2,box p.bS),(3,box p.bN)]
def Wk.caps (p:Wk):Array Value:=#[box p.bC,box p.bI,box p.bS,box p.bN]
structure WF (p:Wk) (w:World):Prop where
 hW:w.cell? ⟨p.bW,0,none⟩=some (box p.Wg)
 hF:w.cell? ⟨p.bF,0,none⟩=some (clos 59 p.caps)
 hC:w.cell? ⟨p.bC,0,none⟩=some (.chan (some p.CB))
 hI:w.cell? ⟨p.bI,0,none⟩=some (.int .i64 p.i)
 hS:w.cell? ⟨p.bS,0,none⟩=some (.pointer (some ⟨p.sp,p.so,none⟩))
 hid:w.cell? ⟨p.sp,p.so,none⟩=some (.int .i64 p.id)
 hx:w.cell? ⟨p.sp,p.so+1,none⟩=some (.slice (some ⟨p.xb,p.xo,none⟩) p.xl p.xc)
 hN:w.cell? ⟨p.bN,0,none⟩=some (.slice (some ⟨p.nb,p.no,none⟩) p.nl p.nc)
 hm:w.cell? ⟨p.nb,p.no+p.i,none⟩=some p.m
 lx:p.i < p.xl
 ln:p.i < p.nl
 live:WgLive Tryz.link.tWg p.Wg w
theorem WF.rely {p:Wk} {w w₁:World} (h:WF p w) (r:RK Tryz.link.tWg p.Wg p.S w w₁):WF p w₁ where
 hW:=(cell_of_block (r.keep _ (by simp [Wk.S])) 0).trans h.hW
 hF:=(cell_of_block (r.keep _ (by simp [Wk.S])) 0).trans h.hF
 hC:=(cell_of_block (r.keep _ (by simp [Wk.S])) 0).trans h.hC
 hI:=(cell_of_block (r.keep _ (by simp [Wk.S])) 0).trans h.hI
 hS:=(cell_of_block (r.keep _ (by simp [Wk.S])) 0).trans h.hS
 hid:=(cell_of_block (r.keep _ (by simp [Wk.S])) _).trans h.hid
 hx:=(cell_of_block (r.keep _ (by simp [Wk.S])) _).trans h.hx
 hN:=(cell_of_block (r.keep _ (by simp [Wk.S])) 0).trans h.hN
 hm:=(cell_of_block (r.keep _ (by simp [Wk.S])) _).trans h.hm
 lx:=h.lx
 ln:=h.ln
 live:=r.live h.live
noncomputable def w1ops:Array Oper:=match Tryz.f59.body with
 | some (.region _ ops _)=>ops
 | _=>#[]
def Wk.val (p:Wk) (ret:Value):Nat→Value
 | 0=>.chan (some p.CB)
 | 1 | 6 | 13=>.int .i64 p.i
 | 2 | 3 | 8 | 9 | 10=>.pointer (some ⟨p.sp,p.so,none⟩)
 | 4=>.pointer (some ⟨p.sp,p.so+1,none⟩)
 | 5=>.slice (some ⟨p.xb,p.xo,none⟩) p.xl p.xc
 | 7=>.pointer (some ⟨p.xb,p.xo+p.i * 14,none⟩)
 | 11=>.int .i64 p.id
 | 12=>.slice (some ⟨p.nb,p.no,none⟩) p.nl p.nc
 | 14=>.pointer (some ⟨p.nb,p.no+p.i,none⟩)
 | 15=>p.m
 | 16=>ret
 | 17=>.agg (#[.int .i64 p.i]++ret.cells)
 | _=>undef
theorem ok_w1:okOps w1ops [0,1,2,3] 22=true:=by kernel_rfl
theorem dep {ops:Array Oper} {val:Nat→Value} {fix:List (Nat×Value)} {T:Nat} {listed:Array Bool} {a:Act} (ht:Tab ops val fix T listed a) {i:Nat} {o:Oper} (ho:ops[i]? = some o) (hr:i∈Region.ready .any ops listed) :
  ∀ e∈o.after,e.on < ops.size→Region.binds .any e=true→∀ o' d,ops[e.on]? = some o'→o'.dst=some d→a.tmps[d]? = some (val e.on):=by
 intro e he hlt hb o' d ho' hd
 obtain ⟨_,o2,h1,h2⟩:=mem_ready.1 hr
 rw [ho] at h1
 obtain rfl:=Option.some.inj h1
 exact ht.val e.on o' d ho' (h2 e he hb) hd
set_option maxHeartbeats 2000000 in
theorem w1_op {p:Wk} {ret:Value} {i:Nat} {o:Oper} {listed:Array Bool} {a:Act} {w:World} (ho:w1ops[i]? = some o) (hr:i∈Region.ready .any w1ops listed) (hsp:(i == 16 || i == 18)=false) (h17:i≠17)
  (ht:Tab w1ops (p.val ret) p.fix 22 listed a) (hF:WF p w):(execOp a.eval o).run Tryz.prog w=.ok (.value (p.val ret i)) w∧∀ e∈(execOp a.eval o).events Tryz.prog w #[],∃ ad:Addr,e=⟨.cell ad,false,false⟩∧p.S ad.block:=by
 have hd:=dep ht ho hr
 have hi:i < 19:=(Array.getElem?_eq_some_iff.1 ho).1
 have f0:a.tmps[0]? = some (box p.bC):=ht.fix (0,box p.bC) (by simp [Wk.fix])
 have f1:a.tmps[1]? = some (box p.bI):=ht.fix (1,box p.bI) (by simp [Wk.fix])
 have f2:a.tmps[2]? = some (box p.bS):=ht.fix (2,box p.bS) (by simp [Wk.fix])
 have f3:a.tmps[3]? = some (box p.bN):=ht.fix (3,box p.bN) (by simp [Wk.fix])
 have hC:=hF.hC;have hI:=hF.hI;have hS:=hF.hS;have hid:=hF.hid;have hx:=hF.hx;have hN:=hF.hN;have hm:=hF.hm;have lx:=hF.lx;have ln:=hF.ln
 clear hr
 obtain rfl | rfl | rfl | rfl | rfl | rfl | rfl | rfl | rfl | rfl | rfl | rfl | rfl | rfl | rfl | rfl | rfl | rfl | rfl:i=0∨i=1∨i=2∨i=3∨i=4∨i=5∨i=6∨i=7∨i=8∨i=9∨i=10∨i=11∨i=12∨i=13∨i=14∨i=15∨i=16∨i=17∨i=18:=by omega
 all_goals first | (exfalso;revert hsp;decide) | exact absurd rfl h17 | skip
 all_goals
  simp only [w1ops,Tryz.f59] at ho hd
  simp only [List.getElem?_toArray,List.getElem?_cons_succ,List.getElem?_cons_zero,Option.some.injEq] at ho hd
  subst ho
  simp [Region.binds] at hd
 all_goals (refine ⟨?_,?_⟩)
 all_goals unfold execOp
 all_goals simp only [Act.eval,Wk.val,Array.getD_eq_getD_getElem?,hd,f0,f1,f2,f3,Option.getD_some,box]
 all_goals first | go_simp | trace_state
 all_goals simp [Wk.S]
end Go.Proofs.YtjnkcibpkkjniaaGreat.Pool
namespace Go.Proofs.YtjnkcibpkkjniaaGreat.Pool
open Go.Conc Go.ConcN Go.Conc.Lib
open Go.ConcR (KK wgBlock WgAt stA smA rd wr mk DC0)
theorem DQ.nil {S:Nat→Prop} {w:World}:DQ S w w #[]:=⟨⟨w.drawn,rfl⟩,by simp⟩
theorem DQ.drew {S:Nat→Prop} {w:World}:DQ S w { w with drawn:=w.drawn+1 } #[]:=⟨⟨w.drawn+1,rfl⟩,by simp⟩
set_option maxHeartbeats 2000000 in
theorem w1_17 {p:Wk} {c0 c1:Value} {o:Oper} {listed:Array Bool} {a:Act} {w:World} (ho:w1ops[17]? = some o) (hr:17∈Region.ready .any w1ops listed)
  (ht:Tab w1ops (p.val (.agg #[c0,c1])) p.fix 22 listed a):(execOp a.eval o).run Tryz.prog w=.ok (.value (p.val (.agg #[c0,c1]) 17)) w∧∀ e∈(execOp a.eval o).events Tryz.prog w #[],False:=by
 have hd:=dep ht ho hr
 clear hr
 simp only [w1ops,Tryz.f59] at ho hd
 simp only [List.getElem?_toArray,List.getElem?_cons_succ,List.getElem?_cons_zero,Option.some.injEq] at ho hd
 subst ho
 simp [Region.binds] at hd
 refine ⟨?_,?_⟩
 all_goals unfold execOp
 all_goals simp only [Act.eval,Wk.val,Array.getD_eq_getD_getElem?,hd,Option.getD_some,List.map_toArray,List.map_cons,List.map_nil,Value.cells]
 ·rw [Sem.run_bind,run_build w _ _ #[.int .i64 p.i,c0,c1] (by kernel_rfl)]
  rfl
 ·intro e he
  simp [go_sem] at he
theorem w1_hop {p:Wk} {c0 c1:Value} (i:Nat) (o:Oper) (listed:Array Bool) (a:Act) (w:World) (ho:w1ops[i]? = some o) (hr:i∈Region.ready .any w1ops listed) (hsp:(i == 16 || i == 18)=false)
  (ht:Tab w1ops (p.val (.agg #[c0,c1])) p.fix 22 listed a) (hF:WF p w):(execOp a.eval o).run Tryz.prog w=.ok (.value (p.val (.agg #[c0,c1]) i)) w∧∀ e∈(execOp a.eval o).events Tryz.prog w #[],∃ ad:Addr,e=⟨.cell ad,false,false⟩∧p.S ad.block:=by
 by_cases e:i=17
 ·subst e
  obtain ⟨h1,h2⟩:=w1_17 (w:=w) ho hr ht
  exact ⟨h1,fun e he=>(h2 e he).elim⟩
 ·exact w1_op ho hr hsp e ht hF
theorem sched_w1 (m:Bool) (t:Nat):Region.schedule m w1ops t=Region.linearise .any w1ops t:=by
 have:Region.departs w1ops=false:=by kernel_rfl
 simp [Region.schedule,this]
abbrev sp1 (i:Nat):Bool:=i == 16 || i == 18
theorem w1_size:w1ops.size=19:=by kernel_rfl
theorem w1_16:∃ o,w1ops[16]? = some o∧o.dst=some 20∧o.op=.call { callee:=.value (.func 60),args:=#[.tmp 11, .tmp 15, .tmp 19],argTypes:=#[100,3,44] }∧o.guard=none:=⟨_,rfl,rfl,rfl,rfl⟩
end Go.Proofs.YtjnkcibpkkjniaaGreat.Pool
namespace Go.Proofs.YtjnkcibpkkjniaaGreat.Pool
open Go.Conc Go.ConcN Go.Conc.Lib Go.ConcR.Gen Go.ConcN.Gen Go.Proofs.YtjnkcibpkkjniaaGreat.Sim
open Go.ConcR (KK wgBlock WgAt stA smA rd wr mk DC0)
variable [Scope]
def Wk.nums (p:Wk) (B n CF:Nat):Nums:=⟨B,n,p.Wg,p.CB,CF,Tryz.link.tWg, .tuple #[]⟩
def Wk.job (p:Wk) (ρ:Ren) (args:Array Value) (wS:World) (R:Value→World→Prop):Work :=
 {S:=p.S,f:=60,args:=args,args':=#[.pointer (some ⟨p.xb,p.xo+p.i * 14,none⟩), .int .i64 p.id,p.m],wS:=wS,
  ok:=fun v=>∃ sa sl sc sb,v=.agg #[.slice sa sl sc, .bool sb],msg:=fun v=>.agg (#[.int .i64 p.i]++v.cells),ρ:=ρ,R:=R }
noncomputable def g1ops:Array Oper:=match Tryz.f76.body with
 | some (.seq _ (.region _ ops _))=>ops
 | _=>#[]
noncomputable def F89 (p:Wk):Frame:=(baseD 76).at ⟨#[box p.bW,box p.bF,clos 77 #[box p.bW],clos 59 p.caps,undef],[ccall 77 #[box p.bW]]⟩ [.inRegion g1ops [1]]
noncomputable def under (p:Wk):List Frame:=[F89 p,botF Tryz.prog]
noncomputable def lit:Frame:=base 59
abbrev RKp (p:Wk):World→World→Prop:=RK Tryz.link.tWg p.Wg p.S
def AtLit (p:Wk) (g:Goroutine) (w:World):Prop:=WF p w∧∃ m t,g=G (lit.at ⟨p.caps++Array.replicate 18 undef,[]⟩ [.inRegion w1ops (Region.schedule m w1ops t)]) (under p)
set_option maxRecDepth 100000 in
set_option maxHeartbeats 4000000 in
theorem w_born {p:Wk} {w:World} (hF:WF p w):Goes Tryz.prog false (RKp p) (DQ p.S) (AtLit p) 10 (born Tryz.prog (ccall 76 #[box p.bW,box p.bF])) w:=by
 refine Goes.step rfl fun w₁ h₁=>?_
 replace hF:=hF.rely h₁
 clear h₁
 rw [born_clos Tryz.func76 rfl rfl]
 simp only [goes_go]
 refine ⟨DQ.nil,?_⟩
 walk_nrmf Tryz.f76
 ((refine Goes.step rfl (fun _ h₁=>?_);replace hF:=WF.rely hF h₁;clear h₁);rw [stepG_seq];simp only [goes_go];refine ⟨DQ.nil,?_⟩)
 ((refine Goes.step rfl (fun _ h₁=>?_);replace hF:=WF.rely hF h₁;clear h₁);rw [stepG_region];simp only [goes_go,List.size_toArray,List.length_cons,List.length_nil,Nat.reduceAdd,Nat.zero_add,List.range,List.range.loop];refine ⟨DQ.nil,?_⟩)
 ((refine Goes.step rfl (fun _ h₁=>?_);replace hF:=WF.rely hF h₁;clear h₁);refine goes_oper_k rfl rfl (by decide) (fun K hK=>?_);have e1:=WF.hW hF;have e2:=WF.hF hF;simp only [box] at *;go_simp;refine hK _ _ ⟨⟨⟨_,rfl⟩,fun e he=>?_⟩,?_⟩;(focus (have hm:=mem_listed he;simp [go_sem, *] at hm;(try (subst hm;exact ⟨_,rfl,by simp [Wk.S]⟩))));clear hK K e1 e2)
 (refine Goes.step rfl (fun _ h₁=>?_);replace hF:=WF.rely hF h₁;clear h₁)
 rw [stepG_defer_clos rfl rfl (by decide) rfl rfl]
 simp only [goes_go]
 refine ⟨DQ.nil,?_⟩
 walk_nrm
 ((refine Goes.step rfl (fun _ h₁=>?_);replace hF:=WF.rely hF h₁;clear h₁);rw [stepG_region_end];simp only [goes_go];refine ⟨DQ.nil,?_⟩)
 ((refine Goes.step rfl (fun _ h₁=>?_);replace hF:=WF.rely hF h₁;clear h₁);rw [stepG_region];simp only [goes_go,List.size_toArray,List.length_cons,List.length_nil,Nat.reduceAdd,Nat.zero_add,List.range,List.range.loop];refine ⟨DQ.nil,?_⟩)
 ((refine Goes.step rfl (fun _ h₁=>?_);replace hF:=WF.rely hF h₁;clear h₁);refine goes_oper_k rfl rfl (by decide) (fun K hK=>?_);have e1:=WF.hW hF;have e2:=WF.hF hF;simp only [box] at *;go_simp;refine hK _ _ ⟨⟨⟨_,rfl⟩,fun e he=>?_⟩,?_⟩;(focus (have hm:=mem_listed he;simp [go_sem, *] at hm;(try (subst hm;exact ⟨_,rfl,by simp [Wk.S]⟩))));clear hK K e1 e2)
 (refine Goes.step rfl (fun _ h₁=>?_);replace hF:=WF.rely hF h₁;clear h₁)
 refine goes_call_clos rfl rfl (by decide) rfl rfl Tryz.func59 rfl rfl ⟨DQ.nil,?_⟩
 (refine Goes.step rfl (fun _ h₁=>?_);replace hF:=WF.rely hF h₁;clear h₁)
 rw [stepG_region_draw]
 simp only [goes_go]
 refine ⟨DQ.drew,Goes.stop fun w₂ h₂=>?_⟩
 exact ⟨hF.rely ⟨fun b hb=>h₂.keep b hb,fun hl=>h₂.live hl⟩,_,_,rfl⟩
end Go.Proofs.YtjnkcibpkkjniaaGreat.Pool
