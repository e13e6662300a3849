import Derived.Test.YtjnkcibpkkjniaaGreatA00
import Derived.Test.YtjnkcibpkkjniaaGreatA12
import Derived.Test.YtjnkcibpkkjniaaGreatA13
import Derived.Test.YtjnkcibpkkjniaaGreatRows
import Derived.WalkSpells
import Derived.WalkLawsBesides
import Derived.BigQuiet
import Derived.Deep.RegionWith
set_option linter.all false
set_option maxHeartbeats 4000000
set_option maxRecDepth 20000
namespace Go.Proofs.YtjnkcibpkkjniaaGreat
def iC:=@Go.run_convert_bytes_arg
def iE:=@Go.strOfNums_size
def jh:=@Go.Calls.quiet_of_same
def jk:=@Go.Calls.quiet_of
def jJ:=@Go.Lib.run_eql_slice_nil
def jP:=@Go.DataW.weights_mem_each
end Go.Proofs.YtjnkcibpkkjniaaGreat
namespace Go.Proofs.YtjnkcibpkkjniaaGreat.kj
section
open Go.Conc Go.ConcN Go.Conc.Lib Go.ConcR.Gen Go.ConcN.Gen Go.Proofs.YtjnkcibpkkjniaaGreat.j7
open Go.ConcR (KK wgBlock WgAt stA smA rd wr mk DC0)
section
variable [Scope]
theorem kR.NL{S:Loc→Prop}{w:World}{ρ:jR}{a b:Frame}(k:kR S ρ w a b)(hm:∀(i:Nat) v v',a.tmps[i]?=some v→kT v=false∧(VR ρ v v'→v'=v)):b=a:=by
 have s:=k.fn;have t:=sQ k.tmps.size fun i v v' x y=>(hm i v v' x).2 ((k.tmps.get i v v' x y).vr (hm i v v' x).1)
 have u:=k.todo;have d:=k.defers;have z:=k.mode.1;have f:=k.kind;have g:=k.round;obtain⟨fn,tmps,E,defers,mode,kind,ro⟩:=a;obtain⟨A,h,B,c,j,m,C⟩:=b;simp only at s t u d z f g;obtain⟨d,p⟩:=d;obtain⟨f,q⟩:=f;obtain⟨g,r⟩:=g;subst s t u d p z f q g r;rfl
def ur (x:Frame) (b:Nat):Prop:=∃(j:Nat)(v:Value),x.tmps[j]?=some v∧kT v=false∧Nm v b
theorem kR.named{S:Loc→Prop}{w:World}{ρ:jR}{a b:Frame}(k:kR S ρ w a b){r:Nat}(h:ur a r):∃pl,ρ r=some pl:=by
 obtain⟨j,v,c,d,f⟩:=h;obtain⟨v',e,g⟩:=k.tmps.at_ c;exact VR.named f (g.vr d)
theorem qn.mem{S:Loc→Prop}{w:World}{ρ:jR}{a b:List Frame}(k:qn S ρ w a b){x:Frame}(hx:x∈a):∃y,kR S ρ w x y:=by
 induction k with
 |nil=>cases hx
 |cons c _ d =>
  rcases fJ.1 hx with rfl|hx
  ·exact⟨_,c⟩
  ·exact d hx
end
noncomputable def qU (p:WI):Frame:=wf.at ⟨#[p.s,p.mW]++Array.replicate 34 undef,[]⟩ [.code (Tryz.f35.body.getD .skip)]
theorem NM(a b:Value)(d:kT a=false)(hb:kT b=false)(n:Nat):∀(i:Nat) v,(#[a,b]++Array.replicate n undef)[i]?=some v→kT v=false:=by
 intro i v c;rw[dn]at c;split at c
 ·match i,c with
  |0,c=>simp at c;rw[←c];exact d
  |1,c=>simp at c;rw[←c];exact hb
  |i+2,c=>simp at c
 ·rw[dt]at c;split at c
  ·cases c;rfl
  ·cases c
theorem NN(p:WI):∀(i:Nat) v,(qU p).tmps[i]?=some v→kT v=false:=NM p.s p.mW rfl rfl 34
theorem CY:∀f,jY.ok f=true→jT.ok f=true:=by
 intro f c;have h:(wi.all fun f=>wm.contains f)=true:=by kernel_rfl
 have:=ek.1 h f (iA.1 c);exact this
theorem AR.self{SM:Scope}{S:Nat→Prop}{b o:Nat}(h:S b)(hb:SM.base≤b):@AR SM (nV S) ⟨b,o,none⟩ ⟨b,o,none⟩:=⟨hb,⟨b,none⟩,xI h,rfl,by simp[Place.shift],rfl⟩
end
end Go.Proofs.YtjnkcibpkkjniaaGreat.kj
namespace Go.Proofs.YtjnkcibpkkjniaaGreat.j7
section
variable {SW SM:Scope}
theorem AR.qV{ρ:jR}{S:Nat→Prop}(hb:SM.base=0)(hS:∀y pl,ρ y=some pl→S pl.block){a a':Addr}(h:@AR SW ρ a a'):@AR SM (nV S) a' a':=by
 obtain⟨d,p,hp,c,f,g⟩:=h;exact⟨by rw[hb];exact eI _,⟨a'.block,none⟩,xI (by rw[c];exact hS _ _ hp),rfl,by simp[Place.shift],rfl⟩
theorem VR.qV{ρ:jR}{S:Nat→Prop}(d:SW.sync=false)(hb:SM.base=0)(p:∀f,SW.ok f=true→SM.ok f=true)(hS:∀y pl,ρ y=some pl→S pl.block){v v':Value}(h:@VR SW ρ v v'):@VR SM (nV S) v' v':=by
 induction h with
 |bool b=>exact .bool b
 |int k n=>exact .int k n
 |string s=>exact .string s
 |oL=>exact .oL
 |ptr q=>exact .ptr (AR.qV hb hS q)
 |lW l c=>exact .lW l c
 |slice l c q=>exact .slice l c (AR.qV hb hS q)
 |qk=>exact .qk
 |map hr=>exact .map (xI (hS _ _ hr))
 |qG=>exact .qG
 |func u g _ z _ r t =>
  refine .func (p _ u) rfl (fun i v v' a b=>?_) rfl (fun i v v' a b=>?_)
  ·obtain⟨x,hx⟩:=ox g.symm a;rw[a]at b;cases b
   exact r i x _ hx a
  ·obtain⟨x,hx⟩:=ox z.symm a;rw[a]at b;cases b
   exact t i x _ hx a
 |nilFunc=>exact .nilFunc
 |iface _ m=>exact .iface m
 |nilIface=>exact .nilIface
 |agg g _ m =>
  refine .agg rfl (fun i v v' a b=>?_);obtain⟨x,hx⟩:=ox g.symm a;rw[a]at b;cases b
  exact m i x _ hx a
 |tuple g _ m =>
  refine .tuple rfl (fun i v v' a b=>?_);obtain⟨x,hx⟩:=ox g.symm a;rw[a]at b;cases b
  exact m i x _ hx a
 |mN j _=>rw[d]at j;cases j
 |hole j _=>rw[d]at j;cases j
 |oM j=>rw[d]at j;cases j
theorem OR.qV{ρ:jR}{S:Nat→Prop}(d:SW.sync=false)(hb:SM.base=0)(g:∀f,SW.ok f=true→SM.ok f=true)(hS:∀y pl,ρ y=some pl→S pl.block){o o':Obj}(h:@OR SW ρ o o'):@OR SM (nV S) o' o':=by
 cases h with
 | @cells c C e fr j =>
  refine .cells (@jW.diag SM _ _ fun i v m=>?_);have p:c.size=C.size:=@jW.size SW _ _ _ j;obtain⟨x,hx⟩:=ox p.symm m;exact VR.qV d hb g hS (@jW.get SW _ _ _ j i x v hx m)
 | @map es ES clk p q =>
  refine .map rfl fun i x y a b=>?_
  rw[a]at b;cases b
  have s:=(dp.1 a).1;obtain⟨k1,k2,t⟩:=q i es[i] x (dq (by omega)) a;exact⟨VR.qV d hb g hS k1,VR.qV d hb g hS k2,rfl⟩
 |number r=>exact .number (AR.qV hb hS r)
end
end Go.Proofs.YtjnkcibpkkjniaaGreat.j7
namespace Go.Proofs.YtjnkcibpkkjniaaGreat.kj
open Go.Conc Go.ConcN Go.Conc.Lib Go.ConcR.Gen Go.ConcN.Gen Go.Proofs.YtjnkcibpkkjniaaGreat.j7
open Go.ConcR (KK wgBlock WgAt stA smA rd wr mk DC0)
theorem CZ:Tryz.prog.globals.size=0:=by kernel_rfl
theorem NO:jY.base=0:=CZ
theorem rK:jT.base=0:=CZ
structure x6 (n:Nat) (ρ:Nat→jR):Prop where
 apart:∀i i',i<n→i'<n→i≠i'→pV (ρ i) (ρ i')
 cover:∀i,i<n→∀b pl s l ty,ρ i b=some pl→pl.part=some ⟨s,l,ty⟩→∀j,j<ty.2→∃i',i'<n∧∃b' ru s' l' pg,ρ i' b'=some ru∧ru.block=pl.block∧ru.part=some ⟨s',l',pg⟩∧s'≤j∧j<s'+l'
structure x7 (p:WI) (m:Nat→Value) (ρj:Nat→jR) (wj:Nat→World) (args:Nat→Array Value) (R:Nat→Value→World→Prop) (wS:World):Prop where
 hF:xV p wS
 nl:p.xl≤p.nl
 hm:∀i,i<p.xl→wS.cell? ⟨p.nb,p.no+i,none⟩=some (m i)
 pW:x6 p.xl ρj
 hr:∀i,i<p.xl→@HR jY (ρj i) (wj i) wS
 reach:∀i,i<p.xl→∀b pl,ρj i b=some pl→qT wS #[p.s,p.mW] pl.block
 apart:∀i,i<p.xl→∀b pl,ρj i b=some pl→pl.block≠p.sp∧pl.block≠p.nb
 rel:∀i,i<p.xl→@jW jY (ρj i) (args i) #[.pointer (some ⟨p.xb,p.xo+i*14,none⟩),.int .i64 p.id,m i]
 calls:∀i,i<p.xl→∀t,Calls Tryz.prog 60 (args i) { wj i with tape:=t,drawn:=0 } fun e w'=>∃v,e=.returned v∧R i v w'
 shape:∀i,i<p.xl→∀v w ρ v',R i v w→@VR jY ρ v v'→zU v'
 C0:∃C E,wS.heap[p.nb]?=some (.cells C E (0,0))
 own:∀i,i<p.xl→∀b pl,ρj i b=some pl→∃C E,wS.heap[pl.block]?=some (.cells C E (0,0))
theorem NP:∀(n:Nat)(l:List Nat),l.Nodup→(∀i∈l,i<n)→l.length≤n:=by
 intro n
 induction n with
 |zero =>
  intro l _ h
  cases l with
  |nil=>simp
  |cons a r=>exact absurd (h a (by simp)) (g8 _)
 |succ n f =>
  intro l d h
  by_cases g:n∈l
  ·have j:=f (l.erase n) (d.erase n) fun i c=>by
    have m:=h i (List.mem_of_mem_erase c);have p:i≠n:=fun e=>by subst e;exact(List.Nodup.not_mem_erase d) c
    omega
   rw[List.length_erase_of_mem g]at j;omega
  ·have:=f l d fun i c=>by
    have m:=h i c;have p:i≠n:=fun e=>g (e▸c)
    omega
   omega
def p5 (n:Nat) (ρ:Nat→jR) (b:Nat):Prop:=∃i,i<n∧∃y pl,ρ i y=some pl∧pl.block=b
def x8 (n:Nat) (rep:Array Value) (v:Nat→Value):Prop:=rep.size=n*2∧∀i,i<n→∃sa sl sc sb,v i=.agg #[.slice sa sl sc,.bool sb]∧rep[i*2]?=some (.slice sa sl sc)∧rep[i*2+1]?=some (.bool sb)
def zX (p:WI) (ρj:Nat→jR) (R:Nat→Value→World→Prop) (v:Nat→Value) (w':World) (I:Nat→Prop):Prop :=
 ∃(ρ':Nat→jR),x6 p.xl ρ'∧(∀b,I b↔p5 p.xl ρ' b)∧∀i,i<p.xl→(ρj i).le (ρ' i)∧(∀b q,ρ' i b=some q→ρj i b=some q∨q.part=none)∧∃vS wE,R i vS wE∧@HR jY (ρ' i) wE w'∧@VR jY (ρ' i) vS (v i)
theorem NQ(a b:Value)(n:Nat):∀(i:Nat) v,(#[a,b]++Array.replicate n undef)[i]?=some v→v=a∨v=b∨v=undef:=by
 intro i v c;rw[dn]at c;split at c
 ·match i,c with
  |0,c=>simp at c;exact .inl c.symm
  |1,c=>simp at c;exact .inr (.inl c.symm)
  |i+2,c=>simp at c
 ·rw[dt]at c;split at c
  ·cases c;exact .inr (.inr rfl)
  ·cases c
theorem NS[Scope]{ρ:jR}(f:nU ρ){a:Addr}{pl:j7.Place}{l c:Nat}(d:ρ a.block=some pl)(hp:pl.part=none){v':Value}(h:VR ρ (.slice (some a) l c) v'):v'=.slice (some a) l c:=by
 cases h with
 |slice l c g=>rw[f.addr g]
 |mN _ k =>
  obtain⟨b,x,hx⟩:=k;rw[d]at hx
  cases hx
  cases hp
theorem NT[Scope]{ρ:jR}{a:Addr}{l c:Nat}{v':Value}(h:VR ρ (.slice (some a) l c) v'):∃pl,ρ a.block=some pl:=by
 cases h with
 |slice l c d=>obtain⟨_,p,hp,_⟩:=d;exact⟨p,hp⟩
 |mN _ k=>obtain⟨b,x,hx⟩:=k;exact⟨_,hx⟩
theorem NU{p:WI}{m:Nat→Value}{ρj:Nat→jR}{wj:Nat→World}{args:Nat→Array Value}{R:Nat→Value→World→Prop}{wS:World}(hI:x7 p m ρj wj args R wS)(c5:∀i,i<p.xl→∀v w',R i v w'→w'.os=wS.os){cs x2:List Frame}{c bc:Frame}{ac:Act}{ops:Array Oper}{i:Nat}{l:List Nat}{kk:List Item}(hc:c=bc.at ac (.inRegion ops (i::l)::kk)){Q:Frame→List Frame→World→Prop}(k:∀w' RB rep v (I:Nat→Prop),zX p ρj R v w' I→(∀b,I b→∃o,w'.heap[b]?=some o∧@OR jY (nV I) o o)→(∀x∈qU p::c::x2,∀b,ur x b→¬p5 p.xl ρj b→¬I b)→x8 p.xl rep v→w'.heap[RB]?=some (.cells rep 140)→¬I RB→(∀x∈qU p::c::x2,∀b,ur x b→¬p5 p.xl ρj b→b≠RB∧w'.heap[b]?=wS.heap[b]?)→wS.heap.size≤w'.heap.size→(∀b,b<wS.heap.size→¬p5 p.xl ρj b→¬I b∧b≠RB∧w'.heap[b]?=wS.heap[b]?) →
   @j6 Tryz.prog jT cs Q (c.finish (kx p RB)) x2 w'):@j6 Tryz.prog jT cs Q (qU p) (c::x2) wS:=by
 intro Shun ρ gs w sl t q hs;obtain⟨jS,ys,h0,hf,hx⟩:=@oO.main jT _ _ _ _ _ _ _ _ _ _ _ hs;have hr:=@oO.hr jT _ _ _ _ _ _ _ _ _ _ _ hs;have aT:=@oO.leave jT _ _ _ _ _ _ _ _ _ _ _ hs;have ae:=@oO.past jT _ _ _ _ _ _ _ _ _ _ _ hs;have ak:=@oO.mD jT _ _ _ _ _ _ _ _ _ _ _ hs;obtain⟨hsz,hid⟩:=@HR.sync jT _ _ _ hr rfl;have hid:nU ρ:=hid;have bf:∀{b pl},ρ b=some pl→pl.block=b:=fun h=>nU.block hid h
 have ck:=hx;have bH:=hf;have cl:=NN p;obtain⟨bI,c6⟩:(∀v',@VR jT ρ p.mW v'→v'=p.mW)∧(∀v',@VR jT ρ p.mW v'→ρ p.nb=some ⟨p.nb,none⟩):=by
  have bJ:∀v',@VR jT ρ p.mW v'→ρ p.nb=some ⟨p.nb,none⟩:=fun v' hv=>by
   obtain⟨pl,O⟩:=@NT jT _ _ _ _ _ hv;have O:ρ p.nb=some pl:=O;rcases hid _ _ O with rfl|⟨ty,rfl⟩
   ·exact O
   ·exfalso;obtain⟨o,o',X,h2,h3⟩:=@HR.obj jT _ _ _ hr _ _ O;obtain⟨C,E,hC⟩:=hI.C0;rw[hC]at X;obtain rfl:=eX X;rcases h3 with⟨_,_,_,c1,C1,cm,h0,e1,_⟩|⟨c1,C1,_,_,hd,_⟩
    ·have e2:=dD (fun o:Obj=>match o with | .cells _ _ f=>f.2|_=>0) e1;simp only at e2;omega
    ·exact Bool.noConfusion hd.1.1
  exact⟨fun v' hv=>@NS jT _ hid _ _ _ _ (bJ v' hv) rfl _ hv,bJ⟩
 obtain rfl:=@kR.NL jT _ _ _ _ _ hf (fun i v v' hv=>by
  rcases NQ _ _ _ i v hv with rfl|rfl|rfl
  ·exact⟨rfl,@zq jT _ hid _ _ rfl⟩
  ·exact⟨rfl,bI v'⟩
  ·exact⟨rfl,@zq jT _ hid _ _ rfl⟩)
 obtain⟨c',aC,rfl,cn,co⟩:∃c' aC,ys=c'::aC∧@kR jT Shun ρ w c c'∧@qn jT Shun ρ w x2 aC:=by
  cases hx with
  |cons a b=>exact⟨_,_,rfl,a,b⟩
 let T:Nat→Prop:=p5 p.xl ρj
 have aU:∀b pl,ρ b=some pl→pl.part=none∨∃ty,pl.part=some ⟨0,0,ty⟩:=fun b pl hb=>by
  rcases hid b pl hb with rfl|⟨ty,rfl⟩
  ·exact .inl rfl
  ·exact .inr ⟨ty,rfl⟩
 have aF:∀x∈qU p::c::x2,∀b,ur x b→∃pl,ρ b=some pl:=fun x hx b hb=>by
  rcases fJ.1 hx with rfl|hx
  ·exact @kR.named jT _ _ _ _ _ bH _ hb
  ·obtain⟨y,M⟩:=@qn.mem jT _ _ _ _ _ ck _ hx;exact @kR.named jT _ _ _ _ _ M _ hb
 have au:∀b,qT wS #[p.s,p.mW] b→∃pl,ρ b=some pl:=fun b hb=>by
  have hA:@jW jT ρ #[p.s,p.mW] #[p.s,p.mW]:=by
   have X:=@kR.tmps jT _ _ _ _ _ bH;refine @jW.mk jT _ _ _ rfl fun i v v' a b=>?_
   have A:i<2:=(dp.1 a).1;have e:∀(j:Nat),j<2→(qU p).tmps[j]?=(#[p.s,p.mW]:Array Value)[j]?:=fun j hj=>by
    show(#[p.s,p.mW]++Array.replicate 34 undef)[j]?=_;rw[gE hj]
   exact @VF.vr jT _ _ _ _ _ (@mq.get jT _ _ _ _ _ X i v v' ((e i A).trans a) ((e i A).trans b)) (cl i v ((e i A).trans a))
  exact @HR.reached jT _ _ _ hr aU _ _ hA _ hb
 have bg:∃pl,ρ p.sp=some pl:=au _ (.arg (i:=0) rfl (.ptr _));have bh:∃pl,ρ p.nb=some pl:=au _ (.arg (i:=1) rfl (.slice _ _ _));have H:∀b,(∃pl,ρ b=some pl)→b<w.heap.size∧∀l,kL b l→¬Shun l:=fun b ⟨pl,hb⟩=>by
  have bi:=bf hb;subst bi;refine⟨(@HR.lt jT _ _ _ hr _ _ hb).2,fun l F=>?_⟩
  cases l with
  |cell a=>exact @rC.cell _ _ _ ak _ _ a hb F
  |obj r=>obtain rfl:r=pl.block:=F;exact @rC.obj _ _ _ ak _ _ hb
  |_=>exact F.elim
 have bK:∀b,T b→∃pl,ρ b=some pl:=fun b ⟨i,A,y,pl,M,e⟩=>au b (e▸hI.reach i A y pl M)
 have bL:∀b,T b→b≠p.sp∧b≠p.nb:=fun b ⟨i,A,y,pl,M,e⟩=>e▸hI.apart i A y pl M
 have aG:∀b,T b→ρ b=some ⟨b,none⟩:=fun b hb=>by
  obtain⟨pl,O⟩:=bK b hb;obtain⟨i,A,y,q,M,rfl⟩:=hb;obtain⟨C,E,hC⟩:=hI.own i A y q M;rcases hid _ _ O with rfl|⟨ty,rfl⟩
  ·exact O
  ·exfalso;obtain⟨o,o',X,h2,h3⟩:=@HR.obj jT _ _ _ hr _ _ O;rw[hC]at X;obtain rfl:=eX X;rcases h3 with⟨_,_,_,c1,C1,cm,h0,e1,_⟩|⟨c1,C1,_,_,hd,_⟩
   ·have e2:=dD (fun o:Obj=>match o with | .cells _ _ f=>f.2|_=>0) e1;simp only at e2;omega
   ·exact Bool.noConfusion hd.1.1
 have aH:∀i,i<p.xl→∀y pl,ρj i y=some pl→ρ pl.block=some ⟨pl.block,none⟩:=fun i A y pl M=>aG _ ⟨i,A,y,pl,M,rfl⟩
 have aV:∀b,T b→w.heap[b]?=wS.heap[b]?:=fun b hb=>by
  have bM:=aG b hb;obtain⟨o,o',X,h2,h3⟩:=@HR.obj jT _ _ _ hr _ _ bM;have h3:@OR jT ρ o o':=h3;rw[h2,X];obtain⟨i,A,y,pl,M,rfl⟩:=hb;obtain⟨u,u',k1,k2,k3⟩:=@HR.obj jY _ _ _ (hI.hr i A) y pl M;rw[X]at k2
  cases k2
  cases hp:pl.part with
  |none =>
   unfold lR at k3;rw[hp]at k3;rw[@II jY jT (ρj i) ρ rfl hid (aH i A) _ _ _ k3 h3]
  |some x =>
   obtain⟨s,l,ty,aI⟩:=x;unfold lR at k3;rw[hp]at k3;rcases k3 with⟨j1,_⟩|⟨cc,CC,rfl,rfl,bj,_⟩
   ·exact Bool.noConfusion j1
   cases h3 with
   | @cells _ C' _ _ hc =>
    rw[sQ (@jW.size jT _ _ _ hc) fun j v v' hj cp=>by
     have bk:j<aI:=by
      have:=(dp.1 hj).1;have:=bj.2;simp only at this;omega
     obtain⟨i',U,b',ru,s',l',pg,q1,q2,q3,q4,q5⟩:=hI.pW.cover i A y pl s l (ty,aI) M hp j bk;obtain⟨z,z',m1,m2,m3⟩:=@HR.obj jY _ _ _ (hI.hr i' U) b' ru q1;rw[q2,X]at m2
     cases m2
     unfold lR at m3;rw[q3]at m3;rcases m3 with⟨j1,_⟩|⟨c2,C2,rfl,e2,_,aJ⟩
     ·exact Bool.noConfusion j1
     cases e2
     have bl:j-s'<c2.size:=by rw[@rY.size jY _ _ _ _ _ aJ];omega
     obtain⟨v1,n4,n5⟩:=@rY.get jY _ _ _ _ _ aJ (j-s') _ (dq bl);rw[show s'+(j-s')=j by omega,hj]at n4
     cases n4
     exact @vJ jY jT (ρj i') ρ rfl hid (aH i' U) _ _ _ n5 (@jW.get jT _ _ _ hc j v v' hj cp)]
 let V0:Nat→Prop:=fun b=>b<w.heap.size∧¬T b∧∀l,kL b l→¬Shun l
 let K:Loc→Prop:=fun l=>Shun l∧l.isMemory=true
 let d:@JD:=⟨m,ρj,args,wj,R⟩
 have hF:xV p w:=by
  obtain⟨pl,O⟩:=bg;refine⟨@HR.B7 jT _ _ _ hr hid _ _ O _ rfl (by rw[rK];exact eI _) hI.hF.hid,@HR.B7 jT _ _ _ hr hid _ _ O _ ?_ (by rw[rK];exact eI _) hI.hF.hx,by rw[←hsz];exact hI.hF.ls,hI.hF.pX⟩;unfold WI.xa;split
  ·rfl
  ·rename_i h;show(!(p.xl == 0&&p.xc == 0))=true;have:(p.xl == 0)=false:=by simp;omega
   rw[this];rfl
 have bm:jT.base≤wS.heap.size:=@HR.base jT _ _ _ hr;have cq:w.os=wS.os:=@HR.os jT _ _ _ hr;have cr:Past K w.heap.size t:=⟨ae.clean,fun i a ha hm=>(ae.known i a ha hm).imp id fun⟨X,h2⟩=>⟨⟨X,hm⟩,h2⟩,ae.over,ae.hears,ae.seen⟩;have hO:@zT jY p K V0 w:=@zT.mk jY _ _ _ _ (fun b hb=>⟨hb.1,fun l F k=>hb.2.2 l F k.1⟩) ⟨(H _ bg).1,fun N=>(bL _ N).1 rfl,(H _ bg).2⟩ ⟨(H _ bh).1,fun N=>(bL _ N).2 rfl,(H _ bh).2⟩ (fun l F=>F.2)
  (fun l b F hb=>by
   have:=@rC.low _ _ _ ak l F.1
   cases l with
   |cell a=>obtain rfl:a.block=b:=hb;exact this
   |obj r=>obtain rfl:r=b:=hb;exact this
   |_=>exact hb.elim) (by rw[←hsz];exact bm)
 have bn:∀i,i<p.xl→@HR jY (ρj i) (wj i) w:=fun i A=>@HR.leaves jY _ _ _ _ rfl (hI.hr i A) (@Leaves.block jY (ρj i) wS w fun b pl hb=>aV _ ⟨i,A,b,pl,hb,rfl⟩) cq
 have hJ:@zS jY p d K V0 w:=by
  refine @zS.mk jY _ _ _ _ _ (fun i A B S=>?_) bn (fun i A b pl hb=>?_) hI.pW.apart (fun i A=>?_)
  ·exact @lC.Good.mk jY _ _ (by show jY.ok _=true;kernel_rfl) (by
    have:=hI.rel i A;simp only[uo,lC.kF,Wk.u9,sX];exact this) (hI.calls i A) (hI.shape i A)
  ·have N:T pl.block:=⟨i,A,b,pl,hb,rfl⟩;have:=H _ (bK _ N);exact⟨this.1,fun hv=>hv.2.1 N,fun l F k=>this.2 l F k.1⟩
  ·obtain⟨pl,O⟩:=bh;have ha:@AR jT ρ ⟨p.nb,p.no+i,none⟩ ⟨p.nb,p.no+i,none⟩:=⟨by rw[rK];exact eI _,pl,O,(bf O).symm,by
    rcases hid _ _ O with rfl|⟨ty,rfl⟩<;>simp[Place.shift],rfl⟩
   obtain⟨v',e1,e2,_⟩:=@HR.cell jT _ _ _ hr _ _ ha _ (hI.hm i A);have ct:=@jW.get jY _ _ _ (hI.rel i A) 2;obtain⟨am,cu⟩:=ox (@jW.size jY _ _ _ (hI.rel i A)).symm (show(#[.pointer (some ⟨p.xb,p.xo+i*14,none⟩),.int .i64 p.id,m i]:Array Value)[2]?=some (m i) from rfl);have:=@vJ jY jT (ρj i) ρ rfl hid (aH i A) _ _ _ (ct am (m i) cu rfl) e2;exact e1.trans (dD some this)
 obtain⟨N0,pc,J,RB,us,s1,w1,s',wo,rep,b8,cv,cw,cx,cy,cz,cA,cB,cC,cD,cE,bo,bp,hd,hU,aW,aX,cF,bN,cG,aK,aL,bO,bP,cH⟩:=@Ko jY CX CW rfl p d K V0 w (c'::(aC++cs)) gs sl t q h0 aT cr hF hI.nl hO hJ;obtain⟨⟨N1,bq,br,t2,q2,bs,cI,cJ,cK⟩,av,cL,az,bt,bu,bQ,c8,bR,bS,al,ch,bT⟩:=cH;obtain⟨cM,aY,bv,zv,c9,da,db,bw,bU⟩:=bu
 let B:WB:=WB.from w.heap.size
 let Nn:mE:=⟨pc.B0,p.xl,w.heap.size+6,w.heap.size+2,w.heap.size+4,Tryz.link.tWg,.tuple #[]⟩
 let Y:Nat→jR:=fun i=>(s'.D i).ρ
 have ab:∀i,i<p.xl→∀b pl,Y i b=some pl→pl.block<wo.heap.size∧¬s1.V pl.block∧pl.block≠w.heap.size+6∧pl.block≠w.heap.size+2∧pl.block≠w.heap.size+4:=fun i A b pl hb=>by
  have:=cM i A b pl hb;rw[bQ]at this;exact this
 have eS:∀l,pc.Shun l↔K l:=fun l=>by rw[bp]
 have ba:∀i,i<p.xl→∀b pl l,Y i b=some pl→kL pl.block l→¬K l:=fun i A b pl l hb F k=>bv i A b pl l hb F ((eS l).2 k)
 have aD:∀b,s1.V b→b<wo.heap.size∧b≠w.heap.size+6∧b≠w.heap.size+2∧b≠w.heap.size+4∧∀l,kL b l→¬K l:=fun b hb=>by
  have:=zv b (by rw[bQ];exact hb);exact⟨this.1,this.2.1,this.2.2.1,this.2.2.2.1,fun l F k=>this.2.2.2.2 l F ((eS l).2 k)⟩
 have ci:w.heap.size+6<wo.heap.size:=bw.1;have bx:∀l b,K l→kL b l→b<wo.heap.size:=fun l b F hb=>bU l b ((eS l).2 F) hb
 let L:Loc→Prop:=fun l=>pc.Shun l∨nI Nn l
 have bV:Past L wo.heap.size t2:=cK;have af:∀b l,kL b l→b≠w.heap.size+6→b≠w.heap.size+2→b≠w.heap.size+4→¬K l→¬L l:=fun b l hb n1 n2 n3 hn k=>by
  rcases k with k|k
  ·exact hn ((eS l).1 k)
  ·rcases @nI.block jY _ _ k with k|k|k
   ·exact n1 (hb.uniq k)
   ·exact n2 (hb.uniq k)
   ·exact n3 (hb.uniq k)
 let val:Nat→Value:=fun i=>(s'.D i).v
 have W:=aD RB aX
 let Q1:Goroutine→World→Prop:=fun g w2=>g=G (c'.finish (kx p RB)) (aC++cs)∧∃ag,w2.heap[RB]?=some (.cells ag 140)∧td p ag val (s'.got++s'.wait)∧sq (w.heap.size+2) RB wo w2
 have bz:j8 Tryz.prog Any L Q1 _ wo:=@KG jY p B L (fun b=>s1.V b∧b≠RB) us (aC++cs) c' wo RB rep b8 cv cw cx cy cz cA cB cC cD cE Q1 (fun i=>(J i).msg (s'.D i).v) val _ _ _ s'.wait s'.got
  (fun b hb l F=>by
   rcases hb with⟨hb,_⟩|rfl|hb
   ·have:=aD b hb;exact af b l F this.2.1 this.2.2.1 this.2.2.2.1 (this.2.2.2.2 l F)
   ·exact af _ l F W.2.1 W.2.2.1 W.2.2.2.1 (W.2.2.2.2 l F)
   ·exact af b l F (by omega) (by omega) (by omega) fun k=>by have:=bx l b k F;omega)
  (fun b hb=>⟨(aD b hb.1).1,(aD b hb.1).2.2.1,hb.2⟩) W.2.2.1
  (by
   have:=cG.keep al;exact⟨this.s,this.n,this.c,this.g,this.id,this.x,⟨this.vs.1,dE aK.1⟩,⟨this.vs.2.1,dE aK.2.1⟩,⟨this.vs.2.2.1,dE aK.2.2.1⟩,⟨this.vs.2.2.2.1,dE aK.2.2.2.1⟩,⟨this.vs.2.2.2.2,dE aK.2.2.2.2⟩⟩)
  hU bt ((al RB aX).trans cF)
  ⟨bN.size,fun k hk=>by
   have bW:k∈s1.got:=by rw[←bR];exact hk
   obtain⟨a1,a2,a3,a4,a5,a6,a7⟩:=bN.at_ k bW;exact⟨a1,a2,a3,a4,a5,(bS k bW).trans a6,a7⟩⟩
  (by
   have:=NP p.xl s'.wait (gP.1 cL).2.1 fun i A=>az i (gL _ A)
   have:=hI.hF.pX;omega)
  (fun i A=>by
   have U:i<p.xl:=az i (gL _ A);obtain⟨S,eJ⟩:=hd i U;have aM:=(av i U).1.1;refine⟨U,?_,?_⟩
   ·have aM:(J i).ok (s'.D i).v:=aM;rw[eJ]at aM;exact aM
   ·show(J i).msg _=_;rw[eJ];rfl)
  (fun w' ag e1 e2 e3=>j8.done ⟨rfl,ag,e1,e2,e3⟩)
 obtain⟨N3,bX,g3,w3,cN,t3,q3,bA,_,cO,cP,cQ,_,rfl,ag,bY,bZ,an⟩:=bz bq br t2 q2 cI cJ bV (Clean.any _);have ah:∀i,i<p.xl→∃vS wE,R i vS wE∧@HR jY (Y i) wE w3∧@VR jY (Y i) vS (val i)∧(ρj i).le (Y i)∧(∀b q,Y i b=some q→ρj i b=some q∨q.part=none):=fun i A=>by
  obtain⟨⟨aM,⟨hle,bB⟩,vS,wE,ai,aj,aN⟩,c7⟩:=av i A;obtain⟨S0,eJ⟩:=hd i A;have b0:((PX p B pc J).J i).ρ=ρj i:=by show(J i).ρ=_;rw[eJ];rfl
  have b1:R i vS wE:=by
   have X:(J i).R vS wE:=aN;rw[eJ]at X;exact X
  refine⟨vS,wE,b1,@HR.leaves jY _ _ _ _ rfl ai (@Leaves.block jY (Y i) wo w3 fun b pl hb=>an.heap _ (ab i A b pl hb).1 (ab i A b pl hb).2.2.2.1 fun e=>(ab i A b pl hb).2.1 (e▸aX)) an.os,aj,by rw[←b0];exact hle,fun b q hb=>?_⟩;rcases bB b q hb with h|⟨X,_⟩
  ·have h:((PX p B pc J).J i).ρ b=some q:=h;rw[b0]at h;exact .inl h
  ·exact .inr X
 have aw:x8 p.xl ag val:=⟨bZ.size,fun i A=>(bZ.at_ i (av i A).2).2⟩
 let I:Nat→Prop:=p5 p.xl Y
 have cR:∀b,T b→I b:=fun b ⟨i,A,y,pl,M,e⟩=>by
  obtain⟨_,_,_,_,_,hle,_⟩:=ah i A;exact⟨i,A,y,pl,hle _ _ M,e⟩
 have aO:x6 p.xl Y:=by
  refine⟨fun i i' A U ax=>aY i i' A U ax,fun i A b pl s l ty hb hp j hj=>?_⟩;obtain⟨_,_,_,_,_,_,ad⟩:=ah i A;rcases ad b pl hb with h|h
  ·obtain⟨i',U,b',ru,s',l',pg,e1,e2⟩:=hI.pW.cover i A b pl s l ty h hp j hj;obtain⟨_,_,_,_,_,b2,_⟩:=ah i' U;exact⟨i',U,b',ru,s',l',pg,b2 _ _ e1,e2⟩
  ·rw[h]at hp;cases hp
 have b3:∀(SM:Scope),SM.base=0→(∀f,jY.ok f=true→SM.ok f=true)→∀(S:Nat→Prop),(∀b,I b→S b)→∀b,I b→∃o,w3.heap[b]?=some o∧@OR SM (nV S) o o:=fun SM b4 bb S cS b hb=>by
  obtain⟨i,A,y,pl,M,rfl⟩:=hb;have hS:∀i',i'<p.xl→∀y pl,Y i' y=some pl→S pl.block:=fun i' U y pl M=>cS _ ⟨i',U,y,pl,M,rfl⟩
  obtain⟨vS,wE,aN,ai,aj,hle,ad⟩:=ah i A;obtain⟨o,o',X,h2,h3⟩:=@HR.obj jY _ _ _ ai y pl M;refine⟨o',h2,?_⟩
  cases hp:pl.part with
  |none =>
   unfold lR at h3;rw[hp]at h3;exact @OR.qV jY SM (Y i) S rfl b4 bb (hS i A) _ _ h3
  |some x =>
   obtain⟨s,l,ty,aI⟩:=x;unfold lR at h3;rw[hp]at h3;rcases h3 with⟨j1,_⟩|⟨cc,CC,rfl,rfl,bj,_⟩
   ·exact Bool.noConfusion j1
   refine @OR.cells SM _ _ _ _ _ (@jW.diag SM _ _ fun j v hj=>?_);have bk:j<aI:=by
    have:=(dp.1 hj).1;have:=bj.2;simp only at this;omega
   obtain⟨i',U,b',ru,s',l',pg,q1,q2,q3,q4,q5⟩:=aO.cover i A y pl s l (ty,aI) M hp j bk;obtain⟨dc,dd,_,bC,_,_,_⟩:=ah i' U;obtain⟨u,u',k1,k2,k3⟩:=@HR.obj jY _ _ _ bC b' ru q1;rw[q2,h2]at k2
   cases k2
   unfold lR at k3;rw[q3]at k3;rcases k3 with⟨j1,_⟩|⟨c2,C2,rfl,e2,_,aJ⟩
   ·exact Bool.noConfusion j1
   cases e2
   have bl:j-s'<c2.size:=by rw[@rY.size jY _ _ _ _ _ aJ];omega
   obtain⟨v',k4,k5⟩:=@rY.get jY _ _ _ _ _ aJ (j-s') _ (dq bl);rw[show s'+(j-s')=j by omega,hj]at k4
   cases k4
   exact @VR.qV jY SM (Y i') S rfl b4 bb (hS i' U) _ _ k5
 have cT:∀b,I b→∃o,w3.heap[b]?=some o∧@OR jY (nV I) o o:=b3 jY NO (fun _ h=>h) I fun _ h=>h
 have hIn:∀b,(∃pl,ρ b=some pl)→¬T b→¬I b:=fun b hb N ⟨i,A,y,pl,M,e⟩=>(ab i A y pl M).2.1 (by rw[e];exact(aW b ⟨(H b hb).1,N,(H b hb).2⟩).1)
 have b5:¬I RB:=fun⟨i,A,y,pl,M,e⟩=>(ab i A y pl M).2.1 (by rw[e];exact aX)
 have aA:∀b,(∃pl,ρ b=some pl)→¬T b→b≠RB∧w3.heap[b]?=w.heap[b]?:=fun b hb N=>by
  have hv:V0 b:=⟨(H b hb).1,N,(H b hb).2⟩;have ax:b≠RB:=fun e=>aL (e▸hv)
  obtain⟨k1,k2⟩:=aW b hv;have k3:=aD b k1;exact⟨ax,(an.heap b k3.1 k3.2.2.1 ax).trans ((al b k1).trans k2)⟩
 have ao:∀b,b<w.heap.size→¬T b→¬I b∧b≠RB:=fun b hb N=>by
  by_cases aE:∀l,kL b l→¬K l
  ·have hv:V0 b:=⟨hb,N,fun l F k=>aE l F ⟨k,F.mem⟩⟩;exact⟨fun⟨i,A,y,pl,M,e⟩=>(ab i A y pl M).2.1 (by rw[e];exact(aW b hv).1),fun e=>aL (e▸hv)⟩
  ·refine⟨fun⟨i,A,y,pl,M,e⟩=>aE fun l F=>ba i A y pl l M (by rw[e];exact F),fun e=>aE fun l F=>W.2.2.2.2 l (e▸F)⟩
 let aa:Nat→Prop:=fun b=>b<w.heap.size∧¬T b
 let w4:World:=patch aa wS w3
 have b6:w.heap.size≤w3.heap.size:=by have:=an.size;omega
 have aP:∀b,aa b→w4.heap[b]?=wS.heap[b]?:=fun b hb=>IJ hb (dA hb.1 b6) (by rw[hsz];exact hb.1)
 have ap:∀b,¬aa b→w4.heap[b]?=w3.heap[b]?:=fun b hb=>IK hb
 have aZ:∀b,I b→¬aa b:=fun b hI hk=>(ao b hk.1 hk.2).1 hI
 have bD:¬aa RB:=fun hk=>(ao RB hk.1 hk.2).2 rfl
 have bE:∀b,(∃pl,ρ b=some pl)→¬T b→b≠RB∧w4.heap[b]?=wS.heap[b]?:=fun b hb N=>⟨(aA b hb N).1,aP b ⟨(H b hb).1,N⟩⟩
 let S2:Nat→Prop:=fun b=>I b∨b=RB
 let Z:jR:=fun b=>match ρ b with
  |some p=>some p
  |none=>nV S2 b
 have ay:∀{b p},ρ b=some p→Z b=some p:=fun {b p} h=>by show(match ρ b with|some p=>some p|none=>nV S2 b)=_;rw[h]
 have aQ:∀{b},ρ b=none→Z b=nV S2 b:=fun {b} h=>by show(match ρ b with|some p=>some p|none=>nV S2 b)=_;rw[h]
 have aq:∀{b p},Z b=some p→ρ b=some p∨(ρ b=none∧S2 b∧p=⟨b,none⟩):=fun {b p} h=>by
  cases e:ρ b with
  |some q=>rw[ay e]at h;exact .inl h
  |none=>rw[aQ e]at h;obtain⟨X,h2⟩:=@B6 jT _ _ _ h;exact .inr ⟨rfl,X,h2⟩
 have aB:ρ.le Z:=fun b pl hb=>ay hb
 have b7:∀b,S2 b→Z b=some ⟨b,none⟩:=fun b hb=>by
  cases e:ρ b with
  |none=>rw[aQ e];exact @xI jT _ _ hb
  |some q =>
   rw[ay e];have hK:¬aa b:=by
    rcases hb with hb|rfl
    ·exact aZ b hb
    ·exact bD
   have N:T b:=gh fun h=>hK ⟨(H b ⟨q,e⟩).1,h⟩
   rw[aG b N]at e;exact e.symm
 have ar:nU Z:=fun b p hb=>by
  rcases aq hb with h|⟨_,_,h⟩
  ·exact hid b p h
  ·exact .inl h
 have aR:(@nV S2).le Z:=fun b p hb=>by
  obtain⟨X,rfl⟩:=@B6 jT _ _ _ hb;exact b7 b X
 have cU:∀i,i<p.xl→@VR jT (nV S2) (val i) (val i):=fun i A=>by
  obtain⟨vS,wE,aN,ai,aj,hle,ad⟩:=ah i A;exact @VR.qV jY jT (Y i) S2 rfl rK CY (fun y pl M=>.inl ⟨i,A,y,pl,M,rfl⟩) _ _ aj
 have aS:∀b,S2 b→∃o,w3.heap[b]?=some o∧@OR jT (nV S2) o o:=fun b hb=>by
  by_cases b9:I b
  ·exact b3 jT rK CY S2 (fun _ h=>.inl h) b b9
  ·obtain rfl:b=RB:=hb.resolve_left b9;refine⟨_,bY,@OR.cells jT _ _ _ _ _ (@jW.diag jT _ _ fun j v hj=>?_)⟩;have de:j<p.xl*2:=by rw[←aw.1];exact(dp.1 hj).1
   obtain⟨sa,j0,sc,sb,e1,e2,e3⟩:=aw.2 (j / 2) (by omega);have ca:=cU (j / 2) (by omega);rw[e1]at ca
   cases ca with
   |agg _ hg =>
    rcases(show j=j / 2*2∨j=j / 2*2+1 by omega)with e|e
    ·rw[←e,hj]at e2
     cases e2
     exact hg 0 _ _ rfl rfl
    ·rw[←e,hj]at e3
     cases e3
     exact hg 1 _ _ rfl rfl
 have cj:jT.base≤w3.heap.size:=by rw[rK];exact eI _
 have bn:@HR jT Z w4 w3:=by
  refine @HR.mk jT _ _ _ (fun b q hb=>?_) (fun b b' q q' hb bi e=>?_) (by rw[rK];exact eI _) rfl fun _=>⟨B8 _ _ _,ar⟩
  ·have ad:S2 b→∃o o',w4.heap[b]?=some o∧w3.heap[b]?=some o'∧@OR jT Z o o':=fun hS=>by
    obtain⟨o,X,h2⟩:=aS b hS;have hK:¬aa b:=by
     rcases hS with hS|rfl
     ·exact aZ b hS
     ·exact bD
    exact⟨o,o,(ap b hK).trans X,X,@OR.mono jT _ _ _ _ h2 aR⟩
   rcases aq hb with h|⟨_,hS,rfl⟩
   ·by_cases N:T b
    ·have:=aG b N;rw[h]at this
     cases this
     exact ad (.inl (cR b N))
    ·obtain⟨o,o',X,h2,h3⟩:=@HR.obj jT _ _ _ hr b q h;have hq:=bf h;refine⟨o,o',(aP b ⟨(H b ⟨q,h⟩).1,N⟩).trans X,?_,@lR.mono jT _ _ _ _ _ h3 aB⟩;rw[hq]at h2 ⊢;exact(aA b ⟨q,h⟩ N).2.trans h2
   ·exact ad hS
  ·rw[nU.block ar hb,nU.block ar bi]at e;exact e
 have bd:∀b,(∃pl,Z b=some pl)→∀l,kL b l→¬L l:=fun b hb l F=>by
  rcases hb with⟨pl,hb⟩;rcases aq hb with hb|⟨_,⟨i,A,y,pl,M,rfl⟩|rfl,_⟩
  ·have:=(H b ⟨_,hb⟩).1;exact af b l F (by omega) (by omega) (by omega) fun k=>(H b ⟨_,hb⟩).2 l F k.1
  ·have:=ab i A y _ M;exact af _ l F this.2.2.1 this.2.2.2.1 this.2.2.2.2 (ba i A y _ l M F)
  ·exact af _ l F W.2.1 W.2.2.1 W.2.2.2.1 (W.2.2.2.2 l F)
 have a0:rC L Z w3:=by
  refine⟨fun b pl a hb ha=>?_,fun b pl hb=>?_,fun l F=>?_,fun k=>?_⟩
  ·have:=nU.block ar hb;exact bd b ⟨_,hb⟩ _ (ha.trans this)
  ·have:=nU.block ar hb;exact bd b ⟨_,hb⟩ _ this
  ·have h3:=an.size;rcases F with k|k
   ·exact Loc.low_mono (by omega) (ak.low l ((eS l).1 k).1)
   ·rcases k with⟨a,rfl,ha⟩|rfl|rfl
    ·show a.block<_;rw[ha];show w.heap.size+6<_;omega
    ·show w.heap.size+2<_;omega
    ·show w.heap.size+4<_;omega
  ·rcases k with k|k
   ·exact absurd ((eS _).1 k).2 (by simp[Loc.isMemory])
   ·rcases k with⟨a,k,_⟩|k|k<;>cases k
 have cb:@VR jT Z (kx p RB) (kx p RB):=@VR.mono jT _ _ _ _ (@VR.slice jT _ _ _ _ _ (AR.self (S:=S2) (.inr rfl) bO)) aR;have bF:kW Shun ρ w L Z w3:=by
  refine⟨an.os.trans (bT.trans bP),by have:=an.size;omega,fun b hb hn aE=>?_⟩;have be:∀l,kL b l→¬Shun l:=fun l F=>by
   cases l with
   |cell a=>exact aE.1 a F
   |obj r=>obtain rfl:r=b:=F;exact aE.2
   |_=>exact F.elim
  have N:¬T b:=fun N=>by
   obtain⟨ty,e⟩:=hn b _ (aG b N) rfl
   cases e
  have hv:V0 b:=⟨hb,N,be⟩;have ax:b≠RB:=fun e=>aL (e▸hv)
  obtain⟨k1,k2⟩:=aW b hv;have k3:=aD b k1;have cd:∀l,kL b l→¬L l:=fun l F=>af b l F (by omega) (by omega) (by omega) fun k=>be l F k.1
  refine⟨(an.heap b k3.1 k3.2.2.1 ax).trans ((al b k1).trans k2),fun y pl M e=>?_,fun a ha=>cd (.cell a) ha,cd (.obj b) rfl⟩;rcases aq M with h|⟨_,hS,rfl⟩
  ·exact h
  ·exfalso;have e:y=b:=e;subst e;rcases hS with⟨i,A,z,pz,hz,e⟩|rfl
   ·exact(ab i A z _ hz).2.1 (by rw[e];exact k1)
   ·exact ax rfl
 have a8:@oO jT Tryz.prog L Z cs (c.finish (kx p RB)) x2 w4 bX w3 t3 q3:=by
  refine @oO.mk jT _ _ _ _ _ _ _ _ _ _ _ ⟨_,_,cO,?_,@qn.mB jT _ _ _ _ _ _ _ _ co aB bF⟩ bn cP cQ a0;have X:=@kR.mB jT _ _ _ _ _ _ _ _ cn aB bF;subst hc;exact @kR.finish jT _ _ _ _ _ _ _ _ _ _ X _ _ cb
 obtain⟨N4,cV,w5,cW,t4,q4,cX,cY,cZ,c0,c3,bG,ce,cf,c4,cg⟩:=k w4 RB ag val I ⟨Y,aO,fun b=>Iff.rfl,fun i A=>by
   obtain⟨vS,wE,aN,ai,aj,hle,ad⟩:=ah i A;exact⟨hle,ad,vS,wE,aN,@HR.leaves jY _ _ _ _ rfl ai (@Leaves.block jY (Y i) w3 w4 fun y pl M=>ap _ (aZ _ ⟨i,A,y,pl,M,rfl⟩)) rfl,aj⟩⟩ (fun b hb=>by rw[ap b (aZ b hb)];exact cT b hb) (fun x hx b hb N=>hIn b (aF x hx b hb) N) aw ((ap RB bD).trans bY) b5 (fun x hx b hb N=>bE b (aF x hx b hb) N) (by have X:=B8 aa wS w3;have h2:=an.size;show wS.heap.size≤(patch aa wS w3).heap.size;omega) (fun b hb N=>⟨(ao b (hsz▸hb) N).1,(ao b (hsz▸hb) N).2,aP b ⟨hsz▸hb,N⟩⟩) L Z bX w3 cN t3 q3 a8
 refine⟨N0+(N1+(N3+N4)),cV,w5,cW,t4,q4,cX,cY,cZ,c0,c3,?_,@jR.le_trans jT _ _ _ aB ce,cf,c4,@kW.trans jT _ _ _ _ _ _ _ _ _ bF cg⟩;rw[eL,bo];show runNT Tryz.prog (N1+(N3+N4)) pc.m0 pc.t0=_;have a9:runNT Tryz.prog N1 pc.m0 pc.t0=(.next (crowd bq wo br),t2):=bs;rw[eL,a9];show runNT Tryz.prog (N3+N4) (crowd bq wo br) t2=_;rw[eL,bA];exact bG
end Go.Proofs.YtjnkcibpkkjniaaGreat.kj
namespace Go.Proofs.YtjnkcibpkkjniaaGreat.kj
section
open Go
structure mI (D:List Deferred) (ops:Array Oper) (val:Nat→Value→World→Prop) (fix:List (Nat×Value)) (T:Nat) (listed:Array Bool) (a:Act) (w:World):Prop where
 defers:a.defers=D
 size:a.tmps.size=T
 fix:∀x∈fix,a.tmps[x.1]?=some x.2
 val:∀(i:Nat) o (d:Nat),ops[i]?=some o→listed.getD i false=true→o.dst=some d→∃v,a.tmps[d]?=some v∧val i v w
 ky:listed.size=ops.size
 pU:∀(i:Nat) o,ops[i]?=some o→listed.getD i false=true→∀e∈o.after,Region.binds .any e=true→listed.getD e.on false=true
theorem mI.put{D:List Deferred}{ops:Array Oper}{val:Nat→Value→World→Prop}{fix:List (Nat×Value)}{T:Nat}(q:kH ops (fix.map (·.1)) T=true){listed:Array Bool}{a:Act}{w w':World}(h:mI D ops val fix T listed a w){i:Nat}{o:Oper}(r:ops[i]?=some o){v:Value}(hr:i∈Region.ready .any ops listed)(B:val i v w')(m:∀j u,listed.getD j false=true→val j u w→val j u w'):mI D ops val fix T (listed.setIfInBounds i true) (a.put o.dst v) w':=by
 have A:i<ops.size:=(dp.1 r).1;obtain⟨s,_,_⟩:=sR q r;have t:(a.put o.dst v).tmps=match o.dst with|some d=>a.tmps.setIfInBounds d v|none=>a.tmps:=by cases hd:o.dst<;>rfl
 have C:(a.put o.dst v).defers=a.defers:=by cases hd:o.dst<;>rfl
 refine⟨C.trans h.defers,?_,fun x y=>?_,fun j o' d f c hd=>?_,by simpa using h.ky,fun j o' f c e he hb=>?_⟩
 ·rw[t];cases o.dst<;>simp[h.size]
 ·rw[t]
  cases hd:o.dst with
  |none=>exact h.fix x y
  |some d =>
   have g:d≠x.1:=fun e=>(s d hd).1 (by rw[e];exact List.mem_map_of_mem y)
   simp only;rw[dI g];exact h.fix x y
 ·rw[mg _ _ _ (by rw[h.ky];exact A)]at c;rw[t]
  by_cases e:j=i
  ·subst e;rw[r]at f;obtain rfl:=eX f;rw[hd];simp only;rw[ff (by rw[h.size];exact(s d hd).2.1)];exact⟨v,rfl,B⟩
  ·rw[dk e]at c
   cases z:o.dst with
   |none =>
    obtain⟨u,k1,k2⟩:=h.val j o' d f c hd;exact⟨u,k1,m j u c k2⟩
   |some d' =>
    simp only;have g:d'≠d:=fun p=>by
     subst p;exact e ((s d' z).2.2 j o' f hd)
    rw[dI g];obtain⟨u,k1,k2⟩:=h.val j o' d f c hd;exact⟨u,k1,m j u c k2⟩
 ·rw[mg _ _ _ (by rw[h.ky];exact A)]at c ⊢;split
  ·rfl
  by_cases p:j=i
  ·subst p;obtain⟨_,E,k1,k2⟩:=ga.1 hr;rw[f]at k1;obtain rfl:=eX k1;exact k2 e he hb
  ·rw[dk p]at c;exact h.pU j o' f c e he hb
abbrev oC (ops:Array Oper) (val:Nat→Value→World→Prop) (fix:List (Nat×Value)) (T:Nat) (listed:Array Bool) (a:Act) (w:World):Prop:=mI [] ops val fix T listed a w
theorem mI.dep{D:List Deferred}{ops:Array Oper}{val:Nat→Value→World→Prop}{fix:List (Nat×Value)}{T:Nat}{listed:Array Bool}{a:Act}{w:World}(c:mI D ops val fix T listed a w){i:Nat}{o:Oper}(f:ops[i]?=some o)(hr:i∈Region.ready .any ops listed){j:Nat}{o':Oper}{d:Nat}(g:ops[j]?=some o')(hd:o'.dst=some d)(he:∃e∈o.after,e.on=j∧Region.binds .any e=true):∃v,a.tmps[d]?=some v∧val j v w:=by
 obtain⟨e,h,m,p⟩:=he;obtain⟨_,q,k1,k2⟩:=ga.1 hr;rw[f]at k1;obtain rfl:=eX k1;subst m;exact c.val e.on o' d g (k2 e h p) hd
section
variable {P:Program} {ops:Array Oper} {Q:Exit→Act→World→Prop} {val:Nat→Value→World→Prop} {fix:List (Nat×Value)} {T:Nat} {Sok:Array Bool→World→Prop}
theorem NV(g:kH ops (fix.map (·.1)) T=true)(z:∀(i:Nat)(o:Oper)(listed:Array Bool)(a:Act)(w:World),ops[i]?=some o→i∈Region.ready .any ops listed→oC ops val fix T listed a w→Sok listed w →
   ∀K:Act→World→Prop,(∀v w',val i v w'→(∀j u,listed.getD j false=true→val j u w→val j u w')→Sok (listed.setIfInBounds i true) w'→K (a.put o.dst v) w')→o.wp P a w K Q)(d:∀(listed:Array Bool)(a:Act)(w:World),oC ops val fix T listed a w→(∀i,i<ops.size→listed.getD i false=true)→Sok listed w→Q .normal a w):∀(fuel:Nat)(listed:Array Bool)(a:Act)(w:World),oC ops val fix T listed a w→Sok listed w→mr ops listed≤fuel→wpAny P .any ops Q fuel listed a w:=by
 intro fuel
 induction fuel with
 |zero =>
  intro listed a w c t hu;have f:=ua (ops:=ops) (listed:=listed) (by omega);refine⟨?_,d listed a w c f t⟩
  cases hr:Region.ready .any ops listed with
  |nil=>rfl
  |cons x xs =>
   have hx:x∈Region.ready .any ops listed:=by rw[hr];simp
   obtain⟨y,o,h,_⟩:=ga.1 hx;have m:x<listed.size:=by rw[c.ky];exact(dp.1 h).1
   have:=f x (by rw[←c.ky];exact m);rw[du,dq m]at y this;simp at y this;rw[this]at y
   cases y
 |succ fuel C =>
  intro listed a w c t hu;refine⟨fun p=>d listed a w c (ub g c.ky p) t,fun i A=>?_⟩;obtain⟨q,o,h,_⟩:=ga.1 A;have r:i<ops.size:=(dp.1 h).1;have s:listed.getD i false=false:=by
   have hsz:i<listed.size:=by rw[c.ky];exact r
   rw[du,dq hsz]at q ⊢;simpa using q
  unfold wpOp;rw[h];have E:=(sR g h).2.2;have hw:Region.wanted o (yielded ops a.tmps)=true:=by simp[Region.wanted,E]
  simp only[hw,dg];refine .inl (z i o listed a w h A c t _ fun v w' F hm B=>?_);have:=qI r c.ky s;exact C _ _ _ (c.put g h A F hm) B (by omega)
theorem wu{id:Nat}{a:Act}{w:World}(hm:P.follows .mixedOrders=true)(g:kH ops (fix.map (·.1)) T=true)(h:∀(i:Nat)(o:Oper)(listed:Array Bool)(a:Act)(w:World),ops[i]?=some o→i∈Region.ready .any ops listed→oC ops val fix T listed a w→Sok listed w →
   ∀K:Act→World→Prop,(∀v w',val i v w'→(∀j u,listed.getD j false=true→val j u w→val j u w')→Sok (listed.setIfInBounds i true) w'→K (a.put o.dst v) w')→o.wp P a w K Q)(f:∀(listed:Array Bool)(a:Act)(w:World),oC ops val fix T listed a w→(∀i,i<ops.size→listed.getD i false=true)→Sok listed w→Q .normal a w)(hd:a.defers=[])(m:a.tmps.size=T)(p:∀x∈fix,a.tmps[x.1]?=some x.2)(q:Sok (Array.replicate ops.size false) { w with drawn:=w.drawn+1 }):(Code.region id ops true).wp P Q a w:=by
 refine iB hm (NV g h f ops.size _ a _ ⟨hd,m,p,fun i o d _ c=>?_,by simp,fun i o _ c=>?_⟩ q ?_)
 ·simp[du,dt]at c;split at c<;>simp at c
 ·simp[du,dt]at c;split at c<;>simp at c
 ·unfold mr;exact dz (gd _ _) (by simp)
end
end
section
open Go Go.Conc Go.Proofs.YtjnkcibpkkjniaaGreat.j7
@[reducible] def GX (cs:List Frame) (Q:Frame→List Frame→World→Prop) (fr:Frame) (xs:List Frame) (w:World):Prop:=@j6 Tryz.prog jT cs Q fr xs w
theorem te(a:Option Addr):kT (.pointer a)=false:=rfl
theorem tf(a:Option Addr)(l c:Nat):kT (.slice a l c)=false:=rfl
theorem th(k:IntKind)(n:Int):kT (.int k n)=false:=rfl
theorem ti(s:ByteArray):kT (.string s)=false:=rfl
theorem tj(s:Bool):kT (.bool s)=false:=rfl
theorem tk(f:Fn)(a b:Array Value):kT (.func f a b)=false:=rfl
theorem tl(a:Array Value):kT (.tuple a)=false:=rfl
theorem tn(k:IntKind)(n:Int)(x y:Value):kT (.agg #[.int k n,x,y])=false:=rfl
def mP (xs:Array Operand) (e:Operand→Value):Bool:=xs.toList.all fun x=>!kT (e x)
variable {e:Operand→Value}
theorem C4{xs:Array Operand}(h:mP xs e=true):(xs.all fun x=>!kT (e x))=true:=by
 rw[dv];exact fun x hx=>ek.1 h x (Array.mem_toList_iff.2 hx)
theorem zY{o:Oper}(h:mP o.op.operands e=true):uY o e=true:=C4 h
section
variable {cs:List Frame} {Q:Frame→List Frame→World→Prop} {b:Frame} {a:Act} {ops:Array Oper} {i:Nat} {l:List Nat} {k:List Item} {xs:List Frame} {w:World} {o:Oper}
theorem GX.jZ{v:World}{fr:Frame}(h:GX cs Q fr xs v)(d:v.heap=w.heap)(f:v.os=w.os):GX cs Q fr xs w:=by
 intro Shun ρ gs w0 sl t q c;refine h Shun ρ gs w0 sl t q (@oO.mk jT _ _ _ _ _ _ _ _ _ _ _ (@oO.main jT _ _ _ _ _ _ _ _ _ _ _ c) ?_ (@oO.leave jT _ _ _ _ _ _ _ _ _ _ _ c) (@oO.past jT _ _ _ _ _ _ _ _ _ _ _ c) (@oO.mD jT _ _ _ _ _ _ _ _ _ _ _ c));exact @HR.jZ jT _ _ _ _ (@oO.hr jT _ _ _ _ _ _ _ _ _ _ _ c) d f
theorem GX.C5(d:ops[i]?=some o)(hw:Region.wanted o (yielded ops a.tmps)=true)(c:@ow jT Tryz.prog o=true)(h:∀T,∃v w2,(execOp a.eval o).run Tryz.prog (again w T)=.ok (.value v) w2∧GX cs Q (b.at (a.put o.dst v) (.inRegion ops l::k)) xs w2)(hu:mP o.op.operands a.eval=true:=by first|rfl|(simp[mP,Op.operands,Call.operands,Act.eval,te,tf,th,ti,tj,tk,tl,tn, *])):GX cs Q (b.at a (.inRegion ops (i::l)::k)) xs w :=
 @j6.Hz jT Tryz.prog zW zV.toBodies cs Q b a ops i l k xs w o d hw c (zY hu) (fun v w2=>GX cs Q (b.at (a.put o.dst v) (.inRegion ops l::k)) xs w2)
  (fun T=>by obtain⟨v,w2,f,g⟩:=h T;exact⟨v,w2,w2,f,rfl,rfl,g⟩) (fun _ _ h=>h)
theorem GX.NX(d:ops[i]?=some o)(hw:Region.wanted o (yielded ops a.tmps)=true)(c:@ow jT Tryz.prog o=true)(h:∀T,∃w2,(execOp a.eval o).run Tryz.prog (again w T)=.ok .skip w2∧GX cs Q (b.at (a.put o.dst undef) (.inRegion ops l::k)) xs w2)(hu:mP o.op.operands a.eval=true:=by first|rfl|(simp[mP,Op.operands,Call.operands,Act.eval,te,tf,th,ti,tj,tk,tl,tn, *])):GX cs Q (b.at a (.inRegion ops (i::l)::k)) xs w :=
 @j6.HD jT Tryz.prog zW zV.toBodies cs Q b a ops i l k xs w o d hw c (zY hu) (fun w2=>GX cs Q (b.at (a.put o.dst undef) (.inRegion ops l::k)) xs w2)
  (fun T=>by obtain⟨w2,f,g⟩:=h T;exact⟨w2,w2,f,rfl,rfl,g⟩) (fun _ h=>h)
theorem GX.NY(d:ops[i]?=some o)(hw:Region.wanted o (yielded ops a.tmps)=true)(c:@ow jT Tryz.prog o=true)(h:∀T,∃f args w2,(execOp a.eval o).run Tryz.prog (again w T)=.ok (.enter f args) w2∧∀g,Calls Tryz.prog f args (again w2 g) fun e w'=>∃v,e=.returned v∧GX cs Q (b.at (a.put o.dst v) (.inRegion ops l::k)) xs w')(hu:mP o.op.operands a.eval=true:=by first|rfl|(simp[mP,Op.operands,Call.operands,Act.eval,te,tf,th,ti,tj,tk,tl,tn, *])):GX cs Q (b.at a (.inRegion ops (i::l)::k)) xs w :=
 @j6.Ia jT Tryz.prog zW zV cs Q b a ops i l k xs w o d hw c (zY hu) (fun v w2=>GX cs Q (b.at (a.put o.dst v) (.inRegion ops l::k)) xs w2)
  (fun T=>by obtain⟨f,args,w2,j,m⟩:=h T;exact⟨f,args,w2,w2,j,rfl,rfl,m⟩) (fun _ _ _ h p q=>GX.jZ h p.symm q.symm)
def C6 (r:Result Next) (K:Value→World→Prop):Prop:=match r with | .ok (.value v) w=>K v w|_=>False
def C7 (r:Result Next) (K:World→Prop):Prop:=match r with | .ok .skip w=>K w|_=>False
def C8 (r:Result Next) (K:FuncId→Array Value→World→Prop):Prop:=match r with | .ok (.enter f args) w=>K f args w|_=>False
theorem nL(v:Value)(w:World)(K:Value→World→Prop):C6 (.ok (.value v) w) K=K v w:=rfl
theorem oX(w:World)(K:World→Prop):C7 (.ok .skip w) K=K w:=rfl
theorem oi(f:FuncId)(args:Array Value)(w:World)(K:FuncId→Array Value→World→Prop):C8 (.ok (.enter f args) w) K=K f args w:=rfl
theorem GX.v(d:ops[i]?=some o)(hw:Region.wanted o (yielded ops a.tmps)=true)(c:@ow jT Tryz.prog o=true)(h:∀T (K:Value→World→Prop),(∀v w2,GX cs Q (b.at (a.put o.dst v) (.inRegion ops l::k)) xs w2→K v w2)→C6 ((execOp a.eval o).run Tryz.prog (again w T)) K)(hu:mP o.op.operands a.eval=true:=by first|rfl|(simp[mP,Op.operands,Call.operands,Act.eval,te,tf,th,ti,tj,tk,tl,tn, *])):GX cs Q (b.at a (.inRegion ops (i::l)::k)) xs w :=
 GX.C5 (hu:=hu) d hw c fun T=>by
  have:=h T (fun v w2=>GX cs Q (b.at (a.put o.dst v) (.inRegion ops l::k)) xs w2) (fun _ _ h=>h)
  cases hr:(execOp a.eval o).run Tryz.prog (again w T)with
  |ok nx w2 =>
   rw[hr]at this
   cases nx with
   |value v=>exact⟨v,w2,rfl,this⟩
   |_=>exact this.elim
  |_=>rw[hr]at this;exact this.elim
theorem GX.u(d:ops[i]?=some o)(hw:Region.wanted o (yielded ops a.tmps)=true)(c:@ow jT Tryz.prog o=true)(h:∀T (K:World→Prop),(∀w2,GX cs Q (b.at (a.put o.dst undef) (.inRegion ops l::k)) xs w2→K w2)→C7 ((execOp a.eval o).run Tryz.prog (again w T)) K)(hu:mP o.op.operands a.eval=true:=by first|rfl|(simp[mP,Op.operands,Call.operands,Act.eval,te,tf,th,ti,tj,tk,tl,tn, *])):GX cs Q (b.at a (.inRegion ops (i::l)::k)) xs w :=
 GX.NX (hu:=hu) d hw c fun T=>by
  have:=h T (fun w2=>GX cs Q (b.at (a.put o.dst undef) (.inRegion ops l::k)) xs w2) (fun _ h=>h)
  cases hr:(execOp a.eval o).run Tryz.prog (again w T)with
  |ok nx w2 =>
   rw[hr]at this
   cases nx with
   |skip=>exact⟨w2,rfl,this⟩
   |_=>exact this.elim
  |_=>rw[hr]at this;exact this.elim
theorem GX.c(j:ops[i]?=some o)(hw:Region.wanted o (yielded ops a.tmps)=true)(d:@ow jT Tryz.prog o=true)(h:∀T (K:FuncId→Array Value→World→Prop),(∀f args w2,(∀g,Calls Tryz.prog f args (again w2 g) fun e w'=>∃v,e=.returned v∧GX cs Q (b.at (a.put o.dst v) (.inRegion ops l::k)) xs w')→K f args w2)→C8 ((execOp a.eval o).run Tryz.prog (again w T)) K)(hu:mP o.op.operands a.eval=true:=by first|rfl|(simp[mP,Op.operands,Call.operands,Act.eval,te,tf,th,ti,tj,tk,tl,tn, *])):GX cs Q (b.at a (.inRegion ops (i::l)::k)) xs w :=
 GX.NY (hu:=hu) j hw d fun T=>by
  have:=h T (fun f args w2=>∀g,Calls Tryz.prog f args (again w2 g) fun e w'=>∃v,e=.returned v∧GX cs Q (b.at (a.put o.dst v) (.inRegion ops l::k)) xs w') (fun _ _ _ h=>h)
  cases hr:(execOp a.eval o).run Tryz.prog (again w T)with
  |ok nx w2 =>
   rw[hr]at this
   cases nx with
   |enter f args=>exact⟨f,args,w2,rfl,this⟩
   |_=>exact this.elim
  |_=>rw[hr]at this;exact this.elim
theorem nv(w:World)(T:Tape)(a:Addr):(again w T).cell? a=w.cell? a:=rfl
theorem nM(w:World)(T:Tape)(a:Addr):(again w T).frozen? a=w.frozen? a:=rfl
theorem nN(w:World)(T:Tape):(again w T).heap=w.heap:=rfl
theorem GX.seq{x y:Code}(h:GX cs Q (b.at a (.code x::.code y::k)) xs w):GX cs Q (b.at a (.code (.seq x y)::k)) xs w:=by letI:Scope:=jT;exact j6.seq h
theorem GX.pj(h:GX cs Q (b.at a k) xs w):GX cs Q (b.at a (.code .skip::k)) xs w:=by letI:Scope:=jT;exact j6.pj h
theorem GX.inBlock{id:Nat}(h:GX cs Q (b.at a k) xs w):GX cs Q (b.at a (.inBlock id::k)) xs w:=by letI:Scope:=jT;exact j6.inBlock h
theorem GX.block{id:Nat}{c:Code}(h:GX cs Q (b.at a (.code c::.inBlock id::k)) xs w):GX cs Q (b.at a (.code (.block id c)::k)) xs w:=by letI:Scope:=jT;exact j6.block h
theorem GX.loop{c:Code}(h:GX cs Q (b.at a (.code c::.inLoop c::k)) xs w):GX cs Q (b.at a (.code (.loop c)::k)) xs w:=by letI:Scope:=jT;exact j6.loop h
theorem GX.inLoop{c:Code}(h:GX cs Q (b.at a (.code c::.inLoop c::k)) xs w):GX cs Q (b.at a (.inLoop c::k)) xs w:=by letI:Scope:=jT;exact j6.inLoop h
theorem GX.exit{id:Nat}{k':List Item}(c:exitTo id k=some k')(h:GX cs Q (b.at a k') xs w):GX cs Q (b.at a (.code (.exit id)::k)) xs w:=by letI:Scope:=jT;exact j6.exit c h
theorem GX.region{id:Nat}(h:GX cs Q (b.at a (.inRegion ops (List.range ops.size)::k)) xs w):GX cs Q (b.at a (.code (.region id ops false)::k)) xs w:=by letI:Scope:=jT;exact j6.region h
theorem GX.kE(h:GX cs Q (b.at a k) xs w):GX cs Q (b.at a (.inRegion ops []::k)) xs w:=by letI:Scope:=jT;exact j6.kE h
theorem GX.cond{c:Operand}{x y:Code}{t:Bool}(d:@lg jT c=true)(f:a.eval c=.bool t)(h:GX cs Q (b.at a (.code (if t then x else y)::k)) xs w):GX cs Q (b.at a (.code (.cond c x y)::k)) xs w:=by letI:Scope:=jT;exact j6.cond d f h
theorem GX.skip(c:ops[i]?=some o)(hw:Region.wanted o (yielded ops a.tmps)=false)(h:GX cs Q (b.at (a.put o.dst undef) (.inRegion ops l::k)) xs w):GX cs Q (b.at a (.inRegion ops (i::l)::k)) xs w:=by letI:Scope:=jT;exact j6.skip c hw h
theorem GX.ret(h:GX cs Q { b.at a (.code .ret::k)with mode:=.returning } xs w):GX cs Q (b.at a (.code .ret::k)) xs w:=by letI:Scope:=jT;exact j6.ret h
theorem GX.vH {f:FuncId} {fn:Func} {c:Code} {args:Array Operand} {NZ:Array TypeId} (ho:ops[i]? = some o) (hw:Region.wanted o (yielded ops a.tmps)=true)
  (N5:o.op=.call { callee:=.value (.func f),args,argTypes:=NZ }) (N6:args.all (@lg jT)=true) (hf:Tryz.prog.funcs[f]? = some fn) (N7:(fn.name == "runtime.NumGoroutine")=false) (hb:fn.body=some c)
  (h:GX cs Q ((base f).at { tmps:=args.map a.eval++Array.replicate (fn.ntmps - (args.map a.eval).size) undef,defers:=[] } [.code c]) (b.at a (.inRegion ops (i::l)::k)::xs) w) (hma:mP args a.eval=true:=by first | rfl | (simp [mP,Act.eval,te,tf,th,ti,tj,tk,tl,tn, *])):GX cs Q (b.at a (.inRegion ops (i::l)::k)) xs w:=by letI:Scope:=jT;exact j6.vH ho hw N5 N6 (C4 hma) hf N7 hb h
theorem GX.leave {todo:List Item} {fn:Func} {tr:Tmp} {c:Frame} {x2:List Frame} (hd:a.defers=[]) (hf:Tryz.prog.funcs[b.fn]? = some fn) (N8:fn.results=#[.tmp tr]) {bc:Frame} {ac:Act} (hc:c=bc.at ac (.inRegion ops (i::l)::k))
  (h:GX cs Q (c.finish (a.tmps.getD tr undef)) x2 w):GX cs Q { b.at a todo with mode:=.returning } (c::x2) w:=by letI:Scope:=jT;exact j6.leave hd hf N8 hc h
end
end
section
open Go Go.RowKit
def lf (ops:Array Oper):Bool:=(List.range (ops.size-1)).all fun j=>(List.range ops.size).any fun k=>decide (j<k)&&match ops[k]? with|some o=>o.after.any fun e=>decide (e.on=j)&&Region.binds .any e|none=>false
variable {ops:Array Oper}
theorem N9(h:lf ops=true){j:Nat}(r:j+1<ops.size):∃k o,j<k∧ops[k]?=some o∧∃e∈o.after,e.on=j∧Region.binds .any e=true:=by
 have m:=ek.1 h j (fZ.2 (by omega));obtain⟨k,_,g⟩:=List.any_eq_true.1 m;simp only[eh,ed]at g;obtain⟨p,c⟩:=g
 cases d:ops[k]? with
 |none=>rw[d]at c;cases c
 |some o =>
  rw[d]at c;simp only at c;rw[Array.any_eq_true]at c;obtain⟨i,q,f⟩:=c;simp only[eh,ed]at f;exact⟨k,o,p,d,o.after[i],Array.getElem_mem q,f.1,f.2⟩
theorem mI.all{D:List Deferred}{val:Nat→Value→World→Prop}{fix:List (Nat×Value)}{T:Nat}{listed:Array Bool}{a:Act}{w:World}(g:mI D ops val fix T listed a w)(c:lf ops=true){n:Nat}(t:ops.size=n+1)(h:listed.getD n false=true):∀i,i<ops.size→listed.getD i false=true:=by
 have key:∀d i,i+d=n→listed.getD i false=true:=by
  intro d
  induction d using Nat.strongRecOn with
  |_ d m =>
   intro i p;rcases eT d with rfl|hd
   ·obtain rfl:i=n:=by omega
    exact h
   ·obtain⟨k,o,u,f,e,q,r,s⟩:=N9 c (j:=i) (by omega);have x:k<ops.size:=(dp.1 f).1;have:=m (n-k) (by omega) k (by omega);have:=g.pU k o f this e q s;rw[r]at this;exact this
 intro i p;exact key (n-i) i (by omega)
section
variable {P:Program} {ops:Array Oper} {Q:Exit→Act→World→Prop} {val:Nat→Value→World→Prop} {fix:List (Nat×Value)} {T:Nat} {w0:World} {Post:Act→World→Prop} {n:Nat} {D:List Deferred}
theorem nO{id:Nat}{a:Act}{w:World}(hm:P.follows .mixedOrders=true)(m:kH ops (fix.map (·.1)) T=true)(z:lf ops=true)(S:ops.size=n+1)(r:∀w w' j u,Below w.heap.size w w'→val j u w→val j u w')(M:∀(i:Nat)(o:Oper)(a:Act)(w:World),i<n→ops[i]?=some o→(∀x∈fix,a.tmps[x.1]?=some x.2)→(∀(j:Nat)(o':Oper)(d:Nat),ops[j]?=some o'→o'.dst=some d→(∃e∈o.after,e.on=j∧Region.binds .any e=true)→∃v,a.tmps[d]?=some v∧val j v w)→Below w0.heap.size w0 w →
   ∀K:Act→World→Prop,(∀v w',val i v w'→Below w.heap.size w w'→K (a.put o.dst v) w')→o.wp P a w K Q)(s:∀(o:Oper)(a:Act)(w:World),ops[n]?=some o→(∀x∈fix,a.tmps[x.1]?=some x.2)→(∀(j:Nat)(o':Oper)(d:Nat),ops[j]?=some o'→o'.dst=some d→(∃e∈o.after,e.on=j∧Region.binds .any e=true)→∃v,a.tmps[d]?=some v∧val j v w)→Below w0.heap.size w0 w →
   ∀K:Act→World→Prop,(∀v w',Post (a.put o.dst v) w'→K (a.put o.dst v) w')→o.wp P a w K Q)(A:∀(a:Act)(w:World),a.defers=D→a.tmps.size=T→(∀x∈fix,a.tmps[x.1]?=some x.2)→Post a w→Q .normal a w)(hd:a.defers=D)(U:a.tmps.size=T)(V:∀x∈fix,a.tmps[x.1]?=some x.2)(W:Below w0.heap.size w0 { w with drawn:=w.drawn+1 }):(Code.region id ops true).wp P Q a w:=by
 have key:∀(fuel:Nat)(listed:Array Bool)(a:Act)(w:World),mI D ops val fix T listed a w→listed.getD n false=false→Below w0.heap.size w0 w→mr ops listed≤fuel→wpAny P .any ops Q fuel listed a w:=by
  intro fuel
  induction fuel with
  |zero =>
   intro listed a w c f hB hu;have g:=ua (ops:=ops) (listed:=listed) (by omega);have:=g n (by omega);rw[f]at this
   cases this
  |succ fuel X =>
   intro listed a w c f hB hu;refine⟨fun B=>?_,fun i C=>?_⟩
   ·have:=ub m c.ky B n (by omega);rw[f]at this
    cases this
   obtain⟨E,o,p,_⟩:=ga.1 C;have q:i<ops.size:=(dp.1 p).1;have F:listed.getD i false=false:=by
    have hsz:i<listed.size:=by rw[c.ky];exact q
    rw[du,dq hsz]at E ⊢;simpa using E
   unfold wpOp;rw[p];have Y:=(sR m p).2.2;have hw:Region.wanted o (yielded ops a.tmps)=true:=by simp[Region.wanted,Y]
   simp only[hw,dg]
   by_cases G:i=n
   ·subst G;refine .inl (s o a w p c.fix (fun j o' d t hd he=>c.dep p C t hd he) hB _ fun v w' Z=>?_);have h:mI D ops (fun _ _ _=>True) fix T (listed.setIfInBounds i true) (a.put o.dst v) w' :=
     mI.put (val:=fun _ _ _=>True) (w:=w) m ⟨c.defers,c.size,c.fix,fun j o' d y h2 H=>by obtain⟨v,k1,_⟩:=c.val j o' d y h2 H;exact⟨v,k1,trivial⟩,c.ky,c.pU⟩ p C trivial (fun _ _ _ _=>trivial)
    have g:=h.all z S (by rw[mg _ _ _ (by rw[c.ky];exact q)];simp);have R:=A _ _ h.defers h.size h.fix Z;have I:Region.ready .any ops (listed.setIfInBounds i true)=[]:=by
     cases hr:Region.ready .any ops (listed.setIfInBounds i true)with
     |nil=>rfl
     |cons x xs =>
      have hx:x∈Region.ready .any ops (listed.setIfInBounds i true):=by rw[hr];simp
      obtain⟨y,o2,N,_⟩:=ga.1 hx;have J:x<ops.size:=(dp.1 N).1;have H:=g x J;have O:x<(listed.setIfInBounds i true).size:=by rw[h.ky];exact J
      rw[du,dq O]at y H;simp only[ez]at y H;rw[H]at y
      cases y
    cases fuel with
    |zero=>exact⟨I,R⟩
    |succ fuel=>exact⟨fun _=>R,fun j t=>by rw[I]at t;cases t⟩
   ·refine .inl (M i o a w (by omega) p c.fix (fun j o' d t hd he=>c.dep p C t hd he) hB _ fun v w' hv L=>?_);have:=qI q c.ky F;refine X _ _ _ (c.put m p C hv fun j u _=>r _ _ j u L) ?_ (hB.trans (L.mono hB.size)) (by omega);rw[mg _ _ _ (by rw[c.ky];exact q),dk (fun e=>G e.symm)];exact f
 refine iB hm (key ops.size _ a _ ⟨hd,U,V,fun i o d _ f=>?_,by simp,fun i o _ f=>?_⟩ ?_ W ?_)
 ·simp[du,dt]at f;split at f<;>simp at f
 ·simp[du,dt]at f;split at f<;>simp at f
 ·simp[du,dt];split<;>simp
 ·unfold mr;exact dz (gd _ _) (by simp)
end
end
section
open Go Go.Conc Go.RowKit Go.Proofs.YtjnkcibpkkjniaaGreat.j7
section
variable {cs:List Frame} {Q:Frame→List Frame→World→Prop} {b:Frame} {a:Act} {ops:Array Oper} {k:List Item} {xs:List Frame} {w:World}
variable {id:Nat}
theorem GX.draw(hm:Tryz.prog.follows .mixedOrders=true)(h:∀t,GX cs Q (b.at a (.inRegion ops (Region.linearise .any ops t)::k)) xs w):GX cs Q (b.at a (.code (.region id ops true)::k)) xs w:=by
 letI:Scope:=jT
 refine j6.bind (Q:=fun f x v=>∃t,f=b.at a (.inRegion ops (Region.linearise .any ops t)::k)∧x=xs∧v=w) (fun Shun ρ gs m sl t q c=>?_) (by rintro _ _ _ ⟨t,rfl,rfl,rfl⟩;exact h t);obtain⟨jS,ys,p,j,hx⟩:=c.main;obtain⟨N,gs',g',w',j0,t',q',r1,r2,r,s,u,n,rfl,d,rfl⟩:=tV (P:=Tryz.prog) (Shun:=Shun) (w:=m) (g:=G jS (ys++cs)) (Post:=fun g' w'=>∃n,g'=G (jS.at ⟨jS.tmps,jS.defers⟩ (.inRegion ops (Region.linearise .any ops n)::k)) (ys++cs)∧∃d,w'=m.at d) rfl (fun d=>by
  have e:=j.at_;have:=stepG_region_draw (P:=Tryz.prog) (main:=true) (b:=jS) (a:=⟨jS.tmps,jS.defers⟩) (k:=k) (cs:=ys++cs) (w:=m.at d) (id:=id) (ops:=ops);rw[←e]at this;simp only[Region.schedule,hm,Bool.true_or,dg]at this;exact⟨_,_,_,this,by simp,dx _,_,rfl,d+1,rfl⟩) gs sl t q p c.leave c.past
 exact⟨N,gs',m.at d,j0,t',q',Shun,ρ,b.at a (.inRegion ops (Region.linearise .any ops n)::k),xs,w,r1,jR.le_refl _,⟨⟨_,ys,r,⟨j.fn,j.tmps.mB (jR.le_refl _) (kW.at _ _ _ d),rfl,j.defers,⟨rfl,.inl rfl⟩,j.kind,rfl,rfl⟩,hx.mB (jR.le_refl _) (kW.at _ _ _ d)⟩,⟨c.hr.obj,c.hr.inj,c.hr.base,c.hr.os,c.hr.sync⟩,s,u,⟨c.mD.cell,c.mD.obj,c.mD.low,c.mD.out⟩⟩,⟨n,rfl,rfl,rfl⟩,kW.at _ _ _ d⟩
def strip (ops:Array Oper):Array Oper:=ops.map fun o=>{ o with guard:=none }
variable {i:Nat} {o:Oper}
theorem rL(c:ops[i]?=some o):(strip ops)[i]?=some { o with guard:=none }:=by simp[strip,c]
theorem oj:(strip ops).size=ops.size:=by simp[strip]
theorem Oa(c:(strip ops)[i]?=some o):∃o',ops[i]?=some o'∧o={ o' with guard:=none }:=by
 simp only[strip,dQ,eg]at c;obtain⟨o',d,f⟩:=c;exact⟨o',d,f.symm⟩
variable {listed:Array Bool}
theorem C9(h:i∈Region.ready .any ops listed):i∈Region.ready .any (strip ops) listed:=by
 obtain⟨c,o,d,f⟩:=ga.1 h;exact ga.2 ⟨c,_,rL d,f⟩
theorem Da(h:i∈Region.ready .any (strip ops) listed):i∈Region.ready .any ops listed:=by
 obtain⟨c,o,d,f⟩:=ga.1 h;obtain⟨o',g,rfl⟩:=Oa d;exact ga.2 ⟨c,_,g,f⟩
variable {val:Nat→Value→World→Prop} {fix:List (Nat×Value)} {T:Nat} {w0:World} {Post:Act→World→Prop} {n:Nat} {D:List Deferred}
theorem GX.lb(hm:Tryz.prog.follows .mixedOrders=true)(q:kH (strip ops) (fix.map (·.1)) T=true)(B:lf (strip ops)=true)(X:ops.size=n+1)(r:∀w w' j u,Below w.heap.size w w'→val j u w→val j u w')(O:∀(i:Nat)(o:Oper)(a:Act)(w:World)(l:List Nat),i<n→ops[i]?=some o→(∀x∈fix,a.tmps[x.1]?=some x.2)→(∀(j:Nat)(o':Oper)(d:Nat),ops[j]?=some o'→o'.dst=some d→(∃e∈o.after,e.on=j∧Region.binds .any e=true)→∃v,a.tmps[d]?=some v∧val j v w)→Below w0.heap.size w0 w →
   (∀v w',val i v w'→Below w.heap.size w w'→GX cs Q (b.at (a.put o.dst v) (.inRegion ops l::k)) xs w')→GX cs Q (b.at a (.inRegion ops (i::l)::k)) xs w)(s:∀(o:Oper)(a:Act)(w:World)(l:List Nat),ops[n]?=some o→(∀x∈fix,a.tmps[x.1]?=some x.2)→(∀(j:Nat)(o':Oper)(d:Nat),ops[j]?=some o'→o'.dst=some d→(∃e∈o.after,e.on=j∧Region.binds .any e=true)→∃v,a.tmps[d]?=some v∧val j v w)→Below w0.heap.size w0 w→a.tmps.size=T →
   (∀v w',Post (a.put o.dst v) w'→GX cs Q (b.at (a.put o.dst v) (.inRegion ops l::k)) xs w')→GX cs Q (b.at a (.inRegion ops (n::l)::k)) xs w)(C:∀(a:Act)(w:World),a.defers=D→a.tmps.size=T→(∀x∈fix,a.tmps[x.1]?=some x.2)→Post a w→GX cs Q (b.at a k) xs w)(hd:a.defers=D)(Y:a.tmps.size=T)(Z:∀x∈fix,a.tmps[x.1]?=some x.2)(h0:Below w0.heap.size w0 w):GX cs Q (b.at a (.code (.region id ops true)::k)) xs w:=by
 have key:∀(fuel t:Nat)(listed:Array Bool)(a:Act)(w:World),mI D (strip ops) val fix T listed a w→listed.getD n false=false→Below w0.heap.size w0 w→mr (strip ops) listed≤fuel→GX cs Q (b.at a (.inRegion ops (Region.linearise.go .any ops fuel t listed [])::k)) xs w:=by
  intro fuel
  induction fuel with
  |zero =>
   intro t listed a w c g hB hu;have:=ua (ops:=strip ops) (listed:=listed) (by omega) n (by rw[oj];omega);rw[g]at this
   cases this
  |succ fuel ih =>
   intro t listed a w c g hB hu;simp only[Region.linearise.go];change GX cs Q (b.at a (.inRegion ops (match(Region.ready .any ops listed)[t % (Region.ready .any ops listed).length]? with
    |some i=>Region.linearise.go .any ops fuel (t / (Region.ready .any ops listed).length) (listed.setIfInBounds i true) [i]
    |none=>[].reverse)::k)) xs w
   cases R:(Region.ready .any ops listed)[t % (Region.ready .any ops listed).length]? with
   |none =>
    have E:Region.ready .any ops listed=[]:=by
     cases hr:Region.ready .any ops listed with
     |nil=>rfl
     |cons x xs =>
      rw[hr]at R;have S:t % (x::xs).length<(x::xs).length:=gi _ (by simp);simp at R;simp at S;omega
    have y:Region.ready .any (strip ops) listed=[]:=by
     cases hr:Region.ready .any (strip ops) listed with
     |nil=>rfl
     |cons x xs =>
      have:=Da (ops:=ops) (listed:=listed) (i:=x) (by rw[hr];simp);rw[E]at this
      cases this
    have:=ub q c.ky y n (by rw[oj];omega);rw[g]at this
    cases this
   |some i =>
    simp only[];rw[linearise_go_acc,gj,gl];have F:i∈Region.ready .any ops listed:=gn R;have h:=C9 F;obtain⟨G,o,z,_⟩:=ga.1 F;have H:i<ops.size:=(dp.1 z).1;have hsz:i<listed.size:=by rw[c.ky,oj];exact H
    have I:listed.getD i false=false:=by
     rw[du,dq hsz]at G ⊢;simpa using G
    have p:∀(j:Nat)(o':Oper)(d:Nat),ops[j]?=some o'→o'.dst=some d→(∃e∈o.after,e.on=j∧Region.binds .any e=true)→∃v,a.tmps[d]?=some v∧val j v w:=fun j o' d hj hd he=>c.dep (rL z) h (rL hj) hd he
    by_cases J:i=n
    ·subst J;refine s o a w _ z c.fix p hB c.size fun v w' hP=>?_
     have m:mI D (strip ops) (fun _ _ _=>True) fix T (listed.setIfInBounds i true) (a.put o.dst v) w' :=
      mI.put (val:=fun _ _ _=>True) (w:=w) q ⟨c.defers,c.size,c.fix,fun j o' d A h2 K=>by obtain⟨v,k1,_⟩:=c.val j o' d A h2 K;exact⟨v,k1,trivial⟩,c.ky,c.pU⟩ (rL z) h trivial (fun _ _ _ _=>trivial)
     have L:=m.all B (by rw[oj];exact X) (by rw[mg _ _ _ hsz];simp);have U:Region.ready .any ops (listed.setIfInBounds i true)=[]:=by
      cases hr:Region.ready .any ops (listed.setIfInBounds i true)with
      |nil=>rfl
      |cons x xs =>
       have hx:x∈Region.ready .any ops (listed.setIfInBounds i true):=by rw[hr];simp
       obtain⟨A,o2,V,_⟩:=ga.1 hx;have M:x<ops.size:=(dp.1 V).1;have K:=L x (by rw[oj];exact M);have W:x<(listed.setIfInBounds i true).size:=by rw[m.ky,oj];exact M
       rw[du,dq W]at A K;simp only[ez]at A K;rw[K]at A
       cases A
     have hgo:∀f t,Region.linearise.go .any ops f t (listed.setIfInBounds i true) []=[]:=by
      intro f t
      cases f with
      |zero=>rfl
      |succ f =>
       simp only[Region.linearise.go];change(match(Region.ready .any ops (listed.setIfInBounds i true))[t % (Region.ready .any ops (listed.setIfInBounds i true)).length]? with
        |some j=>Region.linearise.go .any ops f (t / (Region.ready .any ops (listed.setIfInBounds i true)).length) ((listed.setIfInBounds i true).setIfInBounds j true) [j]
        |none=>[].reverse)=[]
       rw[U];rfl
     rw[hgo];exact GX.kE (C _ _ m.defers m.size m.fix hP)
    ·refine O i o a w _ (by omega) z c.fix p hB fun v w' hv N=>?_
     have:=qI (ops:=strip ops) (by rw[oj];exact H) c.ky I;refine ih _ _ _ _ (c.put q (rL z) h hv fun j u _=>r _ _ j u N) ?_ (hB.trans (N.mono hB.size)) (by omega);rw[mg _ _ _ hsz,dk (fun e=>J e.symm)];exact g
 refine GX.draw hm fun t=>?_
 refine key ops.size t _ a w ⟨hd,Y,Z,fun i o d _ g=>?_,by simp[oj],fun i o _ g=>?_⟩ ?_ h0 ?_
 ·simp[du,dt]at g;split at g<;>simp at g
 ·simp[du,dt]at g;split at g<;>simp at g
 ·simp[du,dt];split<;>simp
 ·unfold mr;exact dz (gd _ _) (by simp[oj])
end
variable {cs xs:List Frame} {Q:Frame→List Frame→World→Prop} {b:Frame} {a:Act} {ops:Array Oper} {i:Nat} {l:List Nat} {k:List Item} {w:World} {o:Oper}
theorem GX.append(g:ops[i]?=some o)(hw:Region.wanted o (yielded ops a.tmps)=true)(d:@ow jT Tryz.prog o=true)(s x:Operand)(t:TypeId)(f:o.op=Op.call { callee:=Callee.builtin Builtin.append,args:=#[s,x],argTypes:=#[t,t] }){sv xv:Value}(j:a.eval s=sv)(hx:a.eval x=xv)(c:∀T,∃v w2,(Builtin.append_ #[t,t] o.type #[sv,xv]).run Tryz.prog (again w T)=.ok v w2∧GX cs Q (b.at (a.put o.dst v) (.inRegion ops l::k)) xs w2)(hu:mP o.op.operands a.eval=true:=by first|rfl|(simp[mP,Op.operands,Call.operands,Act.eval,te,tf,th,ti,tj,tk,tl,tn, *])):GX cs Q (b.at a (.inRegion ops (i::l)::k)) xs w :=
 GX.C5 (hu:=hu) g hw d fun T=>by
  obtain⟨v,w2,e,h⟩:=c T;refine⟨v,w2,?_,h⟩;simp[execOp,f,resolve,invoke,builtin,j,hx,e,Result.andThen]
theorem GX.Db(p:ops[i]?=some o)(hw:Region.wanted o (yielded ops a.tmps)=true){x y z:Operand}{d:Array TypeId}(f:o.op=.call { callee:=.value (.func 17),args:=#[x,y,z],argTypes:=d })(c:(#[x,y,z]:Array Operand).all (@lg jT)=true){v0 v1 v2:Value}(g:a.eval x=v0)(j:a.eval y=v1)(m:a.eval z=v2)(h:GX cs Q ((base 17).at { tmps:=#[v0,v1,v2]++Array.replicate 19 undef,defers:=[] } [.code (Tryz.f17.body.getD .skip)]) (b.at a (.inRegion ops (i::l)::k)::xs) w)(m0:kT v0=false:=by rfl)(q:kT v1=false:=by rfl)(m2:kT v2=false:=by rfl):GX cs Q (b.at a (.inRegion ops (i::l)::k)) xs w:=by
 have hma:mP #[x,y,z] a.eval=true:=by simp[mP,g,j,m,m0,q,m2]
 refine GX.vH (hma:=hma) p hw f c Tryz.func17 rfl rfl ?_;have e:(#[x,y,z]:Array Operand).map a.eval=#[v0,v1,v2]:=by simp[g,j,m]
 rw[e];exact h
theorem zZ(c:ops[i]?=some o)(v:Value):(b.at a (.inRegion ops (i::l)::k)).finish v=b.at (a.put o.dst v) (.inRegion ops l::k):=by rw[fl,c];rfl
theorem Aa{C:Array Value}(h:C.size=83):∃k0 k1 k2 k3 k4 k5 k6 k7 k8 k9 c d f g j m p q r s t u x y z A B E F G H I J K L M N O R S U V W X Y Z aa ab ad ae af ag ah ai aj ak al am an ao ap aq ar au av aw ax ay az aA aB aC aD aE aF aG aH aI aJ aK aL aM aN,C=#[k0,k1,k2,k3,k4,k5,k6,k7,k8,k9,c,d,f,g,j,m,p,q,r,s,t,u,x,y,z,A,B,E,F,G,H,I,J,K,L,M,N,O,R,S,U,V,W,X,Y,Z,aa,ab,ad,ae,af,ag,ah,ai,aj,ak,al,am,an,ao,ap,aq,ar,au,av,aw,ax,ay,az,aA,aB,aC,aD,aE,aF,aG,aH,aI,aJ,aK,aL,aM,aN]:=by
 obtain⟨l⟩:=C
 match l,h with
 |k0::k1::k2::k3::k4::k5::k6::k7::k8::k9::c::d::f::g::j::m::p::q::r::s::t::u::x::y::z::A::B::E::F::G::H::I::J::K::L::M::N::O::R::S::U::V::W::X::Y::Z::aa::ab::ad::ae::af::ag::ah::ai::aj::ak::al::am::an::ao::ap::aq::ar::au::av::aw::ax::ay::az::aA::aB::aC::aD::aE::aF::aG::aH::aI::aJ::aK::aL::aM::aN::[],_=>exact⟨_,_,_,_,_,_,_,_,_,_,_,_,_,_,_,_,_,_,_,_,_,_,_,_,_,_,_,_,_,_,_,_,_,_,_,_,_,_,_,_,_,_,_,_,_,_,_,_,_,_,_,_,_,_,_,_,_,_,_,_,_,_,_,_,_,_,_,_,_,_,_,_,_,_,_,_,_,_,_,_,_,_,_,rfl⟩
section
variable {cs:List Frame} {Q:Frame→List Frame→World→Prop} {b:Frame} {a:Act} {ops:Array Oper} {k:List Item} {xs:List Frame} {w:World}
variable {val:Nat→Value→World→Prop} {fix:List (Nat×Value)} {T:Nat} {w0:World} {Post:Act→World→Prop} {n:Nat} {D:List Deferred}
theorem GX.Ob{id c:Nat}{S:World→Prop}(hm:Tryz.prog.follows .mixedOrders=true)(z:kH (strip ops) (fix.map (·.1)) T=true)(J:lf (strip ops)=true)(hn:ops.size=n+1)(aj:c<n)(q:∀w w' j u,j≠c→val j u w→val j u w')(A:∀w w' u,w'.heap=w.heap→val c u w→val c u w')(aa:∀w w',w'.heap=w.heap→S w→S w')(ab:∀(i:Nat)(o:Oper)(a:Act)(w:World)(l:List Nat),i<n→i≠c→ops[i]?=some o→(∀x∈fix,a.tmps[x.1]?=some x.2)→(∀(j:Nat)(o':Oper)(d:Nat),ops[j]?=some o'→o'.dst=some d→(∃e∈o.after,e.on=j∧Region.binds .any e=true)→∃v,a.tmps[d]?=some v∧val j v w)→S w →
   (∀v w',val i v w'→w'.heap=w.heap→GX cs Q (b.at (a.put o.dst v) (.inRegion ops l::k)) xs w')→GX cs Q (b.at a (.inRegion ops (i::l)::k)) xs w)(C:∀(o:Oper)(a:Act)(w:World)(l:List Nat),ops[c]?=some o→(∀x∈fix,a.tmps[x.1]?=some x.2)→(∀(j:Nat)(o':Oper)(d:Nat),ops[j]?=some o'→o'.dst=some d→(∃e∈o.after,e.on=j∧Region.binds .any e=true)→∃v,a.tmps[d]?=some v∧val j v w)→w.heap=w0.heap →
   (∀v w',val c v w'→S w'→GX cs Q (b.at (a.put o.dst v) (.inRegion ops l::k)) xs w')→GX cs Q (b.at a (.inRegion ops (c::l)::k)) xs w)(E:∀(o:Oper)(a:Act)(w:World)(l:List Nat),ops[n]?=some o→(∀x∈fix,a.tmps[x.1]?=some x.2)→(∀(j:Nat)(o':Oper)(d:Nat),ops[j]?=some o'→o'.dst=some d→(∃e∈o.after,e.on=j∧Region.binds .any e=true)→∃v,a.tmps[d]?=some v∧val j v w)→S w→a.tmps.size=T →
   (∀v w',Post (a.put o.dst v) w'→GX cs Q (b.at (a.put o.dst v) (.inRegion ops l::k)) xs w')→GX cs Q (b.at a (.inRegion ops (n::l)::k)) xs w)(K:∀(a:Act)(w:World),a.defers=D→a.tmps.size=T→(∀x∈fix,a.tmps[x.1]?=some x.2)→Post a w→GX cs Q (b.at a k) xs w)(hd:a.defers=D)(hs:a.tmps.size=T)(hf:∀x∈fix,a.tmps[x.1]?=some x.2)(h0:S w)(ad:w.heap=w0.heap):GX cs Q (b.at a (.code (.region id ops true)::k)) xs w:=by
 have key:∀(fuel t:Nat)(listed:Array Bool)(a:Act)(w:World),mI D (strip ops) val fix T listed a w→listed.getD n false=false→S w→(listed.getD c false=false→w.heap=w0.heap)→mr (strip ops) listed≤fuel→GX cs Q (b.at a (.inRegion ops (Region.linearise.go .any ops fuel t listed [])::k)) xs w:=by
  intro fuel
  induction fuel with
  |zero =>
   intro t listed a w g p hB hC hu;have:=ua (ops:=strip ops) (listed:=listed) (by omega) n (by rw[oj];omega);rw[p]at this
   cases this
  |succ fuel ih =>
   intro t listed a w g p hB hC hu;simp only[Region.linearise.go];change GX cs Q (b.at a (.inRegion ops (match(Region.ready .any ops listed)[t % (Region.ready .any ops listed).length]? with
    |some i=>Region.linearise.go .any ops fuel (t / (Region.ready .any ops listed).length) (listed.setIfInBounds i true) [i]
    |none=>[].reverse)::k)) xs w
   cases hi:(Region.ready .any ops listed)[t % (Region.ready .any ops listed).length]? with
   |none =>
    have L:Region.ready .any ops listed=[]:=by
     cases hr:Region.ready .any ops listed with
     |nil=>rfl
     |cons x xs =>
      rw[hr]at hi;have ae:t % (x::xs).length<(x::xs).length:=gi _ (by simp);simp at hi;simp at ae;omega
    have F:Region.ready .any (strip ops) listed=[]:=by
     cases hr:Region.ready .any (strip ops) listed with
     |nil=>rfl
     |cons x xs =>
      have:=Da (ops:=ops) (listed:=listed) (i:=x) (by rw[hr];simp);rw[L]at this
      cases this
    have:=ub z g.ky F n (by rw[oj];omega);rw[p]at this
    cases this
   |some i =>
    simp only[];rw[linearise_go_acc,gj,gl];have M:i∈Region.ready .any ops listed:=gn hi;have m:=C9 M;obtain⟨N,o,B,_⟩:=ga.1 M;have O:i<ops.size:=(dp.1 B).1;have hsz:i<listed.size:=by rw[g.ky,oj];exact O
    have r:listed.getD i false=false:=by
     rw[du,dq hsz]at N ⊢;simpa using N
    have s:∀(j:Nat)(o':Oper)(d:Nat),ops[j]?=some o'→o'.dst=some d→(∃e∈o.after,e.on=j∧Region.binds .any e=true)→∃v,a.tmps[d]?=some v∧val j v w:=fun j o' d R hd he=>g.dep (rL B) m (rL R) hd he
    by_cases U:i=n
    ·subst U;refine E o a w _ B g.fix s hB g.size fun v w' hP=>?_
     have y:mI D (strip ops) (fun _ _ _=>True) fix T (listed.setIfInBounds i true) (a.put o.dst v) w' :=
      mI.put (val:=fun _ _ _=>True) (w:=w) z ⟨g.defers,g.size,g.fix,fun j o' d I h2 V=>by obtain⟨v,k1,_⟩:=g.val j o' d I h2 V;exact⟨v,k1,trivial⟩,g.ky,g.pU⟩ (rL B) m trivial (fun _ _ _ _=>trivial)
     have W:=y.all J (by rw[oj];exact hn) (by rw[mg _ _ _ hsz];simp);have af:Region.ready .any ops (listed.setIfInBounds i true)=[]:=by
      cases hr:Region.ready .any ops (listed.setIfInBounds i true)with
      |nil=>rfl
      |cons x xs =>
       have hx:x∈Region.ready .any ops (listed.setIfInBounds i true):=by rw[hr];simp
       obtain⟨I,o2,ag,_⟩:=ga.1 hx;have X:x<ops.size:=(dp.1 ag).1;have V:=W x (by rw[oj];exact X);have ah:x<(listed.setIfInBounds i true).size:=by rw[y.ky,oj];exact X
       rw[du,dq ah]at I V;simp only[ez]at I V;rw[V]at I
       cases I
     have hgo:∀f t,Region.linearise.go .any ops f t (listed.setIfInBounds i true) []=[]:=by
      intro f t
      cases f with
      |zero=>rfl
      |succ f =>
       simp only[Region.linearise.go];change(match(Region.ready .any ops (listed.setIfInBounds i true))[t % (Region.ready .any ops (listed.setIfInBounds i true)).length]? with
        |some j=>Region.linearise.go .any ops f (t / (Region.ready .any ops (listed.setIfInBounds i true)).length) ((listed.setIfInBounds i true).setIfInBounds j true) [j]
        |none=>[].reverse)=[]
       rw[af];rfl
     rw[hgo];exact GX.kE (K _ _ y.defers y.size y.fix hP)
    ·have ak:=qI (ops:=strip ops) (by rw[oj];exact O) g.ky r;have Y:(listed.setIfInBounds i true).getD n false=false:=by
      rw[mg _ _ _ hsz,dk (fun e=>U e.symm)];exact p
     by_cases G:i=c
     ·subst G;refine C o a w _ B g.fix s (hC r) fun v w' hv ai=>?_
      refine ih _ _ _ _ (g.put z (rL B) m hv fun j u R=>q _ _ j u fun e=>?_) Y ai (fun h=>?_) (by omega)
      ·rw[e,r]at R
       cases R
      ·rw[mg _ _ _ hsz,dj rfl]at h
       cases h
     ·refine ab i o a w _ (by omega) G B g.fix s hB fun v w' hv H=>?_
      refine ih _ _ _ _ (g.put z (rL B) m hv fun j u R=>?_) Y (aa _ _ H hB) (fun h=>H.trans (hC ?_)) (by omega)
      ·by_cases Z:j=c
       ·subst Z;exact A _ _ u H
       ·exact q _ _ j u Z
      ·rw[mg _ _ _ hsz,dk (fun e=>G e.symm)]at h;exact h
 refine GX.draw hm fun t=>?_
 refine key ops.size t _ a w ⟨hd,hs,hf,fun i o d _ p=>?_,by simp[oj],fun i o _ p=>?_⟩ ?_ h0 (fun _=>ad) ?_
 ·simp[du,dt]at p;split at p<;>simp at p
 ·simp[du,dt]at p;split at p<;>simp at p
 ·simp[du,dt];split<;>simp
 ·unfold mr;exact dz (gd _ _) (by simp[oj])
end
end
end Go.Proofs.YtjnkcibpkkjniaaGreat.kj
namespace Go.Proofs.YtjnkcibpkkjniaaGreat
section
open Go.RowKit
theorem x9(w:World)(b c:Nat)(x y:Int)(d:w.cell? ⟨b,0,none⟩=some (.int .u8 x))(f:w.cell? ⟨b,1,none⟩=some (.int .u8 y)):(convert 86 9 (.slice (some ⟨b,0,none⟩) 2 c)).run Tryz.prog w=.ok (.string (strOfNums [x,y])) w :=
 iC w 86 5 Tryz.underlying86 Tryz.underlying5 b 0 2 c [x,y] rfl (fun i g=>by
  match i,g with
  |0,_=>exact d
  |1,_=>exact f) 9 Tryz.underlying9
theorem Ab(w:World)(b c:Nat)(x:Int)(d:w.cell? ⟨b,0,none⟩=some (.int .u8 x)):(convert 86 9 (.slice (some ⟨b,0,none⟩) 1 c)).run Tryz.prog w=.ok (.string (strOfNums [x])) w :=
 iC w 86 5 Tryz.underlying86 Tryz.underlying5 b 0 1 c [x] rfl (fun i f=>by
  match i,f with
  |0,_=>exact d) 9 Tryz.underlying9
theorem Oc(w:World)(b c:Nat)(x y z u:Int)(d:w.cell? ⟨b,0,none⟩=some (.int .u8 x))(f:w.cell? ⟨b,1,none⟩=some (.int .u8 y))(g:w.cell? ⟨b,2,none⟩=some (.int .u8 z))(h:w.cell? ⟨b,3,none⟩=some (.int .u8 u)):(convert 86 9 (.slice (some ⟨b,0,none⟩) 4 c)).run Tryz.prog w=.ok (.string (strOfNums [x,y,z,u])) w :=
 iC w 86 5 Tryz.underlying86 Tryz.underlying5 b 0 4 c [x,y,z,u] rfl (fun i j=>by
  match i,j with
  |0,_=>exact d
  |1,_=>exact f
  |2,_=>exact g
  |3,_=>exact h) 9 Tryz.underlying9
theorem Od(w:World)(b c:Nat)(x y z u v:Int)(d:w.cell? ⟨b,0,none⟩=some (.int .u8 x))(f:w.cell? ⟨b,1,none⟩=some (.int .u8 y))(g:w.cell? ⟨b,2,none⟩=some (.int .u8 z))(h:w.cell? ⟨b,3,none⟩=some (.int .u8 u))(j:w.cell? ⟨b,4,none⟩=some (.int .u8 v)):(convert 86 9 (.slice (some ⟨b,0,none⟩) 5 c)).run Tryz.prog w=.ok (.string (strOfNums [x,y,z,u,v])) w :=
 iC w 86 5 Tryz.underlying86 Tryz.underlying5 b 0 5 c [x,y,z,u,v] rfl (fun i m=>by
  match i,m with
  |0,_=>exact d
  |1,_=>exact f
  |2,_=>exact g
  |3,_=>exact h
  |4,_=>exact j) 9 Tryz.underlying9
def kB (n:Int):List Int:=[n / 256 % 256,n % 256]
def mark:List Int:=[255,255,255,255,255,255,255,255,255,255,255,255,255,255,255,255]
def j9 (kind:Int) (body:List Int):List Int:=mark++(kB (19+(body.length:Int))++kind::body)
def wA (c n:Int):Int:=if c<0 then(-(c+1)) % n else c % n
theorem qW(xs ys:List Int):strOfNums xs++strOfNums ys=strOfNums (xs++ys):=by
 simp[strOfNums,ByteArray.ext_iff]
theorem Oe:(⟨#[255,255,255,255,255,255,255,255,255,255,255,255,255,255,255,255]⟩:ByteArray)=strOfNums mark:=by decide
section
theorem Ac(n:Int)(w:World):Calls Tryz.prog 164 #[.int .i64 n] w fun e w'=>e=.returned (.string (strOfNums (kB n)))∧Below w.heap.size w w':=by
 have kc:=x9;go_enter Tryz.func164,Tryz.ntmps164
 go_wp2
 go_ret;exact⟨rfl,(iD _ _).alloc (dx _) _⟩
theorem Of(n:Int)(w:World):Calls Tryz.prog 164 #[.int .i64 n] w fun e w'=>e=.returned (.string (strOfNums (kB n)))∧w'=w.alloc (.cells #[.int .u8 (n / 256 % 256),.int .u8 (n % 256)] 5):=by
 have kc:=x9;go_enter Tryz.func164,Tryz.ntmps164
 go_wp2
 go_ret;exact⟨rfl,rfl⟩
theorem Dc(n:Int)(w:World):Calls Tryz.prog 32 #[.int .i64 n] w fun e w'=>e=.returned (.string (strOfNums (kB n)))∧w'=w.alloc (.cells #[.int .u8 (n / 256 % 256),.int .u8 (n % 256)] 5):=by
 have kc:=x9;go_enter Tryz.func32,Tryz.ntmps32
 go_wp2
 go_ret;exact⟨rfl,rfl⟩
theorem TU(c n:Int)(d:-9223372036854775808≤c∧c≤9223372036854775807)(f:0<n∧n≤9223372036854775807)(w:World):Calls Tryz.prog 13 #[.int .i64 c,.int .i64 n] w fun e w'=>e=.returned (.int .i64 (wA c n))∧w'=w:=by
 obtain⟨g,j⟩:=d;obtain⟨m,p⟩:=f;go_enter Tryz.func13,Tryz.ntmps13
 go_wp2
 ·go_ret;refine⟨?_,rfl⟩;have h:c<0:=by assumption
  have e:wA c n=-((c+1).tmod n):=by
   unfold wA;rw[dj h,←Int.neg_tmod,Int.tmod_eq_emod_of_nonneg (by omega)]
  rw[e];rfl
 ·go_ret;refine⟨?_,rfl⟩;have h:0≤c:=by assumption
  have e:wA c n=c % n:=by
   unfold wA;rw[dk (by omega)]
  rw[e];rfl
theorem Og(n:Int)(w:World):Calls Tryz.prog 165 #[.int .u32 n] w fun e w'=>e=.returned (.string (strOfNums [n / 16777216 % 256,n / 65536 % 256,n / 256 % 256,n % 256]))∧Below w.heap.size w w':=by
 have kc:=Oc;go_enter Tryz.func165,Tryz.ntmps165
 go_wp2
 go_ret;exact⟨rfl,(iD _ _).alloc (dx _) _⟩
theorem Oh(k:Nat)(h:k<16):strOfNums (List.replicate k 255)++(⟨#[255]⟩:ByteArray)=strOfNums (List.replicate (k+1) 255):=by
 rw[show(⟨#[255]⟩:ByteArray)=strOfNums [255] from rfl,qW,←List.replicate_succ']
theorem sr(w:World):Calls Tryz.prog 31 #[] w fun e w'=>e=.returned (.string (strOfNums mark))∧w'=w:=by
 go_enter Tryz.func31,Tryz.ntmps31
 go_wp2_with fail
 go_loop [1,2] (fun s i=>∃k:Nat,k≤16∧i=.int .i64 k∧s=.string (strOfNums (List.replicate k 255))) (fun _ i=>16-(intOf i).toNat)
 case atStart=>exact⟨0,by omega,rfl,rfl⟩
 case round =>
  obtain⟨k,d,rfl,rfl⟩:=hrel
  by_cases c:k<16
  ·have f:=Oh k c;have g:¬9223372036854775807<(strOfNums (List.replicate k 255)).size+1:=by rw[iE];simp;omega
   go_wp2_with fail
   go_round
   case rel=>exact⟨k+1,by omega,by go_num,rfl⟩
   case measure=>simp[intOf];omega
  ·have d:k=16:=by omega
   subst d
   go_wp2_with fail
   go_ret;exact⟨rfl,rfl⟩
theorem Ad:(⟨#[255,255,255,255,255,255,255,255,255,255,255,255,255,255,255,255]⟩:ByteArray)=strOfNums mark:=Oe
theorem Ae(kind:Int)(b:List Int)(hb:b.length≤65535)(w:World):Calls Tryz.prog 154 #[.int .u8 kind,.string (strOfNums b)] w fun e w'=>e=.returned (.string (strOfNums (j9 kind b)))∧Below w.heap.size w w':=by
 have kc:=Ab;have d:=qW;have f:=iE;have g:=Ad;have k2:∀n,(kB n).length=2:=fun _=>rfl
 have c:mark.length=16:=rfl;have ka:∀xs ys:List Int,(xs++ys).length=xs.length+ys.length:=fun _ _=>iF
 go_enter Tryz.func154,Tryz.ntmps154
 go_wp2_with fail
 go_region_with (go_at_call 164;go_loud (refine(Of _ _).mono ?_);go_loud (rintro e w' ⟨rfl,rfl⟩))
 all_goals(go_wp2_with fail;go_ret;exact⟨rfl,by(repeat(first|exact iD _ _|refine iG ?_|refine iH ?_ (by first|omega|(simp only[iI,iJ,iK];omega)|simp) _|refine iL ?_ (by first|omega|simp) _|assumption))⟩)
end
def kS (Q:Value→Prop) (w:World) (v:Value):Prop:=∀g cur ty fr,v.ownBlock=some g→w.heap[g]?=some (.cells cur ty fr)→∀u∈cur.toList,Q u
theorem kS.nil(Q:Value→Prop)(w:World):kS Q w (.slice none 0 0):=fun g _ _ _ h=>by cases h
theorem kS.keep{Q:Value→Prop}{w w':World}{v:Value}(h:kS Q w v)(k:∀g,v.ownBlock=some g→w'.heap[g]?=w.heap[g]?):kS Q w' v:=fun g cur ty fr c d=>h g cur ty fr c ((k g c).symm.trans d)
theorem wC{z:Array Value}{n:Nat}(d:0<z.size){u:Value}(h:u∈(Builtin.zeroCells z n).toList):u∈z.toList:=by
 unfold Builtin.zeroCells at h;simp only[Array.toList_map,iM]at h;obtain⟨i,_,rfl⟩:=h;have c:i % z.size<z.size:=gi _ d;rw[getElem!_pos z (i % z.size) c];exact Array.getElem_mem_toList c
def Pl (v:Value):Prop:=(∃k n,v=.int k n)∨(∃s,v=.string s)∨(∃b,v=.bool b)∨∃l c,v=.slice none l c
theorem Pl.int(k:IntKind)(n:Int):Pl (.int k n):=.inl ⟨_,_,rfl⟩
theorem Pl.string(s:ByteArray):Pl (.string s):=.inr (.inl ⟨_,rfl⟩)
theorem Pl.bool(b:Bool):Pl (.bool b):=.inr (.inr (.inl ⟨_,rfl⟩))
theorem Pl.lW(l c:Nat):Pl (.slice none l c):=.inr (.inr (.inr ⟨_,_,rfl⟩))
end
end Go.Proofs.YtjnkcibpkkjniaaGreat
