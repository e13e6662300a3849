import Derived.Test.YtjnkcibpkkjniaaGreatA00
import Derived.Test.YtjnkcibpkkjniaaGreatA26
set_option linter.all false
set_option maxHeartbeats 2000000
set_option maxRecDepth 20000
namespace Go.Proofs.YtjnkcibpkkjniaaGreat.j7
section
open Go Go.Proofs.YtjnkcibpkkjniaaGreat
section
variable [Scope] {ρ:jR}
theorem VR.pl{v:Value}(h:Pl v):VR ρ v v:=by
 rcases h with⟨k,n,rfl⟩|⟨s,rfl⟩|⟨b,rfl⟩|⟨l,c,rfl⟩
 ·exact .int k n
 ·exact .string s
 ·exact .bool b
 ·exact .lW l c
theorem VR.EG{v v':Value}(h:Pl v)(k:VR ρ v v'):v'=v:=by
 rcases h with⟨k',n,rfl⟩|⟨s,rfl⟩|⟨b,rfl⟩|⟨l,c,rfl⟩
 ·exact VR.qd k
 ·cases k;rfl
 ·exact VR.AG k
 ·cases k;rfl
end
def mQ (p:Pz) (pa:Option Addr) (b:Nat):Prop:=(∃ad,p.ia=some ad∧ad.block=b)∨(∃ad,p.ea=some ad∧ad.block=b)∨∃ad,pa=some ad∧ad.block=b
def lO (w:World) (b:Nat):Prop:=∃cur ty fr,w.heap[b]?=some (.cells cur ty fr)∧(∀u∈cur.toList,Pl u)∧fr=(0,0)
variable {w w':World} {b:Nat}
theorem lO.keep(h:lO w b)(e:w'.heap[b]?=w.heap[b]?):lO w' b:=by
 obtain⟨cur,ty,fr,a,c⟩:=h;exact⟨cur,ty,fr,e.trans a,c⟩
structure o4 (w:World) (xb:Nat) (Z:List Value) (au id:Int) (p:Pz) (st hold heard spoke:Int) (pa:Option Addr) (pl pc:Nat):Prop where
 blk:w.heap[xb]?=some (.cells (j5 au id p st hold heard spoke (.slice pa pl pc)++Z.toArray) 100 (0,0))
 spare:∀u∈Z,Pl u
 rows:∀b,mQ p pa b→b≠xb∧lO w b
theorem o4.keep{w w':World}{xb:Nat}{Z:List Value}{au id:Int}{p:Pz}{st hold heard spoke:Int}{pa:Option Addr}{pl pc:Nat}(h:o4 w xb Z au id p st hold heard spoke pa pl pc)(k:∀b,b=xb∨mQ p pa b→w'.heap[b]?=w.heap[b]?):o4 w' xb Z au id p st hold heard spoke pa pl pc :=
 ⟨(k xb (.inl rfl)).trans h.blk,h.spare,fun b hb=>⟨(h.rows b hb).1,(h.rows b hb).2.keep (k b (.inr hb))⟩⟩
theorem tC(au id:Int)(p:Pz)(st hold heard spoke:Int)(pv:Value):(j5 au id p st hold heard spoke pv).size=14:=rfl
section
variable [Scope]
theorem EH{ρ:jR}{au id:Int}{p:Pz}{st hold heard spoke:Int}{pa:Option Addr}{pl pc:Nat}(hb:Scope.base=0)(h:∀ad,(p.ia=some ad∨p.ea=some ad∨pa=some ad)→ρ ad.block=some ⟨ad.block,none⟩):jW ρ (j5 au id p st hold heard spoke (.slice pa pl pc)) (j5 au id p st hold heard spoke (.slice pa pl pc)):=by
 have f:∀(a:Option Addr)(l c:Nat),(∀ad,a=some ad→ρ ad.block=some ⟨ad.block,none⟩)→VR ρ (.slice a l c) (.slice a l c):=fun a l c k=>by
  cases a with
  |none=>exact .lW l c
  |some ad=>exact .slice l c ⟨by rw[hb];exact eI _,⟨ad.block,none⟩,k ad rfl,rfl,by simp[Place.shift],rfl⟩
 have o:=f p.ia p.il p.ic fun ad e=>h ad (.inl e)
 have r:=f p.ea p.el p.ec fun ad e=>h ad (.inr (.inl e))
 have g:=f pa pl pc fun ad e=>h ad (.inr (.inr e))
 refine jW.diag fun i v j=>?_
 have u:i<14:=(dp.1 j).1;obtain rfl|rfl|rfl|rfl|rfl|rfl|rfl|rfl|rfl|rfl|rfl|rfl|rfl|rfl:i=0∨i=1∨i=2∨i=3∨i=4∨i=5∨i=6∨i=7∨i=8∨i=9∨i=10∨i=11∨i=12∨i=13:=by omega
 all_goals
  simp[j5]at j;subst j
  first
   |exact .int _ _
   |exact o
   |exact r
   |exact g
end
section
variable [Scope] {ρ:jR}
theorem EI{au id:Int}{p:Pz}{st hold heard spoke:Int}{pa:Option Addr}{pl pc:Nat}{C:Array Value}(h:jW ρ (j5 au id p st hold heard spoke (.slice pa pl pc)) C):∃(p':Pz)(c:Option Addr),C=j5 au id p' st hold heard spoke (.slice c pl pc)∧p'.au=p.au∧p'.hold=p.hold∧VR ρ (.slice p.ia p.il p.ic) (.slice p'.ia p.il p.ic)∧VR ρ (.slice p.ea p.el p.ec) (.slice p'.ea p.el p.ec)∧VR ρ (.slice pa pl pc) (.slice c pl pc):=by
 have F:C.size=14:=h.size.symm;obtain⟨c0,c1,c2,c3,c4,G,H,I,J,K,f,g,j,kJ,rfl⟩:=P8 F;have g0:=VR.qd (h.get 0 _ c0 rfl rfl);have g1:=VR.qd (h.get 1 _ c1 rfl rfl);have g2:=VR.qd (h.get 2 _ c2 rfl rfl);have L:=VR.qd (h.get 3 _ c3 rfl rfl);have M:=VR.qd (h.get 4 _ c4 rfl rfl);have O:=VR.qd (h.get 5 _ G rfl rfl);have P:=VR.qd (h.get 6 _ H rfl rfl);have k:=h.get 7 _ I rfl rfl;have o:=h.get 8 _ J rfl rfl;have a:=h.get 13 _ kJ rfl rfl;obtain⟨R,A⟩:=VR.vo k;obtain⟨T,D⟩:=VR.vo o;have U:=VR.qd (h.get 9 _ K rfl rfl);have r:=VR.qd (h.get 10 _ f rfl rfl);have u:=VR.qd (h.get 11 _ g rfl rfl);have y:=VR.qd (h.get 12 _ j rfl rfl);obtain⟨z,e⟩:=VR.vo a;rw[A]at k;rw[D]at o;rw[e]at a;exact⟨{ p with ia:=R,ea:=T },z,by rw[g0,g1,g2,L,M,O,P,A,D,U,r,u,y,e];rfl,rfl,rfl,k,o,a⟩
theorem jW.EJ{xs ys:Array Value}(h:jW ρ xs ys)(hp:∀u∈xs.toList,Pl u):ys=xs :=
 sQ h.size fun i v v' a b=>VR.EG (hp v (by have:=dw a;simpa using this)) (h.get i v v' a b)
theorem rR{a a':Option Addr}{l c:Nat}{f:Addr}(h:VR ρ (.slice a l c) (.slice a' l c))(e:a'=some f)(j:Scope.sync=true→∀ad q,a=some ad→ρ ad.block=some q→q.part=none):∃ad q,a=some ad∧ρ ad.block=some q∧q.block=f.block:=by
 subst e
 cases h with
 |slice _ _ k=>obtain⟨_,q,o,r,_⟩:=k;exact⟨_,q,rfl,o,r.symm⟩
 |mN u g=>obtain⟨b,x,g⟩:=g;exact absurd (j u _ _ rfl g) (by simp)
theorem lO.over{w w':World}(h:HR ρ w w'){b:Nat}{q:Place}(e:ρ b=some q)(hp:q.part=none)(hb:lO w b):lO w' q.block:=by
 obtain⟨cur,ty,fr,f,c⟩:=hb;obtain⟨o,o',k1,k2,a⟩:=h.obj b q e;rw[f]at k1;cases k1
 unfold lR at a;rw[hp]at a
 cases a with
 |cells g =>
  rw[g.EJ c.1]at k2;exact⟨cur,ty,fr,k2,c⟩
theorem o4.core{w w':World}{xb:Nat}{Z:List Value}{au id:Int}{p:Pz}{st hold heard spoke:Int}{pa:Option Addr}{pl pc:Nat}{S':Array Value}(h:HR ρ w w')(f:∀b q,b≠xb→ρ b=some q→q.part=none)(A:∃q,ρ xb=some q∧q.block=xb)(F:∀u∈Z,Pl u)(a:∀b,mQ p pa b→b≠xb∧lO w b)(G:jW ρ (j5 au id p st hold heard spoke (.slice pa pl pc)) S')(hb:w'.heap[xb]?=some (.cells (S'++Z.toArray) 100 (0,0))):∃(p':Pz)(c:Option Addr),o4 w' xb Z au id p' st hold heard spoke c pl pc∧p'.au=p.au∧p'.hold=p.hold∧(∀b',mQ p' c b'→∃b q,mQ p pa b∧ρ b=some q∧q.block=b')∧VR ρ (.slice pa pl pc) (.slice c pl pc)∧VR ρ (.slice p.ia p.il p.ic) (.slice p'.ia p.il p.ic)∧VR ρ (.slice p.ea p.el p.ec) (.slice p'.ea p.el p.ec):=by
 obtain⟨p',c,rfl,H,I,D,v8,o⟩:=EI G;have r:∀b',mQ p' c b'→∃b q,mQ p pa b∧ρ b=some q∧q.block=b':=by
  rintro b' (⟨y,k1,k2⟩|⟨y,k1,k2⟩|⟨y,k1,k2⟩)
  ·obtain⟨ad,q,k,g,j⟩:=rR D k1 fun _ ad q e z=>f _ q (a _ (.inl ⟨ad,e,rfl⟩)).1 z
   exact⟨ad.block,q,.inl ⟨ad,k,rfl⟩,g,j.trans k2⟩
  ·obtain⟨ad,q,k,g,j⟩:=rR v8 k1 fun _ ad q e z=>f _ q (a _ (.inr (.inl ⟨ad,e,rfl⟩))).1 z
   exact⟨ad.block,q,.inr (.inl ⟨ad,k,rfl⟩),g,j.trans k2⟩
  ·obtain⟨ad,q,k,g,j⟩:=rR o k1 fun _ ad q e z=>f _ q (a _ (.inr (.inr ⟨ad,e,rfl⟩))).1 z
   exact⟨ad.block,q,.inr (.inr ⟨ad,k,rfl⟩),g,j.trans k2⟩
 refine⟨p',c,⟨hb,F,fun b' C=>?_⟩,H,I,r,o,D,v8⟩;obtain⟨b,q,k,g,rfl⟩:=r b' C;obtain⟨j,J⟩:=a b k;obtain⟨K,L,M⟩:=A;exact⟨fun e=>j (h.inj b xb q K g L (e.trans M.symm)),J.over h g (f b q j g)⟩
theorem o4.spread{tt:Nat}{g:jR}{wE w w':World}{xb:Nat}{Z:List Value}{G:Array Value}{au id:Int}{p:Pz}{st hold heard spoke:Int}{pa:Option Addr}{pl pc:Nat}(h:HR ρ wE w')(y:∀b q,b≠xb→ρ b=some q→q.part=none)(k:ρ xb=some ⟨xb,some ⟨0,14,(100,tt)⟩⟩)(K:Kept g w w')(z:g xb=some ⟨xb,some ⟨0,14,(100,tt)⟩⟩)(hw:w.heap[xb]?=some (.cells (G++Z.toArray) 100 (0,0)))(r:G.size=14)(L:∀u∈Z,Pl u)(H:o4 wE xb [] au id p st hold heard spoke pa pl pc):∃(p':Pz)(f:Option Addr),o4 w' xb Z au id p' st hold heard spoke f pl pc∧p'.au=p.au∧p'.hold=p.hold∧(∀b',mQ p' f b'→∃b q,mQ p pa b∧ρ b=some q∧q.block=b')∧VR ρ (.slice pa pl pc) (.slice f pl pc)∧VR ρ (.slice p.ia p.il p.ic) (.slice p'.ia p.il p.ic)∧VR ρ (.slice p.ea p.el p.ec) (.slice p'.ea p.el p.ec):=by
 obtain⟨o,o',k1,k2,A⟩:=h.obj xb _ k;rcases A with⟨_,_,j,_⟩|⟨c,C,I,M,_,A⟩
 ·exact absurd j (by decide)
 rw[H.blk]at k1;simp only[dR]at k1;subst k1;simp only[jy]at I;obtain⟨rfl,_⟩:=I;subst M;obtain⟨U,V,O,fr,_,D,J,P,R⟩:=K.part xb _ 0 14 _ z rfl;rw[hw]at D;simp only[dR,jy]at D;obtain⟨rfl,rfl,rfl⟩:=D;have k2:w'.heap[xb]?=_:=k2;rw[J]at k2;simp only[dR,jy]at k2;obtain⟨rfl,_⟩:=k2;obtain⟨l⟩:=O;have hlen:l.length=14+Z.length:=by simp[r]at P;omega
 have hS:jW ρ (j5 au id p st hold heard spoke (.slice pa pl pc)) (l.take 14).toArray:=by
  refine⟨by simp[tC];omega,fun i v v' a b=>?_⟩;have T:i<14:=(dp.1 a).1;obtain⟨v2,r1,r2⟩:=A.get i v (by simpa using a);simp only[fR]at b r1;rw[jm T]at b;rw[dB]at r1;rw[r1]at b
  cases b
  exact r2
 have F:l.drop 14=Z:=by
  apply List.ext_getElem?;intro i;rw[jq];have:=R (14+i) (.inr (by omega));rw[gR (by omega)]at this;simp[r]at this;exact this
 refine o4.core h y ⟨_,k,rfl⟩ L H.rows hS ?_;have e:(⟨l⟩:Array Value)=(l.take 14).toArray++Z.toArray:=by
  rw[←F];simp
 rw[←e];exact J
end
theorem QL:Tryz.prog.globals.size=0:=by kernel_rfl
theorem tD:jY.base=0:=QL
structure tE (w:World) (m:Value) (E:Nat→Prop):Prop where
 rel:∀(SC:Scope)(ρ:jR),SC.base=0→(∀b,E b→ρ b=some ⟨b,none⟩)→@VR SC ρ m m
 reach:∀b,E b→Nm m b
 plain:∀b,E b→lO w b
theorem tE.row{g n c:Nat}(h:lO w g):tE w (.slice (some ⟨g,0,none⟩) n c) (fun b=>b=g) :=
 ⟨fun SC ρ hb a=>@VR.slice SC ρ _ _ n c ⟨by rw[hb];exact eI _,⟨g,none⟩,a g rfl,rfl,by simp[Place.shift],rfl⟩,fun b e=>by subst e;exact .slice _ _ _,fun b e=>by subst e;exact h⟩
open Classical in
noncomputable def ra (xb tt:Nat) (N:Nat→Prop):jR:=fun b=>if b=xb then some ⟨xb,some ⟨0,14,(100,tt)⟩⟩ else if N b then some ⟨b,none⟩ else none
theorem AM(xb tt:Nat)(N:Nat→Prop):ra xb tt N xb=some ⟨xb,some ⟨0,14,(100,tt)⟩⟩:=by simp[ra]
variable {xb tt:Nat} {N:Nat→Prop}
theorem EK(h:b≠xb)(k:N b):ra xb tt N b=some ⟨b,none⟩:=by simp[ra,h,k]
variable {q:Place}
theorem AN(h:ra xb tt N b=some q):(b=xb∧q=⟨xb,some ⟨0,14,(100,tt)⟩⟩)∨(b≠xb∧N b∧q=⟨b,none⟩):=by
 unfold ra at h;split at h
 ·rename_i e;cases h;exact .inl ⟨e,rfl⟩
 ·rename_i e;split at h
  ·rename_i k;cases h;exact .inr ⟨e,k,rfl⟩
  ·cases h
theorem EL(h:ra xb tt N b=some q):q.block=b:=by
 rcases AN h with⟨rfl,rfl⟩|⟨_,_,rfl⟩<;>rfl
def small (w:World) (xb:Nat) (S:Array Value):World:={ w with heap:=w.heap.setIfInBounds xb (.cells S 100 (0,0)) }
variable {S:Array Value}
theorem yq(h:xb<w.heap.size):(small w xb S).heap[xb]?=some (.cells S 100 (0,0)):=by
 show(w.heap.setIfInBounds xb _)[xb]?=_;rw[ff h]
theorem sD(h:b≠xb):(small w xb S).heap[b]?=w.heap[b]?:=by
 show(w.heap.setIfInBounds xb _)[b]?=_;rw[dI (dE h)]
theorem EM(w:World)(xb:Nat)(S:Array Value):(small w xb S).heap.size=w.heap.size:=by simp[small]
variable {Z:List Value} {au id st hold heard spoke:Int} {p:Pz} {pa:Option Addr} {pl pc:Nat}
theorem o4.small(h:o4 w xb Z au id p st hold heard spoke pa pl pc):o4 (j7.small w xb (j5 au id p st hold heard spoke (.slice pa pl pc))) xb [] au id p st hold heard spoke pa pl pc :=
 ⟨by rw[yq (dp.1 h.blk).1];simp,(fun u hu=>by cases hu),fun b hb=>⟨(h.rows b hb).1,(h.rows b hb).2.keep (sD (h.rows b hb).1)⟩⟩
theorem QM(h:o4 w xb Z au id p st hold heard spoke pa pl pc){E:Nat→Prop}(o:∀b,E b→b≠xb∧lO w b):@HR jY (ra xb (14+Z.length) fun b=>mQ p pa b∨E b) (j7.small w xb (j5 au id p st hold heard spoke (.slice pa pl pc))) w:=by
 refine @HR.mk jY _ _ _ (fun b q c=>?_) (fun b b' q q' c f e=>?_) (by rw[tD];exact eI _) rfl (fun e=>by cases e)
 ·rcases AN c with⟨rfl,rfl⟩|⟨g,hN,rfl⟩
  ·refine⟨_,_,yq (dp.1 h.blk).1,h.blk,.inr ⟨_,_,rfl,rfl,⟨⟨rfl,Nat.dvd_zero _⟩,by simp[tC]⟩,?_⟩⟩;have r:=@EH jY (ra b (14+Z.length) fun b=>mQ p pa b∨E b) au id p st hold heard spoke pa pl pc tD (fun ad hd=>by
    have j:mQ p pa ad.block:=by
     rcases hd with e|e|e
     ·exact .inl ⟨ad,e,rfl⟩
     ·exact .inr (.inl ⟨ad,e,rfl⟩)
     ·exact .inr (.inr ⟨ad,e,rfl⟩)
    exact EK (h.rows _ j).1 (.inl j))
   refine @rY.mk jY _ _ _ _ _ rfl (by simp[tC]) (fun i v a=>⟨v,?_,@jW.get jY _ _ _ r i v v a a⟩);rw[dB,gE (dp.1 a).1];exact a
  ·have hp:lO w b:=by
    rcases hN with hN|hN
    ·exact(h.rows b hN).2
    ·exact(o b hN).2
   obtain⟨cur,ty,fr,k,u⟩:=hp;exact⟨_,_,(sD g).trans k,k,@OR.cells jY _ _ _ _ _ (@jW.diag jY _ _ fun i v a=>@VR.pl jY _ _ (u.1 v (by have:=dw a;simpa using this)))⟩
 ·rw[EL c,EL f]at e;exact e
theorem mJ.QN[Scope]{ρ:jR}(h:HR ρ w w'){v v':Value}{xs:List Int}(hw:∀k q,v.ownBlock=some k→ρ k=some q→q.part=none)(f:VR ρ v v')(hr:mJ w v xs):mJ w' v' xs:=by
 obtain⟨c,⟨rfl,ao,rfl⟩|⟨g,rfl,r,C⟩⟩:=hr
 ·obtain⟨a',rfl⟩:=VR.vo f;exact⟨c,.inl ⟨rfl,a',rfl⟩⟩
 ·generalize y:xs.length=n at f r
  cases f with
  |mN _ _=>exact⟨0,.inl ⟨iQ y,_,rfl⟩⟩
  | @slice a a' _ _ D =>
   subst y;obtain⟨_,p,hp,z,j,A⟩:=D;have e:=hw g p rfl hp;obtain⟨b',o',s'⟩:=a';simp only at z j A;have o:p.shift=0:=by unfold Place.shift;rw[e]
   rw[o]at j;obtain rfl:b'=p.block:=z;obtain rfl:o'=0:=by simpa using j
   subst A;refine⟨c,.inr ⟨p.block,rfl,r,fun i F=>?_⟩⟩;obtain⟨u,k1,k2⟩:=h.P9 hp e (C i F);rw[k1,VR.qd k2]
end
end Go.Proofs.YtjnkcibpkkjniaaGreat.j7
namespace Go.Proofs.YtjnkcibpkkjniaaGreat
section
open Go Go.RowKit
open Go.Proofs.YtjnkcibpkkjniaaGreat.kj (kH lf nO)
end
section
open Go Go.RowKit
def tF (w:World) (sb:Nat) (pv:Value) (ins:List kC) (kM:Value):Prop :=
 (ins=[]∧∃ao cp,kM=.slice ao 0 cp)∨(∃ib io cp,kM=.slice (some ⟨ib,io,none⟩) ins.length cp∧ib<w.heap.size∧ib≠sb∧pv.ownBlock≠some ib∧pw w ib io ins)
variable {w:World} {sb:Nat} {now au id:Int} {p:Pz} {s:SV} {pv:Value}
theorem QO{q:Option Nat}{base tb:Nat}(h:lQ q w base tb sb now (.slice none 0 0) [] false false au id p s pv)(a:lV s)(c:s.st=0→pv=.slice none 0 0)(f:∀k,pv.ownBlock=some k→k<base)(g:kO now)(ao:Option Addr)(j:Nat):Calls Tryz.prog 79 #[.pointer (some ⟨tb,0,none⟩),.slice ao 0 j] w fun e w'=>(∃v,e=.returned v)∧WQ q w base tb sb now au id p (qf p.au p.hold au id now s []) w':=by
 refine OW (Pw:=fun w'=>WQ q w base tb sb now au id p (qf p.au p.hold au id now s []) w') fun w1 hB=>?_
 have o:lQ q w1 base tb sb now (.slice none 0 0) [] false false au id p s pv:=ko.below h hB;refine(Eu o a c f g []).mono ?_;rintro e w' ⟨r,u,y⟩;exact⟨r,pt.done y ((kh.below hB h.ts.lt.2.2).trans u.wide)⟩
structure EN (w0 w:World) (sb:Nat) (au id:Int) (p:Pz) (tG:Value) (x:SV×List Int×Bool) (v:Value) (pv:Value):Prop where
 s:w.heap[sb]?=some (.cells (j5 au id p x.1.st x.1.hold x.1.heard x.1.spoke pv) 100 (0,0))
 v:∃sv,v=.agg #[sv,.bool x.2.2]∧w.ownsRow w0.heap.size 5 1 sv x.2.1.length (cellsOf x.2.1)∧∀k,pv.ownBlock=some k→sv.ownBlock≠some k
 own:w.ownsRow 0 5 1 pv x.1.part.length (cellsOf x.1.part)
 pl:kS Pl w pv
 wh:∀k,pv.ownBlock=some k→k≠sb∧(w0.heap.size≤k∨tG.ownBlock=some k)
 nil:x.1.st=0→pv=.slice none 0 0
 os:w.os=w0.os
 size:w0.heap.size≤w.heap.size
 heap:∀b,b<w0.heap.size→b≠sb→tG.ownBlock≠some b→w.heap[b]?=w0.heap[b]?
theorem QP{w2 w':World}{s1:SV}{tG sv:Value}{sent:List Int}{cl ov:Bool}(j:∀k,tG.ownBlock=some k→k<w.heap.size)(D:w2.heap.size=w.heap.size+2)(o:w2.os=w.os)(y:∀b,b<w.heap.size→w2.heap[b]?=w.heap[b]?)(z:sb<w.heap.size)(g:lQ tG.ownBlock w' (w.heap.size+2) (w.heap.size+1) sb now sv sent cl ov au id p s1 pv)(h:s1.st=0→pv=.slice none 0 0)(r:kh tG.ownBlock (w.heap.size+2) (w.heap.size+1) sb w2 w')(a b:Value):EN w ((w'.setCell ⟨w.heap.size,0,none⟩ a).setCell ⟨w.heap.size,1,none⟩ b) sb au id p tG (s1,sent,cl) (.agg #[sv,.bool cl]) pv:=by
 have A:=r.size;have f:∀k,pv.ownBlock=some k→k≠sb∧k≠w.heap.size∧(w.heap.size≤k∨tG.ownBlock=some k):=fun k c=>by
  refine⟨(g.ne k c).2.2,?_⟩;rcases g.wh k c with e|e
  ·exact⟨by omega,.inl (by omega)⟩
  ·exact⟨by have:=j k e.1;omega,.inr e.1⟩
 refine⟨?_,⟨sv,rfl,Ao (lL g.ts.own fun k c=>?_) (by omega),g.mf⟩,lL g.own fun k c=>?_,g.pl.keep fun k c=>?_,fun k c=>⟨(f k c).1,(f k c).2.2⟩,h,r.os.trans o,?_,fun x hx u C=>?_⟩
 ·rw[kn (by omega),kn (by omega)];exact g.ts.s
 ·have:=(iX g.ts.own k c).1;rw[kn (by omega),kn (by omega)]
 ·have:=(f k c).2.1;rw[kn (by omega),kn (by omega)]
 ·have:=(f k c).2.1;rw[kn (by omega),kn (by omega)]
 ·simp[World.setCell];omega
 ·rw[kn (by omega),kn (by omega),r.heap x (by omega) (by omega) u C];exact y x hx
theorem QQ(K:w.heap[sb]?=some (.cells (j5 au id p s.st s.hold s.heard s.spoke pv) 100 (0,0)))(f:w.ownsRow 0 5 1 pv s.part.length (cellsOf s.part))(y:kS Pl w pv)(z:∀k,pv.ownBlock=some k→k≠sb)(h:lV s)(j:s.st=0→pv=.slice none 0 0)(O:kO now)(hid:0≤id)(A:0≤p.hold∧p.hold≤65535){ins:List kC}(hlen:ins.length≤1152921504606846976)(hb:∀x∈ins,Bytes x.d∧x.d.length≤1152921504606846976){kM:Value}(C:tF w sb pv ins kM):Calls Tryz.prog 60 #[.pointer (some ⟨sb,0,none⟩),.int .i64 now,kM] w fun e w'=>∃v D,e=.returned v∧EN w w' sb au id p pv (p9 p.au p.hold au id now s ins) v D:=by
 have F:sb<w.heap.size:=(dp.1 K).1;have a:∀k,pv.ownBlock=some k→k<w.heap.size:=fun k c=>(iX f k c).2
 have L:(((w.alloc (.cells #[.slice none 0 0,.bool false] 140)).alloc (.cells #[.pointer (some ⟨sb,0,none⟩),.int .i64 now,.slice none 0 0,.bool false,.bool false] 171)).heap.size)=w.heap.size+2:=by simp
 have W:∀o p:Obj,((w.alloc o).alloc p).heap[w.heap.size]?=some o:=fun o p=>by
  rw[Go.heap_alloc_old _ _ (by simp)];exact jl w o
 have hB:∀o p:Obj,((w.alloc o).alloc p).heap[w.heap.size+1]?=some p:=fun o p=>by
  have:=jl (w.alloc o) p;rw[iI]at this;exact this
 have g:∀(o p:Obj) b,b<w.heap.size→((w.alloc o).alloc p).heap[b]?=w.heap[b]?:=fun o p b hb=>by
  rw[Go.heap_alloc_old _ _ (by rw[iI];omega),Go.heap_alloc_old _ _ hb]
 have P:lQ pv.ownBlock ((w.alloc (.cells #[.slice none 0 0,.bool false] 140)).alloc (.cells #[.pointer (some ⟨sb,0,none⟩),.int .i64 now,.slice none 0 0,.bool false,.bool false] 171)) (w.heap.size+2) (w.heap.size+1) sb now (.slice none 0 0) [] false false au id p s pv :=
  ⟨⟨hB _ _,(g _ _ sb F).trans K,iR _ _ _ _,⟨by omega,by omega,by rw[L];exact dx _⟩,by omega⟩,by simp[j5],lL f fun k c=>g _ _ k (a k c),fun k _ e=>(by cases e),y.keep fun k c=>g _ _ k (a k c),fun k c=>.inr ⟨c,by have:=a k c;omega,z k c⟩⟩
 have X:Hid (Calls Tryz.prog 79 #[.pointer (some ⟨w.heap.size+1,0,none⟩),kM] ((w.alloc (.cells #[.slice none 0 0,.bool false] 140)).alloc (.cells #[.pointer (some ⟨sb,0,none⟩),.int .i64 now,.slice none 0 0,.bool false,.bool false] 171)) fun e w'=>(∃v,e=.returned v)∧WQ pv.ownBlock ((w.alloc (.cells #[.slice none 0 0,.bool false] 140)).alloc (.cells #[.pointer (some ⟨sb,0,none⟩),.int .i64 now,.slice none 0 0,.bool false,.bool false] 171)) (w.heap.size+2) (w.heap.size+1) sb now au id p (qf p.au p.hold au id now s ins) w'):=by
  rcases C with⟨rfl,ao,Y,rfl⟩|⟨ib,io,Y,rfl,i1,i2,i3,i4⟩
  ·exact QO P h j (fun k c=>by have:=a k c;omega) O ao Y
  ·exact Qs P h j (fun k c=>c) (fun k c=>by have:=a k c;omega) O hid A hlen hb ⟨by omega,by omega,i2,i3⟩ (i4.keep (g _ _ ib i1))
 have HA:Hid (((w.alloc (.cells #[.slice none 0 0,.bool false] 140)).alloc (.cells #[.pointer (some ⟨sb,0,none⟩),.int .i64 now,.slice none 0 0,.bool false,.bool false] 171)).heap[w.heap.size]?=_):=W _ _;have HO:Hid _:=g;have Hs:Hid _:=K;have R:Hid (_):=a;have T:pv.ownBlock≠some w.heap.size:=fun e=>by have:=a _ e;omega
 rw[Qq];generalize qf p.au p.hold au id now s ins=r at X ⊢;clear P W hB g L K f y z h j O hid A hlen hb C a;go_enter Tryz.func60,Tryz.ntmps60
 go_wp2_with (go_at_call 79;go_loud (refine X.out.mono ?_);go_loud (rintro e w' ⟨⟨v,rfl⟩,G,sv',D,ov',u,H⟩);go_loud (obtain⟨⟨d0,d1,d2,d3,d4⟩,y2,y3,y4⟩:=u.ts.facts);go_loud (obtain⟨I,J,rfl,_⟩:=p6 u.ts.own);go_loud (have M:=(G.heap w.heap.size (by omega) (by omega) (by omega) T).trans HA.out);go_loud (have q0:=jV M 0);go_loud (have q1:=jV M 1);go_loud (have p0:=kK M 0);go_loud (have p1:=kK M 1);simp at q0 q1)
 have U:=fun L V g=>QP R.out L V g F u H G (.slice I (oF r).2.1.length J) (.bool (oF r).2.2)
 have hE:=U (by simp) rfl (fun b hb=>HO.out _ _ b hb);exact iZ (v:=.agg #[.slice I (oF r).2.1.length J,.bool (oF r).2.2]) (by simp[results,Tryz.results60,go_sem,q0,q1]) rfl ⟨_,_,rfl,hE⟩
end
end Go.Proofs.YtjnkcibpkkjniaaGreat
namespace Go.Proofs.YtjnkcibpkkjniaaGreat.j7
section
open Go Go.Proofs.YtjnkcibpkkjniaaGreat
def py (w:World) (pv:Value) (xs:List Int):Prop:=w.ownsRow 0 5 1 pv xs.length (cellsOf xs)∧kS Pl w pv
theorem py.keep{w w':World}{pv:Value}{xs:List Int}(h:py w pv xs)(k:∀b,pv.ownBlock=some b→w'.heap[b]?=w.heap[b]?):py w' pv xs:=⟨lL h.1 k,h.2.keep k⟩
theorem py.nil(w:World):py w (.slice none 0 0) []:=⟨iR _ _ _ _,kS.nil _ _⟩
section
variable [Scope] {ρ:jR}
theorem py.over{w w':World}(h:HR ρ w w'){pa f:Option Addr}{pl pc:Nat}{xs:List Int}(hw:∀k q,(Value.slice pa pl pc).ownBlock=some k→ρ k=some q→q.part=none)(C:VR ρ (.slice pa pl pc) (.slice f pl pc))(hr:py w (.slice pa pl pc) xs):py w' (.slice f pl pc) xs:=by
 obtain⟨⟨D,J⟩,K⟩:=hr;rcases J with⟨e,L⟩|⟨g,c,cur,e,_,F,M,O,P,R⟩
 ·simp only[jz]at e;obtain⟨rfl,rfl,rfl⟩:=e
  cases C
  exact⟨⟨D,.inl ⟨rfl,L⟩⟩,kS.nil _ _⟩
 ·simp only[jz]at e;obtain⟨rfl,rfl,rfl⟩:=e;obtain⟨a',G,T⟩:=C.P7 fun q u=>hw g q rfl u
  simp only[jz]at G;obtain⟨rfl,_,_⟩:=G;show py w' _ xs
  ·obtain⟨_,q,u,y,a,H⟩:=T;have j:=hw g q rfl u;obtain⟨b',o',s'⟩:=a';simp only at y a H;have z:q.shift=0:=by unfold Place.shift;rw[j]
   rw[z]at a;obtain rfl:b'=q.block:=y;obtain rfl:o'=0:=by simpa using a
   subst H;have r:=K g cur 5 (0,0) rfl F;obtain⟨o,V,r1,r2,A⟩:=h.obj g q u;rw[F]at r1
   cases r1
   unfold lR at A;rw[j]at A
   cases A with
   |cells U =>
    rw[U.EJ r]at r2;refine⟨⟨D,.inr ⟨q.block,_,cur,rfl,eI _,r2,M,O,P,R⟩⟩,fun g' I ty fr y a=>?_⟩;obtain rfl:q.block=g':=by simpa[Value.ownBlock]using y
    rw[r2]at a;simp only[dR,jy]at a;obtain⟨rfl,_⟩:=a;exact r
end
def pK (p:Pz) (b:Nat):Prop:=(∃ad,p.ia=some ad∧ad.block=b)∨(∃ad,p.ea=some ad∧ad.block=b)
structure pL (w:World) (xb:Nat) (Z:List Value) (au id:Int) (p:Pz) (s:SV) (pa:Option Addr) (pl pc:Nat):Prop where
 ss:o4 w xb Z au id p s.st s.hold s.heard s.spoke pa pl pc
 row:py w (.slice pa pl pc) s.part
 sep:∀k,(Value.slice pa pl pc).ownBlock=some k→¬pK p k
variable {p:Pz} {pa:Option Addr} {pl pc:Nat}
theorem tH{k:Nat}(h:(Value.slice pa pl pc).ownBlock=some k):mQ p pa k:=by
 cases pa with
 |none=>cases h
 |some ad=>exact .inr (.inr ⟨ad,rfl,by simpa[Value.ownBlock]using h⟩)
theorem pL.keep{w w':World}{xb:Nat}{Z:List Value}{au id:Int}{p:Pz}{s:SV}{pa:Option Addr}{pl pc:Nat}(h:pL w xb Z au id p s pa pl pc)(k:∀b,b=xb∨mQ p pa b→w'.heap[b]?=w.heap[b]?):pL w' xb Z au id p s pa pl pc :=
 ⟨h.ss.keep k,h.row.keep (fun b hb=>k b (.inr (tH hb))),h.sep⟩
theorem pL.small{w:World}{xb:Nat}{Z:List Value}{au id:Int}{p:Pz}{s:SV}{pa:Option Addr}{pl pc:Nat}(h:pL w xb Z au id p s pa pl pc):pL (j7.small w xb (j5 au id p s.st s.hold s.heard s.spoke (.slice pa pl pc))) xb [] au id p s pa pl pc :=
 ⟨h.ss.small,h.row.keep (fun b hb=>sD (h.ss.rows b (tH hb)).1),h.sep⟩
def AO (xb:Nat) (Z:List Value) (au id A H:Int) (x:SV×List Int×Bool) (v:Value) (w:World):Prop :=
 ∃(p:Pz)(pa:Option Addr)(pl pc:Nat),pL w xb Z au id p x.1 pa pl pc∧p.au=A∧p.hold=H∧(x.1.st=0→(Value.slice pa pl pc)=.slice none 0 0)∧∃sv,v=.agg #[sv,.bool x.2.2]∧mJ w sv x.2.1∧(∃a l c,sv=.slice a l c)∧∀k,sv.ownBlock=some k→k≠xb
variable {w:World}
theorem QR{base:Nat}{sv:Value}{xs:List Int}(h:w.ownsRow base 5 1 sv xs.length (cellsOf xs)):mJ w sv xs:=by
 obtain⟨r,a⟩:=h;rcases a with⟨rfl,e⟩|⟨g,c,cur,rfl,_,f,j,u,y,k⟩
 ·exact⟨0,.inl ⟨iQ e,none,rfl⟩⟩
 ·refine⟨c,.inr ⟨g,rfl,j,fun i o=>?_⟩⟩;have e:cur[i]?=some (.int .u8 xs[i]):=by
   have:(cur.toList.take (xs.length*1))[i]?=(cellsOf xs)[i]?:=by rw[k]
   rw[jm (by omega)]at this;rw[←jA,this];simp[cellsOf,jf o]
  show w.cell? _=_;rw[jV f i];exact e
variable {xb:Nat} {au id now:Int} {ins:List kC} {m:Value}
theorem QS{s:SV}(h:pL w xb [] au id p s pa pl pc)(D:lV s)(F:s.st=0→(Value.slice pa pl pc)=.slice none 0 0)(M:kO now)(hid:0≤id)(G:0≤p.hold∧p.hold≤65535)(hlen:ins.length≤1152921504606846976)(hb:∀x∈ins,Bytes x.d∧x.d.length≤1152921504606846976)(H:tF w xb (.slice pa pl pc) ins m):Calls Tryz.prog 60 #[.pointer (some ⟨xb,0,none⟩),.int .i64 now,m] w fun e w'=>∃v,e=.returned v∧AO xb [] au id p.au p.hold (p9 p.au p.hold au id now s ins) v w':=by
 have j:=h.ss.blk;simp at j;refine(QQ j h.row.1 h.row.2 (fun k y=>(h.ss.rows k (tH y)).1) D F M hid G hlen hb H).mono ?_;rintro e w' ⟨v,O,rfl,f⟩;generalize p9 p.au p.hold au id now s ins=x at f ⊢;obtain⟨ao,c,rfl,_⟩:=p6 f.own;obtain⟨sv,rfl,z,J⟩:=f.v;obtain⟨P,c2,rfl,I⟩:=p6 z;have R:xb<w.heap.size:=(dp.1 j).1;have A:∀k,(Value.slice ao x.1.part.length c).ownBlock=some k→¬pK p k:=fun k y o=>by
  rcases(f.wh k y).2 with e|e
  ·have:mQ p pa k:=by
    rcases o with e|e
    ·exact .inl e
    ·exact .inr (.inl e)
   obtain⟨_,cur,ty,fr,C,_⟩:=h.ss.rows k this;have:=(dp.1 C).1;omega
  ·exact h.sep k e o
 refine⟨_,rfl,p,ao,_,c,⟨⟨by simpa using f.s,(fun u hu=>by cases hu),fun b hb=>?_⟩,⟨f.own,f.pl⟩,A⟩,rfl,rfl,f.nil,_,rfl,QR z,⟨_,_,_,rfl⟩,fun k y=>by have:=I k y;omega⟩
 by_cases a:(Value.slice ao x.1.part.length c).ownBlock=some b
 ·refine⟨(f.wh b a).1,?_⟩;rcases f.own.2 with⟨e,_⟩|⟨g,U,cur,e,_,K,_⟩
  ·rw[e]at a;cases a
  ·have r:=a;rw[e]at r;obtain rfl:g=b:=by simpa[Value.ownBlock]using r
   exact⟨cur,5,(0,0),K,f.pl g cur 5 (0,0) a K,rfl⟩
 ·have o:pK p b:=by
   rcases hb with hb|hb|⟨ad,rfl,e⟩
   ·exact .inl hb
   ·exact .inr hb
   ·exact absurd (by simpa[Value.ownBlock]using e) a
  have hold:mQ p pa b:=by
   rcases o with e|e
   ·exact .inl e
   ·exact .inr (.inl e)
  obtain⟨L,cur,ty,fr,C,T⟩:=h.ss.rows b hold;exact⟨L,cur,ty,fr,(f.heap b (dp.1 C).1 L fun e=>h.sep b e o).trans C,T⟩
section
variable [Scope] {ρ:jR}
theorem EO{w w':World}(h:HR ρ w w'){p p':Pz}{pa a:Option Addr}{pl pc:Nat}(g:VR ρ (.slice pa pl pc) (.slice a pl pc))(F:VR ρ (.slice p.ia p.il p.ic) (.slice p'.ia p.il p.ic))(v8:VR ρ (.slice p.ea p.el p.ec) (.slice p'.ea p.el p.ec))(z:∀k,(Value.slice pa pl pc).ownBlock=some k→¬pK p k)(c:Scope.sync=false):∀k,(Value.slice a pl pc).ownBlock=some k→¬pK p' k:=by
 intro k A G
 cases a with
 |none=>cases A
 |some j =>
  obtain⟨ad,q,rfl,C,D⟩:=rR g rfl (fun e=>by rw[c]at e;cases e);have hb:j.block=k:=by simpa[Value.ownBlock]using A
  rcases G with⟨o,r,u⟩|⟨o,r,u⟩
  ·obtain⟨f,q',r1,r2,y⟩:=rR F r (fun e=>by rw[c]at e;cases e);exact z ad.block rfl (.inl ⟨f,r1,(h.inj _ _ _ _ r2 C (y.trans (u.trans (hb.symm.trans D.symm))))⟩)
  ·obtain⟨f,q',r1,r2,y⟩:=rR v8 r (fun e=>by rw[c]at e;cases e);exact z ad.block rfl (.inr ⟨f,r1,(h.inj _ _ _ _ r2 C (y.trans (u.trans (hb.symm.trans D.symm))))⟩)
theorem pL.spread{tt:Nat}{f:jR}{wE w w':World}{xb:Nat}{Z:List Value}{A:Array Value}{au id:Int}{p:Pz}{s:SV}{pa:Option Addr}{pl pc:Nat}(h:HR ρ wE w')(g:∀b q,b≠xb→ρ b=some q→q.part=none)(j:ρ xb=some ⟨xb,some ⟨0,14,(100,tt)⟩⟩)(r:Kept f w w')(y:f xb=some ⟨xb,some ⟨0,14,(100,tt)⟩⟩)(hw:w.heap[xb]?=some (.cells (A++Z.toArray) 100 (0,0)))(z:A.size=14)(D:∀u∈Z,Pl u)(o:pL wE xb [] au id p s pa pl pc):∃(p':Pz)(a:Option Addr),pL w' xb Z au id p' s a pl pc∧p'.au=p.au∧p'.hold=p.hold∧(∀b',mQ p' a b'→∃b q,mQ p pa b∧ρ b=some q∧q.block=b')∧VR ρ (.slice pa pl pc) (.slice a pl pc):=by
 obtain⟨p',a,k1,k2,F,G,c,H,v8⟩:=o4.spread h g j r y hw z D o.ss;exact⟨p',a,⟨k1,py.over h (fun k q r I=>g k q (o.ss.rows k (tH r)).1 I) c o.row,EO h c H v8 o.sep (by
  cases e:Scope.sync with
  |false=>rfl
  |true=>rcases(h.sync e).2 _ _ j with C|⟨ty,C⟩<;>cases C)⟩,k2,F,G,c⟩
theorem EP{pa a:Option Addr}{pl pc:Nat}(v:VR ρ (.slice pa pl pc) (.slice a pl pc))(h:(Value.slice pa pl pc)=.slice none 0 0):(Value.slice a pl pc)=.slice none 0 0:=by
 simp only[jz]at h;obtain⟨rfl,rfl,rfl⟩:=h
 cases v
 rfl
theorem ET{w w':World}(h:HR ρ w w'){sv v':Value}{cl:Bool}{sent:List Int}{xb:Nat}{z:Place}(hx:ρ xb=some z)(j:∀b q,b≠xb→ρ b=some q→q.part=none)(o:mJ w sv sent)(A:∃a l c,sv=.slice a l c)(g:∀k,sv.ownBlock=some k→k≠xb)(H:VR ρ (.agg #[sv,.bool cl]) v'):∃a' l c,v'=.agg #[.slice a' l c,.bool cl]∧mJ w' (.slice a' l c) sent∧∀k,(Value.slice a' l c).ownBlock=some k→k≠z.block:=by
 obtain⟨a,l,c,rfl⟩:=A
 cases H with
 | @agg _ ys r f =>
  have G:=f 0 _ _ rfl (dq (by simp at r;omega));have I:=VR.AG (f 1 (.bool cl) _ rfl (dq (by simp at r;omega)));obtain⟨a',J⟩:=VR.vo G;have C:ys=#[.slice a' l c,.bool cl]:=by
   apply dJ;intro i
   match i with
   |0=>rw[dq (by simp at r;omega),J];rfl
   |1=>rw[dq (by simp at r;omega),I];rfl
   |i+2=>rw[fD (by simp at r;omega),fD (by simp)]
  subst C;have u:VR ρ (.slice a l c) (.slice a' l c):=G;refine⟨a',l,c,rfl,mJ.QN h (fun k q y D=>j k q (g k y) D) u o,fun k y e=>?_⟩
  cases a' with
  |none=>cases y
  |some F =>
   obtain⟨ad,q,K,L,M⟩:=rR u rfl (fun _ ad q e D=>j _ q (g ad.block (by rw[e];rfl)) D);subst K;have hb:F.block=k:=by simpa[Value.ownBlock]using y
   exact g ad.block rfl (h.inj ad.block xb q z L hx (M.trans (hb.trans e)))
end
theorem _root_.Go.Proofs.YtjnkcibpkkjniaaGreat.tF.keep{w w':World}{sb:Nat}{pv:Value}{ins:List kC}{kM:Value}(h:tF w sb pv ins kM)(e:w'.heap=w.heap):tF w' sb pv ins kM:=by
 rcases h with h|⟨ib,io,a,rfl,i1,i2,i3,i4⟩
 ·exact .inl h
 ·exact .inr ⟨ib,io,a,rfl,by rw[e];exact i1,i2,i3,i4.keep (by rw[e])⟩
variable {Z:List Value}
theorem QT{s:SV}(h:pL w xb Z au id p s pa pl pc)(G:lV s)(H:s.st=0→(Value.slice pa pl pc)=.slice none 0 0)(hn:kO now)(hid:0≤id)(I:0≤p.hold∧p.hold≤65535)(hlen:ins.length≤1152921504606846976)(hb:∀x∈ins,Bytes x.d∧x.d.length≤1152921504606846976){E:Nat→Prop}(X:tE w m E)(Y:∀b,E b→b≠xb)(J:tF (j7.small w xb (j5 au id p s.st s.hold s.heard s.spoke (.slice pa pl pc))) xb (.slice pa pl pc) ins m)(w1:World)(e1:w1.heap=w.heap)(e2:w1.os=w.os):Calls Tryz.prog 60 #[.pointer (some ⟨xb,0,none⟩),.int .i64 now,m] w1 fun e w'=>∃v,e=.returned v∧AO xb Z au id p.au p.hold (p9 p.au p.hold au id now s ins) v w'∧w'.os=w.os:=by
 have g:=QM h.ss (E:=E) fun b hb=>⟨Y b hb,X.plain b hb⟩
 have hh:@HR jY (ra xb (14+Z.length) fun b=>mQ p pa b∨E b) (j7.small w xb (j5 au id p s.st s.hold s.heard s.spoke (.slice pa pl pc))) w1:=by
  refine @HR.mk jY _ _ _ (fun b q K=>?_) (@HR.inj jY _ _ _ g) (@HR.base jY _ _ _ g) (by rw[e2];exact @HR.os jY _ _ _ g) (fun e=>by cases e);rw[e1];exact @HR.obj jY _ _ _ g b q K
 have j:@jW jY (ra xb (14+Z.length) fun b=>mQ p pa b∨E b) #[.pointer (some ⟨xb,0,none⟩),.int .i64 now,m] #[.pointer (some ⟨xb,0,none⟩),.int .i64 now,m]:=by
  refine @jW.diag jY _ _ fun i v a=>?_
  match i,a with
  |0,a=>simp at a;subst a;exact @VR.ptr jY _ _ _ ⟨by rw[tD];exact eI _,_,AM _ _ _,rfl,rfl,rfl⟩
  |1,a=>simp at a;subst a;exact @VR.int jY _ _ _
  |2,a=>simp at a;subst a;exact X.rel jY _ tD fun b hb=>EK (Y b hb) (.inr hb)
  |i+3,a=>simp at a
 have r:∀T,tF { j7.small w xb (j5 au id p s.st s.hold s.heard s.spoke (.slice pa pl pc))with tape:=T,drawn:=0 } xb (.slice pa pl pc) ins m:=fun T=>J.keep rfl
 have f:=@QK jY Tryz.prog CX CW _ _ (by show jY.ok _=true;kernel_rfl) _ _ j _ _ hh _ (fun T=>QS (w:={ j7.small w xb (j5 au id p s.st s.hold s.heard s.spoke (.slice pa pl pc))with tape:=T,drawn:=0 }) (h.small.keep fun _ _=>rfl) G H hn hid I hlen hb (r T));generalize p9 p.au p.hold au id now s ins=x at f ⊢;refine f.mono ?_;rintro e w' ⟨v,v',wE,ρ',rfl,⟨p1,L,u,y,hS,hA,hH,z,sv,rfl,A,M,O⟩,C,a,hg,hk⟩;have hx:ρ' xb=some ⟨xb,some ⟨0,14,(100,14+Z.length)⟩⟩:=hg.le _ _ (AM _ _ _);have D:∀b q,b≠xb→ρ' b=some q→q.part=none:=fun b q hb K=>by
  rcases hg.new b q K with k|k
  ·rcases AN k with⟨e,_⟩|⟨_,_,rfl⟩
   ·exact absurd e hb
   ·rfl
  ·exact k.1
 obtain⟨p2,P,R,U,V,_,W⟩:=@pL.spread jY ρ' _ _ wE w1 w' xb Z _ au id p1 x.1 L u y C D hx hk (AM _ _ _) (by rw[e1];exact h.ss.blk) (tC _ _ _ _ _ _ _ _) h.ss.spare hS;obtain⟨a',l,c,rfl,o,F⟩:=@ET jY ρ' _ _ C _ _ _ _ xb _ hx D A M O a;exact⟨_,rfl,⟨p2,P,u,y,R,U.trans hA,V.trans hH,fun e=>@EP jY _ _ _ _ _ W (z e),_,rfl,o,⟨a',l,c,rfl⟩,F⟩,(@Kept.os jY _ _ _ hk).trans e2⟩
theorem QU:jY.cells 100=14:=by kernel_rfl
structure SD where
 p:Pz
 s:SV
 pa:Option Addr
 pl:Nat
 pc:Nat
def SD.v (d:SD):Value:=.slice d.pa d.pl d.pc
def SD.cells (au id:Int) (d:SD):Array Value:=j5 au id d.p d.s.st d.s.hold d.s.heard d.s.spoke d.v
def SD.nm (d:SD) (b:Nat):Prop:=mQ d.p d.pa b
theorem SD.size(au id:Int)(d:SD):(d.cells au id).size=14:=rfl
def oq (n:Nat) (Z:List Value) (i:Nat):List Value:=if i+1=n then Z else []
variable {n:Nat}
theorem QV(h:∀u∈Z,Pl u)(i:Nat):∀u∈oq n Z i,Pl u:=fun u hu=>by
 unfold oq at hu;split at hu
 ·exact h u hu
 ·cases hu
theorem wY{i:Nat}(a:i<n):14*i+(14+(oq n Z i).length)≤14*n+Z.length∧(i+1≠n→(oq n Z i).length=0)∧(i+1=n→14*i+(14+(oq n Z i).length)=14*n+Z.length):=by
 unfold oq;split
 ·exact⟨by omega,by omega,by omega⟩
 ·exact⟨by simp;omega,fun _=>rfl,by omega⟩
structure Flat (C:Array Value) (n:Nat) (Z:List Value) (au id:Int) (d:Nat→SD):Prop where
 size:C.size=14*n+Z.length
 at_:∀i,i<n→∀j,j<14→C[14*i+j]?=((d i).cells au id)[j]?
 z:∀j,C[14*n+j]?=Z[j]?
structure nR (w:World) (xb n:Nat) (Z:List Value) (au id:Int) (d:Nat→SD):Prop where
 blk:∃C,w.heap[xb]?=some (.cells C 100 (0,0))∧Flat C n Z au id d
 spare:∀u∈Z,Pl u
 rows:∀i,i<n→∀b,(d i).nm b→b≠xb∧lO w b
 row:∀i,i<n→py w (d i).v (d i).s.part
 sep:∀i,i<n→∀k,(d i).v.ownBlock=some k→¬pK (d i).p k
 apart:∀i i',i<n→i'<n→i≠i'→∀b,(d i).nm b→¬(d i').nm b
theorem nR.lt{w:World}{xb n:Nat}{Z:List Value}{au id:Int}{d:Nat→SD}(h:nR w xb n Z au id d):xb<w.heap.size:=by
 obtain⟨C,a,_⟩:=h.blk;exact(dp.1 a).1
theorem nR.keep{w w':World}{xb n:Nat}{Z:List Value}{au id:Int}{d:Nat→SD}(h:nR w xb n Z au id d)(k:∀b,(b=xb∨∃i,i<n∧(d i).nm b)→w'.heap[b]?=w.heap[b]?):nR w' xb n Z au id d:=by
 obtain⟨C,c,e⟩:=h.blk;exact⟨⟨C,(k xb (.inl rfl)).trans c,e⟩,h.spare,fun i a b hb=>⟨(h.rows i a b hb).1,(h.rows i a b hb).2.keep (k b (.inr ⟨i,a,hb⟩))⟩,fun i a=>(h.row i a).keep fun b hb=>k b (.inr ⟨i,a,tH hb⟩),h.sep,h.apart⟩
def uE (w:World) (xb n:Nat) (Z:List Value) (au id:Int) (d:Nat→SD) (i:Nat):World:=j7.small w xb ((d i).cells au id++(oq n Z i).toArray)
open Classical in
noncomputable def tI (xb s l tt:Nat) (N:Nat→Prop):jR:=fun b=>if b=xb then some ⟨xb,some ⟨s,l,(100,tt)⟩⟩ else if N b then some ⟨b,none⟩ else none
theorem wZ(xb s l tt:Nat)(N:Nat→Prop):tI xb s l tt N xb=some ⟨xb,some ⟨s,l,(100,tt)⟩⟩:=by simp[tI]
variable {s l tt b:Nat} {N:Nat→Prop}
theorem EU(h:b≠xb)(k:N b):tI xb s l tt N b=some ⟨b,none⟩:=by simp[tI,h,k]
variable {q:Place}
theorem sE(h:tI xb s l tt N b=some q):(b=xb∧q=⟨xb,some ⟨s,l,(100,tt)⟩⟩)∨(b≠xb∧N b∧q=⟨b,none⟩):=by
 unfold tI at h;split at h
 ·rename_i e;cases h;exact .inl ⟨e,rfl⟩
 ·rename_i e;split at h
  ·rename_i k;cases h;exact .inr ⟨e,k,rfl⟩
  ·cases h
theorem EV(h:tI xb s l tt N b=some q):q.block=b:=by
 rcases sE h with⟨rfl,rfl⟩|⟨_,_,rfl⟩<;>rfl
noncomputable def re (xb n:Nat) (Z:List Value) (d:Nat→SD) (E:Nat→Nat→Prop) (i:Nat):jR:=tI xb (14*i) (14+(oq n Z i).length) (14*n+Z.length) fun b=>(d i).nm b∨E i b
section
variable {w:World} {xb n:Nat} {Z:List Value} {au id:Int} {d:Nat→SD}
theorem nR.QW(h:nR w xb n Z au id d){i:Nat}(a:i<n):pL (uE w xb n Z au id d i) xb (oq n Z i) au id (d i).p (d i).s (d i).pa (d i).pl (d i).pc :=
 ⟨⟨yq h.lt,QV h.spare i,fun b hb=>⟨(h.rows i a b hb).1,(h.rows i a b hb).2.keep (sD (h.rows i a b hb).1)⟩⟩,(h.row i a).keep fun b hb=>sD (h.rows i a b (tH hb)).1,h.sep i a⟩
theorem nR.hr(h:nR w xb n Z au id d){E:Nat→Nat→Prop}{i:Nat}(g:i<n)(F:∀b,E i b→b≠xb∧lO w b):@HR jY (re xb n Z d E i) (uE w xb n Z au id d i) w:=by
 refine @HR.mk jY _ _ _ (fun b q k=>?_) (fun b b' q q' k o e=>?_) (by rw[tD];exact eI _) rfl (fun e=>by cases e)
 ·rcases sE k with⟨rfl,rfl⟩|⟨f,hN,rfl⟩
  ·obtain⟨C,hC,hF⟩:=h.blk;have r:=(wY (Z:=Z) g).1;refine⟨_,_,yq h.lt,hC,.inr ⟨_,_,rfl,rfl,⟨⟨rfl,by rw[QU];exact Nat.dvd_mul_right _ _⟩,hF.size⟩,?_⟩⟩;have G:=@EH jY (re b n Z d E i) au id (d i).p (d i).s.st (d i).s.hold (d i).s.heard (d i).s.spoke (d i).pa (d i).pl (d i).pc tD (fun ad hd=>by
    have y:(d i).nm ad.block:=by
     rcases hd with e|e|e
     ·exact .inl ⟨ad,e,rfl⟩
     ·exact .inr (.inl ⟨ad,e,rfl⟩)
     ·exact .inr (.inr ⟨ad,e,rfl⟩)
    exact EU (h.rows i g _ y).1 (.inl y))
   refine @rY.mk jY _ _ _ _ _ (by simp[SD.size]) (by rw[hF.size];exact r) (fun j v c=>?_)
   by_cases A:j<14
   ·rw[gE (by rw[SD.size];exact A)]at c;exact⟨v,(hF.at_ i g j A).trans c,@jW.get jY _ _ _ G j v v c c⟩
   ·rw[gR (by rw[SD.size];omega),SD.size]at c;have a:(oq n Z i)[j-14]?=some v:=by simpa using c
    have u:i+1=n:=by
     refine Decidable.byContradiction fun f=>?_
     unfold oq at a;rw[dk f]at a;simp at a
    have H:oq n Z i=Z:=by unfold oq;rw[dj u]
    rw[H]at a;have:=hF.z (j-14);rw[show 14*n+(j-14)=14*i+j by omega,a]at this;exact⟨v,this,@VR.pl jY _ _ (h.spare v (gn a))⟩
  ·have hp:lO w b:=by
    rcases hN with hN|hN
    ·exact(h.rows i g b hN).2
    ·exact(F b hN).2
   obtain⟨cur,ty,fr,D,I⟩:=hp;exact⟨_,_,(sD f).trans D,D,@OR.cells jY _ _ _ _ _ (@jW.diag jY _ _ fun i v c=>@VR.pl jY _ _ (I.1 v (by have:=dw c;simpa using this)))⟩
 ·rw[EV k,EV o]at e;exact e
end
end
section
open Go Go.Proofs.YtjnkcibpkkjniaaGreat Go.Proofs.YtjnkcibpkkjniaaGreat.kj
variable {w:World} {xb n:Nat} {Z:List Value} {au id:Int} {d:Nat→SD} {E:Nat→Nat→Prop}
theorem nR.pW(h:nR w xb n Z au id d)(F:0<n)(G:∀i,i<n→∀b,E i b→b≠xb)(u:∀i i',i<n→i'<n→i≠i'→∀b,E i b→¬E i' b)(k:∀i i',i<n→i'<n→∀b,E i b→¬(d i').nm b):x6 n (re xb n Z d E):=by
 refine⟨fun i i' g a f b p b' p' hb o e=>?_,fun i g b pl s l ty hb hp j z=>?_⟩
 ·rcases sE hb with⟨rfl,rfl⟩|⟨k1,k2,rfl⟩
  ·rcases sE o with⟨rfl,rfl⟩|⟨r,c,rfl⟩
   ·refine⟨_,_,rfl,rfl,?_⟩;have A:=wY (Z:=Z) g;have C:=wY (Z:=Z) a;rcases Nat.lt_or_gt_of_ne f with y|y
    ·left;have:=A.2.1 (by omega);simp only;omega
    ·right;have:=C.2.1 (by omega);simp only;omega
   ·exact absurd e.symm r
  ·rcases sE o with⟨rfl,rfl⟩|⟨r,c,rfl⟩
   ·exact absurd e k1
   ·obtain rfl:b=b':=e;rcases k2 with k2|k2<;>rcases c with c|c
    ·exact absurd c (h.apart i i' g a f b k2)
    ·exact absurd k2 (k i' i a g b c)
    ·exact absurd c (k i i' g a b k2)
    ·exact absurd c (u i i' g a f b k2)
 ·rcases sE hb with⟨rfl,rfl⟩|⟨k1,k2,rfl⟩
  ·simp only[dR,Span.mk.injEq]at hp;obtain⟨rfl,rfl,rfl⟩:=hp;simp only at z
   by_cases D:j<14*n
   ·have a:j / 14<n:=by omega
    exact⟨j / 14,a,b,_,_,_,_,wZ _ _ _ _ _,rfl,rfl,by omega,by omega⟩
   ·have a:n-1<n:=by omega
    have:=(wY (Z:=Z) a).2.2 (by omega);exact⟨n-1,a,b,_,_,_,_,wZ _ _ _ _ _,rfl,rfl,by omega,by omega⟩
  ·cases hp
def JR (xb n:Nat) (Z:List Value) (au id:Int) (os:World) (d:Nat→SD) (x:Nat→SV×List Int×Bool) (i:Nat) (v:Value) (w:World):Prop :=
 AO xb (oq n Z i) au id (d i).p.au (d i).p.hold (x i) v w∧w.os=os.os
structure AP (w:World) (xb n:Nat) (Z:List Value) (au id:Int) (A H:Int) (x:SV×List Int×Bool) (i:Nat) (ρ:jR) (v:Value) (e:SD):Prop where
 cells:∀C,w.heap[xb]?=some (.cells C 100 (0,0))→(∀j,j<14→C[14*i+j]?=(e.cells au id)[j]?)∧(i+1=n→∀j,C[14*n+j]?=Z[j]?)
 blk:∃C,w.heap[xb]?=some (.cells C 100 (0,0))∧C.size=14*n+Z.length
 s:e.s=x.1
 au:e.p.au=A
 hold:e.p.hold=H
 nil:x.1.st=0→e.v=.slice none 0 0
 rows:∀b,e.nm b→b≠xb∧lO w b
 row:py w e.v e.s.part
 sep:∀k,e.v.ownBlock=some k→¬pK e.p k
 AQ:∀b,e.nm b→∃y q,ρ y=some q∧q.part=none∧q.block=b
 rep:∃a l c,v=.agg #[.slice a l c,.bool x.2.2]∧mJ w (.slice a l c) x.2.1
variable {w' os:World} {x:Nat→SV×List Int×Bool}
theorem QX(h:nR w xb n Z au id d){i:Nat}(hi:i<n){ρ:jR}(hle:(re xb n Z d E i).le ρ)(M:∀b q,ρ b=some q→re xb n Z d E i b=some q∨q.part=none){vS v:Value}{wE:World}(hR:JR xb n Z au id os d x i vS wE)(K:@HR jY ρ wE w')(hv:@VR jY ρ vS v):∃e,AP w' xb n Z au id (d i).p.au (d i).p.hold (x i) i ρ v e:=by
 obtain⟨⟨W,F,g,r,hS,hA,hH,O,sv,rfl,P,X,Y⟩,_⟩:=hR;have hx:ρ xb=some ⟨xb,some ⟨14*i,14+(oq n Z i).length,(100,14*n+Z.length)⟩⟩:=hle _ _ (wZ _ _ _ _ _);have y:∀b q,b≠xb→ρ b=some q→q.part=none:=fun b q hb hq=>by
  rcases M b q hq with k|k
  ·rcases sE k with⟨e,_⟩|⟨_,_,rfl⟩
   ·exact absurd e hb
   ·rfl
  ·exact k
 obtain⟨a',l,c,rfl,G,_⟩:=@ET jY ρ _ _ K _ _ _ _ xb _ hx y P X Y hv;obtain⟨o,o',k1,k2,U⟩:=@HR.obj jY _ _ _ K xb _ hx;rcases U with⟨j,_⟩|⟨c0,C,V,e2,⟨_,hsz⟩,U⟩
 ·exact Bool.noConfusion (show false=true from j)
 rw[hS.ss.blk]at k1;simp only[dR]at k1;subst k1;simp only[jy]at V;obtain⟨rfl,_⟩:=V;subst e2;have k2:w'.heap[xb]?=_:=k2;have ae:=wY (Z:=Z) hi;simp only at hsz;have aa:@jW jY ρ (j5 au id W (x i).1.st (x i).1.hold (x i).1.heard (x i).1.spoke (.slice F g r)) (C.extract (14*i) (14*i+14)):=by
  refine @jW.mk jY _ _ _ (by simp[tC];omega) (fun j u u' a b=>?_);have L:j<14:=(dp.1 a).1;obtain⟨u2,r1,r2⟩:=@rY.get jY _ _ _ _ _ U j u (by rw[gE (by rw[tC];exact L)];exact a);rw[Array.getElem?_extract_of_lt (by omega)]at b;have b2:C[14*i+j]?=some u':=by rw[dq (by omega)];exact b
  rw[r1]at b2
  cases b2
  exact r2
 obtain⟨p',H,hC,V,e2,v7,v8,z⟩:=@EI jY ρ _ _ _ _ _ _ _ _ _ _ _ aa;have R:∀b',mQ p' H b'→∃b q,mQ W F b∧ρ b=some q∧q.block=b':=by
  rintro b' (⟨T,k1,k2⟩|⟨T,k1,k2⟩|⟨T,k1,k2⟩)
  ·obtain⟨ad,q,A,f,D⟩:=@rR jY _ _ _ _ _ _ v7 k1 (fun e=>Bool.noConfusion (show false=true from e));exact⟨ad.block,q,.inl ⟨ad,A,rfl⟩,f,D.trans k2⟩
  ·obtain⟨ad,q,A,f,D⟩:=@rR jY _ _ _ _ _ _ v8 k1 (fun e=>Bool.noConfusion (show false=true from e));exact⟨ad.block,q,.inr (.inl ⟨ad,A,rfl⟩),f,D.trans k2⟩
  ·obtain⟨ad,q,A,f,D⟩:=@rR jY _ _ _ _ _ _ z k1 (fun e=>Bool.noConfusion (show false=true from e));exact⟨ad.block,q,.inr (.inr ⟨ad,A,rfl⟩),f,D.trans k2⟩
 refine⟨⟨p',(x i).1,H,g,r⟩,?_⟩;refine⟨fun C' I=>?_,⟨C,k2,hsz⟩,rfl,V.trans hA,e2.trans hH,fun e=>@EP jY _ _ _ _ _ z (O e),fun b' J=>?_,@py.over jY ρ _ _ K _ _ _ _ _ (fun k q hk hq=>y k q (hS.ss.rows k (tH hk)).1 hq) z hS.row,@EO jY ρ _ _ K _ _ _ _ _ _ z v7 v8 hS.sep rfl,fun b' J=>?_,⟨a',l,c,rfl,G⟩⟩
 ·rw[k2]at I;simp only[dR,jy]at I;obtain⟨rfl,_⟩:=I;refine⟨fun j L=>?_,fun ab j=>?_⟩
  ·show _=(j5 au id p' (x i).1.st (x i).1.hold (x i).1.heard (x i).1.spoke (.slice H g r))[j]?;rw[←hC,Array.getElem?_extract_of_lt (by omega),dq (by omega)]
  ·have hz:oq n Z i=Z:=by unfold oq;rw[dj ab]
   by_cases L:j<Z.length
   ·have e:(j5 au id W (x i).1.st (x i).1.hold (x i).1.heard (x i).1.spoke (.slice F g r)++(oq n Z i).toArray)[14+j]?=some Z[j]:=by
     rw[gR (by rw[tC];omega),hz];simp[tC,jf L]
    obtain⟨u2,r1,r2⟩:=@rY.get jY _ _ _ _ _ U (14+j) _ e;rw[show 14*i+(14+j)=14*n+j by omega]at r1;rw[r1,jf L,@VR.EG jY _ _ _ (h.spare _ (jg L)) r2]
   ·rw[List.getElem?_eq_none (by omega),fD (by omega)]
 ·obtain⟨b,q,A,f,rfl⟩:=R b' J;obtain⟨D,q4⟩:=hS.ss.rows b A;exact⟨fun e=>D (@HR.inj jY _ _ _ K b xb q _ f hx e),@lO.over jY ρ _ _ K _ _ f (y b q D f) q4⟩
 ·obtain⟨b,q,A,f,rfl⟩:=R b' J;exact⟨b,q,f,y b q (hS.ss.rows b A).1 f,rfl⟩
theorem QY{p:kj.WI}(h:nR w xb n Z au id d)(r:p.xl=n)(u:0<n){v:Nat→Value}{I:Nat→Prop}(hp:zX p (re xb n Z d E) (JR xb n Z au id os d x) v w' I):∃d',nR w' xb n Z au id d'∧(∀i,i<n→(d' i).s=(x i).1∧(d' i).p.au=(d i).p.au∧(d' i).p.hold=(d i).p.hold∧((x i).1.st=0→(d' i).v=.slice none 0 0))∧(∀i,i<n→∃a l c,v i=.agg #[.slice a l c,.bool (x i).2.2]∧mJ w' (.slice a l c) (x i).2.1)∧(∀i,i<n→∀b,(d' i).nm b→I b)∧I xb:=by
 subst r;obtain⟨ρ',J,hI,g⟩:=hp;have z:∀i,i<p.xl→∃e,AP w' xb p.xl Z au id (d i).p.au (d i).p.hold (x i) i (ρ' i) (v i) e:=fun i f=>by
  obtain⟨hle,k,T,wE,K,L,M⟩:=g i f;exact QX h f hle k K L M
 let d':Nat→SD:=fun i=>if f:i<p.xl then Classical.choose (z i f) else d i
 have hd:∀i,i<p.xl→AP w' xb p.xl Z au id (d i).p.au (d i).p.hold (x i) i (ρ' i) (v i) (d' i):=fun i f=>by
  have e:d' i=Classical.choose (z i f):=by show(if f:i<p.xl then _ else _)=_;rw[dif_pos f]
  rw[e];exact jB (z i f)
 obtain⟨C,hC,hsz⟩:=(hd 0 u).blk;refine⟨d',⟨⟨C,hC,hsz,fun i f j O=>((hd i f).cells C hC).1 j O,fun j=>((hd (p.xl-1) (by omega)).cells C hC).2 (by omega) j⟩,h.spare,fun i f=>(hd i f).rows,fun i f=>(hd i f).row,fun i f=>(hd i f).sep,fun i i' f o A b hb D=>?_⟩,fun i f=>⟨(hd i f).s,(hd i f).au,(hd i f).hold,(hd i f).nil⟩,fun i f=>(hd i f).rep,fun i f b hb=>?_,?_⟩
 ·obtain⟨y,q,k1,k2,F⟩:=(hd i f).AQ b hb;obtain⟨P,q',G,R,H⟩:=(hd i' o).AQ b D;obtain⟨s,s',r1,_⟩:=J.apart i i' f o A y q P q' k1 G (F.trans H.symm);rw[k2]at r1
  cases r1
 ·obtain⟨y,q,k1,k2,F⟩:=(hd i f).AQ b hb;exact(hI b).2 ⟨i,f,y,q,k1,F⟩
 ·exact(hI xb).2 ⟨0,u,xb,_,(g 0 u).1 _ _ (wZ _ _ _ _ _),rfl⟩
end
end Go.Proofs.YtjnkcibpkkjniaaGreat.j7
namespace Go.Proofs.YtjnkcibpkkjniaaGreat.kj
section
open Go.Conc Go.ConcN Go.Conc.Lib Go.ConcR.Gen Go.ConcN.Gen Go.Proofs.YtjnkcibpkkjniaaGreat.j7
end
section
open Go Go.Conc Go.RowKit Go.Proofs.YtjnkcibpkkjniaaGreat.j7
noncomputable def xd:Array Oper:=match Tryz.f17.body with
 |some (.seq _ (.seq _ (.seq (.region _ ops _) _)))=>ops
 |_=>#[]
noncomputable def pM (sp:Nat) (now t kD:Int) (kM v19:Value):Frame:=(base 17).at ⟨#[.pointer (some ⟨sp,0,none⟩),.int .i64 t,kM,undef,undef,undef,.slice none 0 0,.pointer (some ⟨sp,0,none⟩),.pointer (some ⟨sp,0,none⟩),.pointer (some ⟨sp,0,none⟩),.pointer (some ⟨sp,0,none⟩),.int .i64 now,.int .i64 t,.int .i64 kD,.pointer (some ⟨sp,0,none⟩),.pointer (some ⟨sp,0,none⟩),.pointer (some ⟨sp,0,none⟩),.pointer (some ⟨sp,0,none⟩),kM,v19,undef,undef],[]⟩ (.inRegion xd [4,5,6]::[.code .ret])
def AS (w:World) (E:Nat→Prop) (m:Value) (ins:List kC):Prop :=
 (ins=[]∧∃ao cp,m=.slice ao 0 cp)∨(∃ib io cp,m=.slice (some ⟨ib,io,none⟩) ins.length cp∧E ib∧pw w ib io ins)
structure EW (now:Int) (d:SD) (ins:List kC):Prop where
 ok:lV d.s
 nil:d.s.st=0→d.v=.slice none 0 0
 hold:0≤d.p.hold∧d.p.hold≤65535
 len:ins.length≤1152921504606846976
 bytes:∀x∈ins,Bytes x.d∧x.d.length≤1152921504606846976
def mA (au id now:Int) (d:Nat→SD) (ins:Nat→List kC) (i:Nat):SV×List Int×Bool:=p9 (d i).p.au (d i).p.hold au id now (d i).s (ins i)
variable {n i:Nat} {Z:List Value} {au id:Int} {d:Nat→SD}
theorem QZ{C:Array Value}(h:Flat C n Z au id d)(a:i<n){b:Nat}(hb:(d i).nm b):∃(j:Nat)(v:Value),C[j]?=some v∧Nm v b:=by
 have key:∀(j:Nat)(v:Value),j<14→((d i).cells au id)[j]?=some v→Nm v b→∃(j:Nat)(v:Value),C[j]?=some v∧Nm v b:=fun j v c f g=>⟨14*i+j,v,(h.at_ i a j c).trans f,g⟩
 rcases hb with⟨ad,e,rfl⟩|⟨ad,e,rfl⟩|⟨ad,e,rfl⟩
 ·exact key 7 (.slice (d i).p.ia (d i).p.il (d i).p.ic) (by decide) rfl (by rw[e];exact .slice _ _ _)
 ·exact key 8 (.slice (d i).p.ea (d i).p.el (d i).p.ec) (by decide) rfl (by rw[e];exact .slice _ _ _)
 ·exact key 13 (.slice (d i).pa (d i).pl (d i).pc) (by decide) rfl (by rw[e];exact .slice _ _ _)
variable {w:World} {sp xb xc nb nc:Nat} {now:Int} {m:Nat→Value}
theorem Q0(j3:w.heap[sp]?=some (.cells #[.int .i64 now,.slice (some ⟨xb,0,none⟩) n xc] 91 (0,0)))(D:nR w xb n Z au id d)(M:sp≠xb)(O:∀i,i<n→¬(d i).nm sp)(Y:0<n)(F:n<2147483647){ms:Array Value}{E:Nat→Nat→Prop}(o:w.heap[nb]?=some (.cells ms 44 (0,0)))(G:∀i,i<n→ms[i]?=some (m i))(g:∀i,i<n→tE w (m i) (E i))(u:∀i,i<n→∀b,E i b→b≠xb∧b≠sp∧b≠nb)(P:∀i i',i<n→i'<n→i≠i'→∀b,E i b→¬E i' b)(H:∀i i',i<n→i'<n→∀b,E i b→¬(d i').nm b)(R:nb≠xb)(U:∀i,i<n→¬(d i).nm nb)(I:kO now)(hid:0≤id){ins:Nat→List kC}(V:∀i,i<n→EW now (d i) (ins i))(hX:∀i,i<n→AS w (E i) (m i) (ins i)):x7 ⟨sp,0,now,xb,0,n,xc,nb,0,n,nc⟩ m (re xb n Z d E) (uE w xb n Z au id d) (fun i=>#[.pointer (some ⟨xb,0,none⟩),.int .i64 now,m i]) (JR xb n Z au id w d (mA au id now d ins)) w:=by
 obtain⟨C,hC,hF⟩:=D.blk;have J:qT w #[WI.s ⟨sp,0,now,xb,0,n,xc,nb,0,n,nc⟩,WI.mW ⟨sp,0,now,xb,0,n,xc,nb,0,n,nc⟩] xb:=.cell (i:=1) (.arg (i:=0) rfl (.ptr _)) j3 rfl (.slice _ _ _);have z:∀i b pl,re xb n Z d E i b=some pl→pl.block=b∧(b=xb∨(d i).nm b∨E i b):=fun i b pl hb=>by
  rcases sE hb with⟨rfl,rfl⟩|⟨_,k,rfl⟩
  ·exact⟨rfl,.inl rfl⟩
  ·exact⟨rfl,.inr k⟩
 refine⟨⟨jV j3 0,(jV j3 1).trans (by rw[WI.CH (by exact Y)];rfl),(dp.1 j3).1,F⟩,dx _,fun i f=>?_,D.pW Y (fun i f b hb=>(u i f b hb).1) P H,fun i f=>D.hr f fun b hb=>⟨(u i f b hb).1,(g i f).plain b hb⟩,fun i f b pl hb=>?_,fun i f b pl hb=>?_,fun i f=>?_,fun i f T=>?_,fun i f v w' ρ v' hR hv=>?_,⟨_,_,o⟩,fun i f b pl hb=>?_⟩
 ·show w.cell? ⟨nb,0+i,none⟩=_;rw[jV o,dB];exact G i f
 ·obtain⟨e,k⟩:=z i b pl hb;rw[e];rcases k with rfl|k|k
  ·exact J
  ·obtain⟨j,v,r,q2⟩:=QZ hF f k;exact .cell (i:=j) J hC r q2
  ·exact .cell (i:=i) (.arg (i:=1) rfl (.slice _ _ _)) o (G i f) ((g i f).reach b k)
 ·obtain⟨e,k⟩:=z i b pl hb;rw[e];rcases k with rfl|k|k
  ·exact⟨dE M,dE R⟩
  ·exact⟨fun e=>O i f (by have e:b=sp:=e;rw[←e];exact k),fun e=>U i f (by have e:b=nb:=e;rw[←e];exact k)⟩
  ·exact⟨(u i f b k).2.1,(u i f b k).2.2⟩
 ·refine @jW.mk jY _ _ _ rfl fun j v v' a b=>?_
  match j,a,b with
  |0,a,b=>simp at a b;subst a b;exact @VR.ptr jY _ _ _ ⟨by rw[tD];exact eI _,_,wZ _ _ _ _ _,rfl,by simp[Place.shift];omega,rfl⟩
  |1,a,b=>simp at a b;subst a b;exact @VR.int jY _ _ _
  |2,a,b=>simp at a b;subst a b;exact(g i f).rel jY _ tD fun b hb=>EU (u i f b hb).1 (.inr hb)
  |j+3,a,b=>simp at a
 ·have K:=V i f;have hS:=D.QW f;have W:tE (uE w xb n Z au id d i) (m i) (E i):=⟨(g i f).rel,(g i f).reach,fun b hb=>((g i f).plain b hb).keep (sD (u i f b hb).1)⟩;have hI:tF (j7.small (uE w xb n Z au id d i) xb (j5 au id (d i).p (d i).s.st (d i).s.hold (d i).s.heard (d i).s.spoke (.slice (d i).pa (d i).pl (d i).pc))) xb (.slice (d i).pa (d i).pl (d i).pc) (ins i) (m i):=by
   rcases hX i f with h|⟨ib,io,cp,e1,X,e3⟩
   ·exact .inl h
   ·have A:=(u i f ib X).1;obtain⟨cur,ty,fr,r,_⟩:=(g i f).plain ib X;refine .inr ⟨ib,io,cp,e1,?_,A,fun e=>H i i f f ib X (tH e),e3.keep ((sD A).trans (sD A))⟩;rw[EM,uE,EM];exact(dp.1 r).1
  refine(QT hS K.ok K.nil I hid K.hold K.len K.bytes W (fun b hb=>(u i f b hb).1) hI { uE w xb n Z au id d i with tape:=T,drawn:=0 } rfl rfl).mono ?_;rintro e w' ⟨v,rfl,h1,h2⟩;exact⟨v,rfl,h1,h2⟩
 ·obtain⟨⟨_,_,_,_,_,_,_,_,sv,rfl,_,⟨a,l,c,rfl⟩,_⟩,_⟩:=hR
  cases hv with
  | @agg _ ys L y =>
   obtain⟨a',q0⟩:=@VR.vo jY _ _ _ _ _ (y 0 _ _ rfl (dq (by simp at L;omega)));have r:=@VR.AG jY _ _ _ (y 1 (.bool _) _ rfl (dq (by simp at L;omega)));refine⟨a',l,c,(mA au id now d ins i).2.2,?_⟩;congr 1;apply dJ;intro j
   match j with
   |0=>rw[dq (by simp at L;omega),q0];rfl
   |1=>rw[dq (by simp at L;omega),r];rfl
   |j+2=>rw[fD (by simp at L;omega),fD (by simp)]
 ·obtain⟨e,k⟩:=z i b pl hb;rw[e];rcases k with rfl|k|k
  ·exact⟨C,_,hC⟩
  ·obtain⟨cur,ty,fr,r,_,rfl⟩:=(D.rows i f b k).2;exact⟨cur,ty,r⟩
  ·obtain⟨cur,ty,fr,r,_,rfl⟩:=(g i f).plain b k;exact⟨cur,ty,r⟩
structure Old (w w':World):Prop where
 os:w'.os=w.os
 size:w.heap.size≤w'.heap.size
 block:∀b,b<w.heap.size→w'.heap[b]?=w.heap[b]?
theorem Old.of{w1 w':World}(h:Below w1.heap.size w1 w')(a:w1.heap=w.heap)(c:w1.os=w.os):Old w w':=⟨h.os.trans c,by rw[←a];exact h.size,fun b hb=>by rw[←a];exact h.block b (by rw[a];exact hb)⟩
theorem Q2(sp:Nat)(now t kD:Int)(kM v19:Value):(pM sp now t kD kM v19).tmps=#[.pointer (some ⟨sp,0,none⟩),.int .i64 t,kM,undef,undef,undef,.slice none 0 0,.pointer (some ⟨sp,0,none⟩),.pointer (some ⟨sp,0,none⟩),.pointer (some ⟨sp,0,none⟩),.pointer (some ⟨sp,0,none⟩),.int .i64 now,.int .i64 t,.int .i64 kD,.pointer (some ⟨sp,0,none⟩),.pointer (some ⟨sp,0,none⟩),.pointer (some ⟨sp,0,none⟩),.pointer (some ⟨sp,0,none⟩),kM,v19,undef,undef]:=rfl
variable {cs:List Frame} {Q:Frame→List Frame→World→Prop} {t kD:Int} {kM:Value}
theorem EX{xs:List Frame}{ρj:Nat→jR}{wj:Nat→World}{args:Nat→Array Value}{R:Nat→Value→World→Prop}(hI:x7 ⟨sp,0,kD,xb,0,n,xc,nb,0,n,nc⟩ m ρj wj args R w)(c:∀i,i<n→∀v w',R i v w'→w'.os=w.os)(k:∀w' RB rep v (I:Nat→Prop),zX ⟨sp,0,kD,xb,0,n,xc,nb,0,n,nc⟩ ρj R v w' I→(∀b,I b→∃o,w'.heap[b]?=some o∧@OR jY (nV I) o o)→(∀x∈qU ⟨sp,0,kD,xb,0,n,xc,nb,0,n,nc⟩::pM sp now t kD kM (.slice (some ⟨nb,0,none⟩) n nc)::xs,∀b,ur x b→¬p5 n ρj b→¬I b)→x8 n rep v→w'.heap[RB]?=some (.cells rep 140)→¬I RB→(∀x∈qU ⟨sp,0,kD,xb,0,n,xc,nb,0,n,nc⟩::pM sp now t kD kM (.slice (some ⟨nb,0,none⟩) n nc)::xs,∀b,ur x b→¬p5 n ρj b→b≠RB∧w'.heap[b]?=w.heap[b]?)→w.heap.size≤w'.heap.size→(∀b,b<w.heap.size→¬p5 n ρj b→¬I b∧b≠RB∧w'.heap[b]?=w.heap[b]?) →
   GX cs Q ((pM sp now t kD kM (.slice (some ⟨nb,0,none⟩) n nc)).finish (.slice (some ⟨RB,0,none⟩) n n)) xs w'):GX cs Q (pM sp now t kD kM (.slice (some ⟨nb,0,none⟩) n nc)) xs w:=by
 have a:GX cs Q (qU ⟨sp,0,kD,xb,0,n,xc,nb,0,n,nc⟩) (pM sp now t kD kM (.slice (some ⟨nb,0,none⟩) n nc)::xs) w:=NU hI c rfl k;unfold pM xd at a ⊢;simp only[Tryz.f17]at a ⊢;refine GX.vH (f:=35) rfl rfl rfl (by kernel_rfl) Tryz.func35 rfl rfl ?_;have e:qU ⟨sp,0,kD,xb,0,n,xc,nb,0,n,nc⟩=(base 35).at { tmps:=#[.pointer (some ⟨sp,0,none⟩),.slice (some ⟨nb,0,none⟩) n nc]++Array.replicate 34 undef,defers:=[] } [.code (Tryz.f35.body.getD .skip)]:=rfl;rw[e]at a;revert a;simp only[Tryz.f35,ez];walk_nrm;intro a;exact a
theorem EY{c:Frame}{j:List Frame}{u:Frame}{ac:Act}{ops:Array Oper}{l:List Nat}{kk:List Item}(a:c=u.at ac (.inRegion ops (i::l)::kk)){rb:Nat}{v19:Value}{RO:Value→World→Prop}(o:∀w1,w1.heap=w.heap→w1.os=w.os→Calls Tryz.prog 34 #[.slice (some ⟨rb,0,none⟩) n n] w1 fun e w'=>∃v,e=.returned v∧RO v w')(k:∀v w',RO v w'→GX cs Q (c.finish v) j w')(g:∀v w',RO v w'→kT v=false):GX cs Q ((pM sp now t kD kM v19).finish (.slice (some ⟨rb,0,none⟩) n n)) (c::j) w:=by
 have y:Hid (_):=k;have h:Hid (_):=o;have z:Hid (_):=a;clear k o a
 (have A:=nL;have C:=oX;have D:=oi;have F:=nv;have G:=nM;have H:=nN);have r:(pM sp now t kD kM v19).finish (.slice (some ⟨rb,0,none⟩) n n)=(base 17).at ⟨#[.pointer (some ⟨sp,0,none⟩),.int .i64 t,kM,undef,undef,undef,.slice none 0 0,.pointer (some ⟨sp,0,none⟩),.pointer (some ⟨sp,0,none⟩),.pointer (some ⟨sp,0,none⟩),.pointer (some ⟨sp,0,none⟩),.int .i64 now,.int .i64 t,.int .i64 kD,.pointer (some ⟨sp,0,none⟩),.pointer (some ⟨sp,0,none⟩),.pointer (some ⟨sp,0,none⟩),.pointer (some ⟨sp,0,none⟩),kM,v19,.slice (some ⟨rb,0,none⟩) n n,undef],[]⟩ (.inRegion xd [5,6]::[.code .ret]):=by rfl
 rw[r];clear r;unfold xd;simp only[Tryz.f17];refine GX.c rfl rfl (by kernel_rfl) (fun T K f=>?_);unfold execOp;go_simp;refine f _ _ _ (fun J=>?_);clear f K;refine js (h.out _ rfl rfl) ?_;rintro e w2 ⟨v,rfl,hr⟩;have HR:Hid (_):=hr;have I:=g v w2 hr;clear hr;refine⟨_,rfl,?_⟩;walk_nrm;refine GX.v rfl rfl (by kernel_rfl) (fun T K f=>?_);unfold execOp;go_simp;refine f _ _ ?_;clear f K;refine GX.jZ (v:=w2) ?_ rfl rfl;clear T;walk_nrm;refine GX.kE ?_;refine GX.ret ?_;refine GX.leave (tr:=6) rfl Tryz.func17 (by rfl) z.out ?_;exact y.out v w2 HR.out
structure xe (w:World) (sp xb xc n:Nat) (Z:List Value) (now au id:Int) (d:Nat→SD):Prop where
 j3:w.heap[sp]?=some (.cells #[.int .i64 now,.slice (some ⟨xb,0,none⟩) n xc] 91 (0,0))
 ss:nR w xb n Z au id d
 ne:sp≠xb
 nm:∀i,i<n→¬(d i).nm sp
structure AU (w1 w':World) (n:Nat) (ins:Nat→List kC) (v:Value) (nb nc:Nat) (ms:Array Value) (m:Nat→Value) (E:Nat→Nat→Prop):Prop where
 v:v=.slice (some ⟨nb,0,none⟩) n nc
 new:w1.heap.size≤nb
 old:Old w1 w'
 blk:w'.heap[nb]?=some (.cells ms 44 (0,0))
 ms:∀i,i<n→ms[i]?=some (m i)
 UW:∀i,i<n→tE w' (m i) (E i)
 UX:∀i,i<n→∀b,E i b→w1.heap.size≤b∧b≠nb
 apart:∀i i',i<n→i'<n→i≠i'→∀b,E i b→¬E i' b
 x:∀i,i<n→AS w' (E i) (m i) (ins i)
end
end Go.Proofs.YtjnkcibpkkjniaaGreat.kj
namespace Go.Proofs.YtjnkcibpkkjniaaGreat
section
open Go Go.RowKit
open Go.Proofs.YtjnkcibpkkjniaaGreat.j7 (mJ)
def uF (x:List Int×Bool):Bool:=decide (0<x.1.length) || x.2
def oG (x:Nat→List Int×Bool):Nat→Nat
 |0=>0
 |i+1=>if uF (x i) then oG x i+1 else oG x i
def pA (x:Nat→List Int×Bool):Nat→List Value
 |0=>[]
 |i+1=>if uF (x i) then pA x i++[.int .i64 (i:Int),.string (strOfNums (x i).1),.bool (x i).2] else pA x i
theorem yr(x:Nat→List Int×Bool):∀i,oG x i≤i
 |0=>dx _
 |i+1=>by have:=yr x i;unfold oG;split<;>omega
variable {w:World} {sv:Value} {xs:List Int}
theorem Q3(h:mJ w sv xs):(convert 86 9 sv).run Tryz.prog w=.ok (.string (strOfNums xs)) w:=by
 obtain⟨c,⟨rfl,ao,rfl⟩|⟨g,rfl,_,k⟩⟩:=h
 ·cases ao with
  |none=>rfl
  |some ad =>
   obtain⟨b,o,s⟩:=ad
   cases s with
   |none=>exact DZ b o c w
   |some s=>rfl
 ·exact Dy w g c xs k
theorem Q4(h:mJ w sv xs):∃ao c,sv=.slice ao xs.length c:=by
 obtain⟨c,⟨rfl,ao,rfl⟩|⟨g,rfl,_⟩⟩:=h
 ·exact⟨ao,c,rfl⟩
 ·exact⟨_,c,rfl⟩
theorem mJ.below'{w':World}(h:mJ w sv xs)(hB:Below w.heap.size w w'):mJ w' sv xs:=h.keep fun b v i a=>(hB.cell (p:=⟨b,i,none⟩) (ju _ _ a)).trans a
def Q5 (w:World) (n:Nat) (x:Nat→List Int×Bool) (v3 v8:Value) (wr:World):Prop :=
 ∃i,i≤n∧v8=.int .i64 (i:Int)∧Below w.heap.size w wr∧wr.ownsRow w.heap.size 41 3 v3 (oG x i) (pA x i)
def OQ (w:World) (n:Nat) (x:Nat→List Int×Bool) (e:Ending) (w':World):Prop :=
 ∃v,e=.returned v∧w'.ownsRow w.heap.size 41 3 v (oG x n) (pA x n)∧Below w.heap.size w w'
theorem EZ{rb n:Nat}{rep:Array Value}{sv:Nat→Value}{x:Nat→List Int×Bool}(h:w.heap[rb]?=some (.cells rep 140 (0,0)))(hn:n≤2147483647)(hrep:∀i,i<n→rep[i*2]?=some (sv i)∧rep[i*2+1]?=some (.bool (x i).2))(hrow:∀i,i<n→mJ w (sv i) (x i).1):Calls Tryz.prog 34 #[.slice (some ⟨rb,0,none⟩) n n] w fun e w'=>OQ w n x e w':=by
 obtain⟨i0,z0,hE⟩:=Qa;have HE:Hid (_):=hE;have H:Hid (_):=h;have Hrep:Hid (_):=hrep;have E0:Hid (_):=hrow;have Hn:Hid (_):=hn;have hrb:rb<w.heap.size:=(dp.1 h).1;clear h hrep hrow hn hE;go_enter Tryz.func34,Tryz.ntmps34
 go_wp2_with fail
 go_loopw [3,8] (fun v3 v8 wr=>Q5 w n x v3 v8 wr) (fun _ v8 _=>match v8 with | .int _ i=>((n:Int)-i).toNat|_=>0)
 case atStart=>exact⟨0,eI _,rfl,iD _ _,iR _ _ _ _⟩
 case round =>
  obtain⟨i,hi,rfl,hB,hown⟩:=hrel
  by_cases hin:i<n
  ·have hid:decide ((i:Int)<(n:Int))=true:=by simpa using hin
   have hi0:(0:Int)≤(i:Int):=by omega
   have hin2:(i:Int)<(n:Int):=by omega
   obtain⟨r0,r1⟩:=Hrep.out i hin;have hb:=(hB.block rb hrb).trans H.out;have c0:=(jV hb (i*2)).trans r0;have c1:=(jV hb (i*2+1)).trans r1;obtain⟨ao,c,e⟩:=Q4 (E0.out i hin);rw[e]at c0;have HB:Hid (_):=hB;have tJ:Hid (_):=hown;have Hi:Hid (i<n):=hin;have He:Hid (_):=e;have hwr:IntKind.i64.wrap ((i:Int)+1)=((i+1:Nat):Int):=by
    have:=Hn.out;rw[iw]<;>omega
   have AV:Hid (mJ wr (sv i) (x i).1):=(E0.out i hin).keep fun b v j hc=>(hB.cell (p:=⟨b,j,none⟩) (ju _ _ hc)).trans hc
   clear hb r0 r1 hB hown hi hin
   cases hx:uF (x i)
   ·have h1:(x i).1.length=0:=by unfold uF at hx;simp at hx;simp[hx.1]
    have h2:(x i).2=false:=by unfold uF at hx;simp at hx;exact hx.2
    have HN:Hid (oG x (i+1)=oG x i∧pA x (i+1)=pA x i):=by
     constructor<;>simp[oG,pA,hx]
    rw[h1]at c0;rw[h2]at c1;clear e h1 h2 hx AV
    go_wp2_with fail
    have HB2:Below wr.heap.size wr (wr.alloc (.cells #[.slice ao 0 c,.bool false] 140)):=(iD _ _).alloc (dx _) _;refine⟨⟨i+1,Hi.out,rfl,HB.out.trans (HB2.mono HB.out.size),?_⟩,?_⟩
    ·rw[HN.out.1,HN.out.2];exact lL tJ.out fun k hk=>HB2.block k (iX tJ.out k hk).2
    ·simp only;have:=Hi.out;omega
   ·have HN:Hid (oG x (i+1)=oG x i+1∧pA x (i+1)=pA x i++[.int .i64 (i:Int),.string (strOfNums (x i).1),.bool (x i).2]):=by
     constructor<;>simp[oG,pA,hx]
    have UY:=yr x i;have HB2:Below wr.heap.size wr (wr.alloc (.cells #[sv i,.bool (x i).2] 140)):=(iD _ _).alloc (dx _) _;have kc:=Q3 (mJ.below' AV.out HB2);rw[e]at kc;have hsz:=HB.out.size;have yt:Hid (_):=hsz;generalize hs1:(x i).1.length=L at c0 kc e;generalize hs2:(x i).2=cl at c1 kc HN;generalize hs3:strOfNums (x i).1=str at kc HN;have hcase:((0:Int)<(L:Int)∧True)∨(L=0∧cl=true):=by
     unfold uF at hx;simp at hx;rw[hs2]at hx;rw[←hs1];rcases hx with hx|hx
     ·exact .inl ⟨by omega,trivial⟩
     ·by_cases h0:(x i).1.length=0
      ·exact .inr ⟨h0,hx⟩
      ·exact .inl ⟨by omega,trivial⟩
    clear e hx AV HB2 hs1 hs2 hs3 hsz;rcases hcase with⟨hL,_⟩|⟨rfl,rfl⟩
    ·have hL2:decide ((0:Int)<(L:Int))=true:=by simpa using hL
     go_wp2_with (at_builtin;go_loud (refine En rfl (.tmp 21) (.tmp 29) 37 rfl w.heap.size 41 i0 z0 3 32 Tryz.underlying37 HE.out.info HE.out.zero HE.out.size HE.out.bytes HE.out.cells (by decide) u3 (oG x i) (pA x i) rfl (lL tJ.out fun k hk=>Below.block (show Below wr.heap.size wr _ by(repeat(first|exact iD _ _|refine iG ?_|refine iH ?_ (by first|omega|(simp only[iI,iJ,iK];omega)|simp) _|refine iL ?_ (by first|omega|simp) _|assumption))) k (iX tJ.out k hk).2) ⟨wr.heap.size+1,0,none⟩ 1 1 [.int .i64 (i:Int),.string str,.bool cl] (by simp[Act.eval]) rfl (by intro j u hu;match j,hu with|0,hu=>simp at hu;subst hu;simp[Addr.add]|1,hu=>simp at hu;subst hu;simp[Addr.add]|2,hu=>simp at hu;subst hu;simp[Addr.add]) (by intro u hu;simp at hu;rcases hu with rfl|rfl|rfl<;>rfl) (by have:=Hi.out;have:=Hn.out;unfold maxLen;omega) (by have:=Hi.out;have:=Hn.out;omega) (by have:=yt.out;simp<;>omega) ?_);go_loud (intro v' w2 hown2 hg2);go_loud (have HB3:Hid (Below w.heap.size w w2):=Below.grown (HB.out.trans (Below.mono (show Below wr.heap.size wr _ by(repeat(first|exact iD _ _|refine iG ?_|refine iH ?_ (by first|omega|(simp only[iI,iJ,iK];omega)|simp) _|refine iL ?_ (by first|omega|simp) _|assumption))) HB.out.size)) hg2 (by have:=yt.out;simp;omega) (fun k hk=>(iX tJ.out k hk).1));go_loud (have AW:Hid (_):=hown2);clear hown2 hg2)
     refine⟨⟨i+1,Hi.out,rfl,HB3.out,by rw[HN.out.1,HN.out.2];exact AW.out⟩,?_⟩;simp only;have:=Hi.out;omega
    ·go_wp2_with (at_builtin;go_loud (refine En rfl (.tmp 21) (.tmp 29) 37 rfl w.heap.size 41 i0 z0 3 32 Tryz.underlying37 HE.out.info HE.out.zero HE.out.size HE.out.bytes HE.out.cells (by decide) u3 (oG x i) (pA x i) rfl (lL tJ.out fun k hk=>Below.block (show Below wr.heap.size wr _ by(repeat(first|exact iD _ _|refine iG ?_|refine iH ?_ (by first|omega|(simp only[iI,iJ,iK];omega)|simp) _|refine iL ?_ (by first|omega|simp) _|assumption))) k (iX tJ.out k hk).2) ⟨wr.heap.size+1,0,none⟩ 1 1 [.int .i64 (i:Int),.string str,.bool true] (by simp[Act.eval]) rfl (by intro j u hu;match j,hu with|0,hu=>simp at hu;subst hu;simp[Addr.add]|1,hu=>simp at hu;subst hu;simp[Addr.add]|2,hu=>simp at hu;subst hu;simp[Addr.add]) (by intro u hu;simp at hu;rcases hu with rfl|rfl|rfl<;>rfl) (by have:=Hi.out;have:=Hn.out;unfold maxLen;omega) (by have:=Hi.out;have:=Hn.out;omega) (by have:=yt.out;simp<;>omega) ?_);go_loud (intro v' w2 hown2 hg2);go_loud (have HB3:Hid (Below w.heap.size w w2):=Below.grown (HB.out.trans (Below.mono (show Below wr.heap.size wr _ by(repeat(first|exact iD _ _|refine iG ?_|refine iH ?_ (by first|omega|(simp only[iI,iJ,iK];omega)|simp) _|refine iL ?_ (by first|omega|simp) _|assumption))) HB.out.size)) hg2 (by have:=yt.out;simp;omega) (fun k hk=>(iX tJ.out k hk).1));go_loud (have AW:Hid (_):=hown2);clear hown2 hg2)
     refine⟨⟨i+1,Hi.out,rfl,HB3.out,by rw[HN.out.1,HN.out.2];exact AW.out⟩,?_⟩;simp only;have:=Hi.out;omega
  ·have hid:decide ((i:Int)<(n:Int))=false:=by simpa using hin
   obtain rfl:i=n:=by omega
   have HF:Hid (OQ w i x (.returned u3) wr):=⟨_,rfl,hown,hB⟩;clear hB hown hi
   go_wp2_with fail
   exact iZ (v:=u3) (by simp[results,Tryz.results34,go_sem]) rfl HF.out
end
section
open Go Go.RowKit
open Go.Proofs.YtjnkcibpkkjniaaGreat.kj (kH lf uC rP)
def SI (w:World) (sp n:Nat) (ja:Option Addr) (jc:Nat) (ins:List kC) (a:Act) (wr:World):Prop :=
 a.defers=[]∧a.tmps.size=38∧a.tmps[0]?=some (.pointer (some ⟨sp,0,none⟩))∧a.tmps[5]?=some (.slice (some ⟨w.heap.size,0,none⟩) n n)∧a.tmps[14]?=some (.slice ja ins.length jc)∧a.tmps[15]?=some (.int .i64 (ins.length:Int))∧∃j:Nat,a.tmps[16]?=some (.int .i64 (j:Int))∧j≤ins.length∧Given w wr n w.heap.size (ins.take j)
def AX (n:Nat) (a:Act):Nat:=match a.tmps[16]? with
 |some (Value.int _ j)=>((n:Int)-j).toNat
 |_=>0
def SQ (w:World) (n:Nat) (ins:List kC) (e:Ending) (w':World):Prop:=e=.returned (.slice (some ⟨w.heap.size,0,none⟩) n n)∧Given w w' n w.heap.size ins
theorem Q6{a b c:World}{row:Option Nat}(h:a.grownBy b row)(k:Below b.heap.size b c):a.grownBy c row :=
 ⟨k.os.trans h.os,k.tape.trans h.tape,k.output.trans h.output,dz h.size k.size,fun i e hr=>(k.block i (dA e h.size)).trans (h.block i e hr)⟩
theorem E1{w:World}{sp n I O Y:Nat}{ja:Option Addr}{xv:Option Addr}{xc:Nat}{ins:List kC}(hc:w.cell? ⟨sp,1,none⟩=some (.slice xv n xc))(hn:n≤2147483647)(aa:ins≠[]→ja=some ⟨I,O,none⟩)(ab:ins≠[]→I<w.heap.size)(hI:pw w I O ins)(hlen:ins.length≤4398046511103):Calls Tryz.prog 36 #[.pointer (some ⟨sp,0,none⟩),.slice ja ins.length Y] w fun e w'=>SQ w n ins e w':=by
 have km:=Qt n hn;have j3:sp<w.heap.size:=ju _ _ hc;have ad:Below w.heap.size w (w.alloc (.cells (Array.replicate n (.slice none 0 0)) 44)):=(iD _ _).alloc (dx _) _;have ae:Hid (Given w (w.alloc (.cells (Array.replicate n (.slice none 0 0)) 44)) n w.heap.size []):=by
  refine⟨ad,dx _,_,fun _=>.slice none 0 0,iN w _,by simp,fun i C=>by rw[dt,dj C],fun i C=>⟨iR _ _ _ _,kS.nil _ _⟩,fun i i' _ _ _ b hb=>by cases hb⟩
 have Hc:Hid (∀wr,Below w.heap.size w wr→wr.cell? ⟨sp,1,none⟩=some (.slice xv n xc)):=fun wr hB=>(hB.cell (p:=⟨sp,1,none⟩) j3).trans hc
 have HI:Hid (∀wr,Below w.heap.size w wr→pw wr I O ins):=fun wr hB=>by
  by_cases h:ins=[]
  ·subst h;intro j x hx;simp at hx
  ·exact hI.keep (hB.block I (ab h))
 have HJ:Hid (_):=aa;have HL:Hid (_):=hlen;have Hn:Hid (_):=hn;clear ad hI hlen hn aa ab;go_enter Tryz.func36,Tryz.ntmps36
 go_wp2_with fail
 refine wp_loop (SI w sp n ja Y ins) (fun a _=>AX ins.length a) ⟨rfl,rfl,rfl,rfl,rfl,rfl,0,rfl,eI _,ae.out⟩ ?_;clear ae hc;intro a wr hI;obtain⟨kG,hsz,f0,f5,f14,f15,j,f16,hj,V⟩:=hI;obtain⟨tm,df⟩:=a;simp only at kG hsz f0 f5 f14 f15 f16;subst kG;obtain⟨k0,k1,k2,k3,k4,k5,k6,k7,k8,k9,ar,av,aw,ax,ay,az,aA,aB,aC,aD,aE,aF,aG,aH,aI,aJ,aK,aL,aM,aN,aO,aP,aQ,aR,aS,aT,aU,aV,rfl⟩:=Ew hsz;simp only[fR,gx,fS,dR]at f0 f5 f14 f15 f16;subst f0 f5 f14 f15 f16
 by_cases A:j<ins.length
 ·obtain rfl:ja=some ⟨I,O,none⟩:=HJ.out fun e=>by subst e;simp at A
  have al:decide ((j:Int)<(ins.length:Int))=true:=by simpa using A
  have aW:(0:Int)≤(j:Int):=by omega
  have aX:(j:Int)<(ins.length:Int):=by omega
  obtain⟨x,hx⟩:∃x,ins[j]?=some x:=⟨ins[j]'A,jf A⟩;have af:ins.take (j+1)=ins.take j++[x]:=by rw[List.take_add_one,hx];rfl
  have C:=HI.out wr V.below j x hx;have e0:=C.pe;have e1:=C.k;have e2:=C.s;rw[dT 3 j]at e0 e1 e2;have aY:IntKind.i64.wrap ((j:Int)+1)=((j+1:Nat):Int):=by
   have:=HL.out;rw[iw]<;>omega
  have L:Hid (_):=V;have J:Hid (_):=A;have ag:Hid (_):=af;have W:Hid (∀g,Below wr.heap.size wr g→Calls Tryz.prog 37 #[.pointer (some ⟨sp,0,none⟩),.int .i64 x.pe] g fun e w'=>e=.returned (.bool (decide (0≤x.pe∧x.pe<(n:Int))))∧w'=g):=fun g hB=>Er g sp _ n _ (Hc.out g (L.out.below.trans (hB.mono L.out.below.size))) x.pe
  clear V A af C hj hx;have F:Below wr.heap.size wr (wr.alloc (.cells #[.int .i64 x.pe,.int .i64 x.k,.string (strOfNums x.d)] 43)):=(iD _ _).alloc (dx _) _
  by_cases hp:0≤x.pe∧x.pe<(n:Int)
  ·rw[show decide (0≤x.pe∧x.pe<(n:Int))=true by simpa using hp]at W;obtain⟨pk,P⟩:∃pk:Nat,x.pe=(pk:Int):=⟨x.pe.toNat,by omega⟩;have ah:Hid (pk<n∧x.pe=(pk:Int)):=⟨by omega,P⟩;rw[P]at e0 W F;clear hp P
   go_wp2_with (go_at_call 37;go_loud (refine js (W.out _ (by(repeat(first|exact iD _ _|refine iG ?_|refine iH ?_ (by first|omega|(simp only[iI,iJ,iK];omega)|simp) _|refine iL ?_ (by first|omega|simp) _|assumption)))) ?_);go_loud (rintro e w1 ⟨rfl,rfl⟩))
   have r:=L.out.keep F;obtain⟨ms,m,M,h2,X,R,h5⟩:=r.rows;have c:=ah.out.1;have aq:(kU pk (ins.take j)).length≤4398046511103:=by
    have e1:(kU pk (ins.take j)).length≤(ins.take j).length:=gd _ _;have e2:(ins.take j).length≤ins.length:=by rw[iT];omega
    have:=HL.out;omega
   have G:(wr.alloc (.cells #[.int .i64 (pk:Int),.int .i64 x.k,.string (strOfNums x.d)] 43)).heap[wr.heap.size]?=some (.cells #[.int .i64 (pk:Int),.int .i64 x.k,.string (strOfNums x.d)] 43 (0,0)):=iN wr _;have ai:w.heap.size<wr.heap.size:=by
    have:=L.out.rows;obtain⟨ms,m,q,_⟩:=this;exact(dp.1 q).1
   have H:∀b,(m pk).ownBlock=some b→w.heap.size<b∧b<wr.heap.size:=fun b hb=>by
    obtain⟨aZ,m',q1,_,q3,q4,_⟩:=L.out.rows;have e:m' pk=m pk:=by
     have r1:=(F.block w.heap.size ai).trans q1;rw[M]at r1;simp only[dR,jy]at r1;have r2:=q3 pk c;rw[←r1.1,X pk c]at r2;exact(eX r2).symm
    have:=iX (q4 pk c).1 b (by rw[e];exact hb);exact⟨by omega,this.2⟩
   generalize a0:wr.alloc (.cells #[.int .i64 (pk:Int),.int .i64 x.k,.string (strOfNums x.d)] 43)=w2 at M R G F r ⊢;have aj:wr.heap.size<w2.heap.size:=(dp.1 G).1;have m0:w2.cell? ⟨w.heap.size,pk,none⟩=some (m pk):=(jV M pk).trans (X pk c);have z0:=kK M pk;have hIn:pI w2 wr.heap.size 0 (pk:Int) x.k x.d:=⟨jV G 0,jV G 1,jV G 2⟩;have am:(m pk).ownBlock≠some wr.heap.size:=fun e=>by have:=(H _ e).2;omega
   have an:(m pk).ownBlock≠some w.heap.size:=fun e=>by have:=(H _ e).1;omega
   clear e0 e1 e2 W;refine uC (D:=[]) (ops:=pJ) (val:=mz w.heap.size n wr.heap.size pk x.k x.d (w.heap.size+1) w2.heap.size (kU pk (ins.take j)).length (px (kU pk (ins.take j))) (m pk)) (fix:=[(0,.pointer (some ⟨sp,0,none⟩)),(5,.slice (some ⟨w.heap.size,0,none⟩) n n),(7,.pointer (some ⟨wr.heap.size,0,none⟩)),(14,.slice (some ⟨I,O,none⟩) ins.length Y),(15,.int .i64 (ins.length:Int)),(16,.int .i64 (j:Int))]) (T:=38) (Post:=fun _ w'=>∃U u,w2.grownBy U (m pk).ownBlock∧U.ownsRow (w.heap.size+1) 43 3 u ((kU pk (ins.take j)).length+1) (px (kU pk (ins.take j))++qZ pk x.k x.d)∧kS Pl U u∧(u.ownBlock=(m pk).ownBlock∨∃j,u.ownBlock=some j∧w2.heap.size≤j)∧w'=U.setCell ⟨w.heap.size,pk,none⟩ u) (n:=12) (ia:=10) (mem:=AH) (A0:=fun g=>Below w2.heap.size w2 g) (Rel:=fun g=>w2.grownBy g (m pk).ownBlock) (by kernel_rfl) Qu Qi Qj (by decide) Qk Qh (fun a b hB h=>h.trans (hB.mono h.size)) (fun a b hB h=>Q6 h hB)
    (fun i o a g C ao ho f z hA hR K hK=>Ql (by omega) aj c m0 hIn am i o a g C ao ho (f (5,.slice (some ⟨w.heap.size,0,none⟩) n n) (by simp)) (f (7,.pointer (some ⟨wr.heap.size,0,none⟩)) (by simp)) z hA hR K hK)
    (fun o a g ho f z hA hR K hK=>Qm (by omega) (by omega) (R pk c).1 (R pk c).2 o a g ho z hA hR (by omega) K hK)
    (fun o a g ho f z hR K hK=>Qn (by omega) an m0 z0 o a g ho z hR K hK)
    (fun a g kG hsz f hP=>?_) rfl rfl ?_ ⟨⟨rfl,rfl,rfl,dx _,fun _ _=>rfl⟩,⟨rfl,rfl,rfl,dx _,fun _ _ _=>rfl⟩⟩
   rotate_left
   ·intro y hy;simp at hy;rcases hy with rfl|rfl|rfl|rfl|rfl|rfl<;>rfl
   have f0:a.tmps[0]?=some (.pointer (some ⟨sp,0,none⟩)):=f (0,.pointer (some ⟨sp,0,none⟩)) (by simp);have f5:a.tmps[5]?=some (.slice (some ⟨w.heap.size,0,none⟩) n n):=f (5,.slice (some ⟨w.heap.size,0,none⟩) n n) (by simp);have f14:a.tmps[14]?=some (.slice (some ⟨I,O,none⟩) ins.length Y):=f (14,.slice (some ⟨I,O,none⟩) ins.length Y) (by simp);have f15:a.tmps[15]?=some (.int .i64 (ins.length:Int)):=f (15,.int .i64 (ins.length:Int)) (by simp);have f16:a.tmps[16]?=some (.int .i64 (j:Int)):=f (16,.int .i64 (j:Int)) (by simp);obtain⟨U,u,g1,g2,g3,g4,rfl⟩:=hP;have ak:Hid (Given w (U.setCell ⟨w.heap.size,pk,none⟩ u) n w.heap.size (ins.take (j+1))):=by
    rw[ag.out];exact Given.give r.below (dx _) M h2 X R h5 c ah.out.2 g1 g2 g3 g4
   clear f g1 g2 g3 g4 M h2 X R h5 m0 z0 hIn G F r;generalize U.setCell ⟨w.heap.size,pk,none⟩ u=w3 at ak ⊢;obtain⟨tm,df⟩:=a;simp only at kG hsz f0 f5 f14 f15 f16;subst kG;obtain⟨q0,q1,q2,q3,q4,q5,q6,q7,q8,q9,a1,a2,a3,a4,a5,a6,a7,a8,a9,ba,bb,bc,bd,be,bf,bg,bh,bi,bj,bk,bl,bm,bn,bo,bp,bq,br,bs,rfl⟩:=Ew hsz;simp only[fR,gx,fS,dR]at f0 f5 f14 f15 f16;subst f0 f5 f14 f15 f16
   go_wp2_with fail
   refine⟨⟨rfl,rfl,rfl,rfl,rfl,rfl,j+1,rfl,J.out,ak.out⟩,?_⟩;simp only[AX,fR,gx,fS];have:=J.out;omega
  ·have HN:Hid (∀i,i<n→x.pe≠(i:Int)):=fun i C e=>hp ⟨by omega,by omega⟩
   rw[show decide (0≤x.pe∧x.pe<(n:Int))=false by simpa using hp]at W;clear hp
   go_wp2_with (go_at_call 37;go_loud (refine js (W.out _ (by(repeat(first|exact iD _ _|refine iG ?_|refine iH ?_ (by first|omega|(simp only[iI,iJ,iK];omega)|simp) _|refine iL ?_ (by first|omega|simp) _|assumption)))) ?_);go_loud (rintro e w1 ⟨rfl,rfl⟩))
   have r:=L.out.keep F;have ap:Given w (wr.alloc (.cells #[.int .i64 x.pe,.int .i64 x.k,.string (strOfNums x.d)] 43)) n w.heap.size (ins.take (j+1)):=by
    rw[ag.out];obtain⟨ms,m,M,h2,X,R,h5⟩:=r.rows;exact⟨r.below,r.new,ms,m,M,h2,X,fun i C=>by rw[Ex (HN.out i C)];exact R i C,h5⟩
   refine⟨⟨rfl,rfl,rfl,rfl,rfl,rfl,j+1,rfl,J.out,ap⟩,?_⟩;simp only[AX,fR,gx,fS];have:=J.out;omega
 ·have al:decide ((j:Int)<(ins.length:Int))=false:=by simpa using A
  obtain rfl:j=ins.length:=by omega
  rw[List.take_length]at V;have L:Hid (_):=V;clear V hj
  go_wp2_with fail
  exact iZ (v:=.slice (some ⟨w.heap.size,0,none⟩) n n) (by simp[results,Tryz.results36,go_sem]) rfl ⟨rfl,L.out⟩
end
end Go.Proofs.YtjnkcibpkkjniaaGreat
namespace Go.Proofs.YtjnkcibpkkjniaaGreat.kj
section
open Go Go.Conc Go.RowKit Go.Proofs.YtjnkcibpkkjniaaGreat.j7
theorem Q7:∀(l:List kC)(j:Nat)(x:kC),l[j]?=some x→(px l)[3*j]?=some (.int .i64 x.pe)∧(px l)[3*j+1]?=some (.int .i64 x.k)∧(px l)[3*j+2]?=some (.string (strOfNums x.d)):=by
 intro l
 induction l with
 |nil=>intro j x h;simp at h
 |cons y l a =>
  intro j x h;have e:px (y::l)=.int .i64 y.pe::.int .i64 y.k::.string (strOfNums y.d)::px l:=rfl;rw[e]
  cases j with
  |zero=>simp at h;subst h;exact⟨rfl,rfl,rfl⟩
  |succ j =>
   simp only[gx]at h;obtain⟨c,k1,k2⟩:=a j x h;rw[show 3*(j+1)=3*j+1+1+1 by omega];simp only[gx,dK];refine⟨?_,?_,?_⟩
   ·exact c
   ·exact k1
   ·exact k2
variable {w:World} {B:Nat} {v:Value}
theorem Q8{c:Nat}{xs:List Value}(h:w.ownsRow B 43 3 v c xs)(f:kS Pl w v):tE w v (fun b=>v.ownBlock=some b):=by
 rcases h.2 with⟨rfl,_⟩|⟨g,cap,cur,rfl,_,a,_⟩
 ·exact⟨fun SC ρ _ _=>@VR.lW SC ρ 0 0,fun b hb=>(by cases hb),fun b hb=>(by cases hb)⟩
 ·have hp:lO w g:=⟨cur,_,_,a,f g cur _ _ rfl a,rfl⟩;have:=tE.row (n:=c) (c:=cap) hp;refine⟨fun SC ρ hb j=>this.rel SC ρ hb fun b e=>j b (by subst e;rfl),fun b hb=>this.reach b ?_,fun b hb=>this.plain b ?_⟩
  ·have e:some g=some b:=hb;exact(eX e).symm
  ·have e:some g=some b:=hb;exact(eX e).symm
theorem Q9{l:List kC}(h:w.ownsRow B 43 3 v l.length (px l)):AS w (fun b=>v.ownBlock=some b) v l:=by
 rcases h.2 with⟨rfl,e⟩|⟨g,cap,cur,rfl,_,a,_,_,_,c⟩
 ·exact .inl ⟨iQ e,none,0,rfl⟩
 ·refine .inr ⟨g,0,cap,rfl,rfl,fun j x hx=>?_⟩;obtain⟨f,k,o⟩:=Q7 l j x hx;have y:j<l.length:=(je.1 hx).1;have key:∀r u,r<3→(px l)[3*j+r]?=some u→w.cell? ⟨g,0+3*j+r,none⟩=some u:=fun r u hr hu=>by
   rw[dB,jV a];have:(cur.toList.take (l.length*3))[3*j+r]?=some u:=by rw[c];exact hu
   rw[jm (by omega)]at this;rw[←jA];exact this
  exact⟨key 0 _ (by decide) f,key 1 _ (by decide) k,key 2 _ (by decide) o⟩
theorem Ra{w1 w':World}{n:Nat}{ins:List kC}(j:v=.slice (some ⟨w1.heap.size,0,none⟩) n n)(h:Given w1 w' n w1.heap.size ins):∃nb nc ms m E,AU w1 w' n (fun i=>kU i ins) v nb nc ms m E:=by
 obtain⟨ms,m,k,u,o,c,r⟩:=h.rows;refine⟨w1.heap.size,n,ms,m,fun i b=>(m i).ownBlock=some b,j,dx _,⟨h.below.os,h.below.size,fun b hb=>h.below.block b hb⟩,k,o,fun i a=>Q8 (c i a).1 (c i a).2,fun i a b hb=>?_,fun i i' a e f b hb g=>r i i' a e f b hb g,fun i a=>Q9 (c i a).1⟩;have:=(iX (c i a).1 b hb).1;omega
def uG (n:Nat) (x:Nat→SV×List Int×Bool) (v:Value) (w:World):Prop:=∃B,w.ownsRow B 41 3 v (oG (fun i=>(x i).2) n) (pA (fun i=>(x i).2) n)
end
end Go.Proofs.YtjnkcibpkkjniaaGreat.kj
namespace Go.Proofs.YtjnkcibpkkjniaaGreat
open Go Go.RowKit
variable {cl:Bool} {st:Int} {t:List (Int×List Int)}
theorem E2(a:okW cl st true t):∀ms,mK ms→okW cl st true (ms++t):=by
 intro ms
 induction ms with
 |nil=>intro _;exact a
 |cons m r c =>
  intro h;obtain rfl:=h m (by simp);exact⟨.inr (.inr (.inr rfl)),rfl,Bytes.nil,by simp,fun e=>by simp at e,fun e=>by simp at e,c fun m hm=>h m (by simp[hm])⟩
theorem E3(au id hd:Int):Bytes (sC au id hd)∧(sC au id hd).length≤4077:=by
 refine⟨fun x hx=>?_,by simp[sC,kB,nY]⟩;simp only[sC,kB,nY,gQ,fJ,fK,fL]at hx;rcases hx with h|(h|h)|(h|h)|(h|h|h|h)|h
 all_goals omega
variable {au id hd:Int} {b:Bool}
theorem AY{a:Int}{sent:List Int}(h:qg au id hd b a sent)(c:okW cl st true t)(f:a=0→t=[])(g:cl=true→st=0):∃ms,sent++kN t=kN ms∧okW cl st b ms:=by
 obtain⟨ms,rfl,⟨e,rfl,rfl⟩|⟨e,rfl,k⟩|⟨e,rfl,rest,rfl,k⟩⟩:=h
 ·obtain rfl:=f e;exact⟨[],rfl,g⟩
 ·exact⟨ms++t,(wX _ _).symm,E2 c ms k⟩
 ·refine⟨(1,sC au id hd)::rest++t,(wX _ _).symm,.inl rfl,rfl,(E3 au id hd).1,(E3 au id hd).2,fun e=>by simp at e,fun e=>by simp at e,E2 c rest k⟩
theorem Rb{x:SV×List Int×Bool}(h:Told au id hd b x):∃ms,x.2.1=kN ms∧okW x.2.2 x.1.st b ms:=by
 cases h with
 | @go s sent h =>
  obtain⟨ms,e,k⟩:=AY (cl:=false) (st:=s.st) h (t:=[]) (fun e=>by simp at e) (fun _=>rfl) (fun e=>by simp at e);exact⟨ms,by rw[←e];simp[kN],k⟩
 | @over st cl sent h =>
  obtain⟨ms,e,k⟩:=AY (cl:=cl) (st:=nH.st) h (t:=[]) (fun _=>rfl) (fun _=>rfl) (fun _=>rfl);exact⟨ms,by rw[←e];simp[kN],k⟩
 | @AK st sent t a f h =>
  have hb:Bytes (t.c::t.s::t.d):=fun x hx=>by
   rcases fJ.1 hx with rfl|hx
   ·have:=a.c;omega
   ·rcases fJ.1 hx with rfl|hx
    ·have:=a.s;omega
    ·exact a.d x hx
  obtain⟨ms,e,k⟩:=AY (cl:=true) (st:=nH.st) h (t:=[(3,t.c::t.s::t.d)]) ⟨.inr (.inr (.inl rfl)),rfl,hb,by have:=a.l;simp;omega,fun _=>⟨rfl,rfl,rfl⟩,fun e=>by simp at e,fun _=>rfl⟩ (fun e=>absurd e f) (fun _=>rfl);exact⟨ms,by rw[←e,yo],k⟩
def kV (x:Nat→List Int×Bool):Nat→List Nat
 |0=>[]
 |i+1=>if uF (x i) then kV x i++[i] else kV x i
theorem yu(x:Nat→List Int×Bool):∀n,(kV x n).length=oG x n
 |0=>rfl
 |i+1=>by unfold kV oG;split<;>simp[yu x i]
theorem xf(x:Nat→List Int×Bool):∀n,∀p∈kV x n,p<n
 |0,p,h=>by simp[kV]at h
 |i+1,p,h=>by
  unfold kV at h;split at h
  ·rcases gQ.1 h with h|h
   ·have:=xf x i p h;omega
   ·simp at h;omega
  ·have:=xf x i p h;omega
theorem yv(x:Nat→List Int×Bool):∀n,(kV x n).Pairwise (· < ·)
 |0=>List.Pairwise.nil
 |i+1=>by
  unfold kV;split
  ·exact List.pairwise_append.2 ⟨yv x i,List.pairwise_singleton _ _,fun a c b hb=>by simp at hb;subst hb;exact xf x _ a c⟩
  ·exact yv x i
def qC (x:Nat→List Int×Bool) (i:Nat):List Value:=[.int .i64 (i:Int),.string (strOfNums (x i).1),.bool (x i).2]
theorem E4(x:Nat→List Int×Bool):∀n,pA x n=(kV x n).flatMap (qC x)
 |0=>rfl
 |i+1=>by unfold pA kV;split<;>simp[E4 x i,qC]
theorem Rc(x:Nat→List Int×Bool):∀(l:List Nat)(k p:Nat),l[k]?=some p→∀j,j<3→(l.flatMap (qC x))[3*k+j]?=(qC x p)[j]?:=by
 intro l
 induction l with
 |nil=>intro k p h;simp at h
 |cons q l a =>
  intro k p h j c;rw[List.flatMap_cons]
  cases k with
  |zero =>
   simp at h;subst h;rw[jC (by simp[qC];omega)];simp
  |succ k =>
   simp at h;rw[jD (by simp[qC];omega),show 3*(k+1)+j-(qC x q).length=3*k+j by simp[qC];omega];exact a k p h j c
structure uH (n:Nat) (x:Nat→List Int×Bool) (v:Value) (w:World) (g cap:Nat) (ao:Option Addr):Prop where
 v:v=.slice ao (kV x n).length cap
 a:kV x n≠[]→ao=some ⟨g,0,none⟩
 b:kV x n≠[]→∃cur fr,w.heap[g]?=some (.cells cur 41 fr)
 at_:∀k p,(kV x n)[k]?=some p→∀j u,(qC x p)[j]?=some u→w.cell? ⟨g,3*k+j,none⟩=some u
theorem uH.keep{n:Nat}{x:Nat→List Int×Bool}{v:Value}{w w':World}{g cap:Nat}{ao:Option Addr}(h:uH n x v w g cap ao)(e:w'.heap[g]?=w.heap[g]?):uH n x v w' g cap ao :=
 ⟨h.v,h.a,fun c=>by rw[e];exact h.b c,fun k p f j u o=>(jx (a:=⟨g,3*k+j,none⟩) e).trans (h.at_ k p f j u o)⟩
end Go.Proofs.YtjnkcibpkkjniaaGreat
namespace Go.Proofs.YtjnkcibpkkjniaaGreat.kj
open Go Go.RowKit Go.Proofs.YtjnkcibpkkjniaaGreat
theorem E5{n:Nat}{X:Nat→SV×List Int×Bool}{v:Value}{w:World}(h:uG n X v w):∃g cap ao,uH n (fun i=>(X i).2) v w g cap ao:=by
 obtain⟨B,h⟩:=h;have hlen:=yu (fun i=>(X i).2) n;rcases h.2 with⟨rfl,e⟩|⟨g,cap,cur,rfl,_,r,_,_,_,A⟩
 ·have c:kV (fun i=>(X i).2) n=[]:=iQ (by rw[hlen];exact e);refine⟨0,0,none,by rw[c];rfl,fun f=>absurd c f,fun f=>absurd c f,fun k p a=>?_⟩;rw[c]at a;simp at a
 ·refine⟨g,cap,some ⟨g,0,none⟩,by rw[hlen],fun _=>rfl,fun _=>⟨cur,_,r⟩,fun k p a j u y=>?_⟩;have o:j<3:=(je.1 y).1;have C:k<(kV (fun i=>(X i).2) n).length:=(je.1 a).1;rw[jV r];have z:=Rc (fun i=>(X i).2) _ k p a j o;rw[←E4,y,←A,jm (by omega)]at z;rw[←jA];exact z
end Go.Proofs.YtjnkcibpkkjniaaGreat.kj
namespace Go.Proofs.YtjnkcibpkkjniaaGreat.kj
section
open Go Go.Conc Go.RowKit Go.Proofs.YtjnkcibpkkjniaaGreat.j7
theorem E6{cs:List Frame}{Q:Frame→List Frame→World→Prop}{xs:List Frame}{w:World}{sp:Nat}{xv:Value}{now t kD:Int}{kM:Value}{RS:Value→World→Prop}(A:∀w,Calls Tryz.prog 33 #[.int .i64 now,.int .i64 t] w fun e w'=>e=.returned (.int .i64 kD)∧w'=w)(o:w.heap[sp]?=some (.cells #[.int .i64 now,xv] 91 (0,0)))(r:∀w1,w1.heap=(w.setCell ⟨sp,0,none⟩ (.int .i64 kD)).heap→w1.os=w.os→Calls Tryz.prog 36 #[.pointer (some ⟨sp,0,none⟩),kM] w1 fun e w'=>∃v,e=.returned v∧RS v w')(y:∀v w2,RS v w2→GX cs Q (pM sp now t kD kM v) xs w2)(h:kT kM=false):GX cs Q ((base 17).at { tmps:=#[.pointer (some ⟨sp,0,none⟩),.int .i64 t,kM]++Array.replicate 19 undef,defers:=[] } [.code (Tryz.f17.body.getD .skip)]) xs w:=by
 have c0:w.cell? ⟨sp,0,none⟩=some (.int .i64 now):=jV o 0;have L:=kK o 0;have C:Hid (_):=y;have k:Hid (_):=r;clear y r
 (have D:=nL;have F:=oX;have G:=oi;have H:=nv;have I:=nM;have J:=nN);simp only[Tryz.f17,ez];walk_nrm;refine GX.seq ?_
 (refine GX.region ?_;simp only[gA,gB,gC,dB,List.range,List.range.loop])
 ((refine GX.v rfl rfl (by kernel_rfl) (fun T K g=>?_));unfold execOp;go_simp;(refine g _ _ ?_);clear g K;(refine GX.jZ (v:=w) ?_ rfl rfl);clear T;walk_nrm);refine GX.kE ?_;refine GX.seq ?_
 (refine GX.region ?_;simp only[gA,gB,gC,Nat.reduceAdd,dB,List.range,List.range.loop])
 iterate 6 ((refine GX.v rfl rfl (by kernel_rfl) (fun T K g=>?_));unfold execOp;go_simp;(refine g _ _ ?_);clear g K;(refine GX.jZ (v:=w) ?_ rfl rfl);clear T;walk_nrm)
 refine GX.c rfl rfl (by kernel_rfl) (fun T K g=>?_);unfold execOp;go_simp;refine g _ _ _ (fun z=>?_);clear g K;refine js (A _) ?_;rintro e w' ⟨rfl,rfl⟩;refine⟨_,rfl,GX.jZ (v:=w) ?_ rfl rfl⟩;walk_nrm;clear z
 iterate 2 ((refine GX.v rfl rfl (by kernel_rfl) (fun T K g=>?_));unfold execOp;go_simp;(refine g _ _ ?_);clear g K;(refine GX.jZ (v:=w) ?_ rfl rfl);clear T;walk_nrm)
 refine GX.u rfl rfl (by kernel_rfl) (fun T K g=>?_);unfold execOp;go_simp;refine g _ ?_;clear g K;refine GX.jZ (v:=w.setCell ⟨sp,0,none⟩ (.int .i64 kD)) ?_ rfl rfl;generalize j:w.setCell ⟨sp,0,none⟩ (.int .i64 kD)=w1;walk_nrm;refine GX.kE ?_;refine GX.seq ?_
 (refine GX.region ?_;simp only[gA,gB,gC,Nat.reduceAdd,dB,List.range,List.range.loop])
 iterate 2 ((refine GX.v rfl rfl (by kernel_rfl) (fun T K g=>?_));unfold execOp;go_simp;(refine g _ _ ?_);clear g K;(refine GX.jZ (v:=w1) ?_ rfl rfl);clear T;walk_nrm)
 ((refine GX.v (hu:=by simp[mP,Op.operands,Act.eval,h]) rfl rfl (by kernel_rfl) (fun T K g=>?_));unfold execOp;go_simp;(refine g _ _ ?_);clear g K;(refine GX.jZ (v:=w1) ?_ rfl rfl);clear T;walk_nrm);refine GX.c (hu:=by simp[mP,Op.operands,Call.operands,Act.eval,h,show ∀a,kT (.pointer a)=false from fun _=>rfl,show ∀f a b,kT (.func f a b)=false from fun _ _ _=>rfl]) rfl rfl (by kernel_rfl) (fun T K g=>?_);unfold execOp;go_simp;refine g _ _ _ (fun z=>?_);clear g K;refine js (k.out _ (by rw[j];rfl) (by rw[←j];rfl)) ?_;rintro e w2 ⟨v,rfl,hr⟩;refine⟨_,rfl,?_⟩;walk_nrm;have:=C.out v w2 hr;unfold pM xd at this;simp only[Tryz.f17]at this;exact this
end
end Go.Proofs.YtjnkcibpkkjniaaGreat.kj
