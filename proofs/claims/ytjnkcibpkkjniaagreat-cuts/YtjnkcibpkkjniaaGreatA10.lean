import Derived.Test.YtjnkcibpkkjniaaGreatA00
import Derived.Test.YtjnkcibpkkjniaaGreatA09
set_option linter.all false
set_option maxHeartbeats 2000000
set_option maxRecDepth 20000
namespace Go.Proofs.YtjnkcibpkkjniaaGreat
section
open Go Go.RowKit
open Go.Proofs.YtjnkcibpkkjniaaGreat.kN (lh lO xH)
variable {q:Option Nat}
variable {Q:Exit→Act→World→Prop} {tb ib io n cp j:Nat} {pe kd:Int} {s:List Int} {w0:World}
theorem Si{bx:Nat}(J:j<n)(h:bx<w0.heap.size)(k:ib<w0.heap.size)(A:w0.cell? ⟨bx,0,none⟩=some (.pointer (some ⟨tb,0,none⟩)))(hI:rS w0 ib (io+3*j) pe kd s)(i:Nat)(o:Oper)(a:Act)(w:World)(L:i<5)(u:sQ[i]?=some o)(f1:a.tmps[1]?=some (.slice (some ⟨ib,io,none⟩) n cp))(f2:a.tmps[2]?=some (.pointer (some ⟨bx,0,none⟩)))(f4:a.tmps[4]?=some (.int .i64 (j:Int)))(c:∀(y:Nat)(o':Oper)(d:Nat),sQ[y]?=some o'→o'.dst=some d→(∃e∈o.after,e.on=y∧Region.binds .any e=true)→∃v,a.tmps[d]?=some v∧qN tb ib io n cp pe kd s j y v w)(B:Below w0.heap.size w0 w)(K:Act→World→Prop)(f:∀v w',qN tb ib io n cp pe kd s j i v w'→Below w.heap.size w w'→K (a.put o.dst v) w'):o.wp Tryz.prog a w K Q:=by
 have M:=(B.cell (p:=⟨bx,0,none⟩) h).trans A;obtain⟨O,R,U⟩:=hI.keep (B.block ib k);have F:(j:Int)<(n:Int):=by omega
 have G:(0:Int)≤(j:Int):=by omega
 clear A hI;obtain rfl|rfl|rfl|rfl|rfl:i=0∨i=1∨i=2∨i=3∨i=4:=by omega
 all_goals
  simp only[sQ,Tryz.f79,opsOf,ed]at u;simp[]at u;subst u
 ·unfold Oper.wp execOp;simp only[Act.eval,dA,f2,eE];go_simp;exact f _ _ rfl (iJ _ _)
 ·unfold Oper.wp execOp;simp only[Act.eval,dA,f1,eE];go_simp;exact f _ _ rfl (iJ _ _)
 ·unfold Oper.wp execOp;simp only[Act.eval,dA,f4,eE];go_simp;exact f _ _ rfl (iJ _ _)
 ·obtain⟨H,z,g⟩:=c 1 _ _ rfl rfl ⟨⟨1,.data⟩,by simp,rfl,rfl⟩;simp only[qN]at g
  try subst g
  obtain⟨V,I,C⟩:=c 2 _ _ rfl rfl ⟨⟨2,.data⟩,by simp,rfl,rfl⟩;simp only[qN]at C
  try subst C
  unfold Oper.wp execOp;simp only[Act.eval,dA,z,I,eE];go_simp;exact f _ _ (by simp[qN];try omega) (iJ _ _)
 ·obtain⟨H,z,g⟩:=c 3 _ _ rfl rfl ⟨⟨3,.data⟩,by simp,rfl,rfl⟩;simp only[qN]at g
  try subst g
  unfold Oper.wp execOp;simp only[Act.eval,dA,z,eE];go_simp;exact f _ _ rfl (iJ _ _)
theorem Sj{D:List Deferred}{P0:World→Prop}{P1:List PanicEntry→World→Prop}(z:Hid (∀w,Below w0.heap.size w0 w→Calls Tryz.prog 119 #[.pointer (some ⟨tb,0,none⟩),.agg #[.int .i64 pe,.int .i64 kd,.string (strOfNums s)]] w fun e w'=>((∃v,e=.returned v)∧P0 w')∨(∃ch,e=.panicked ch∧P1 ch w')))(A:∀(a:Act)(w:World)(ch:List PanicEntry),a.defers=D→P1 ch w→Q (.panic ch) a w)(o:Oper)(a:Act)(w:World)(hd:Hid (a.defers=D))(f:sQ[5]?=some o)(c:∀(g:Nat)(o':Oper)(d:Nat),sQ[g]?=some o'→o'.dst=some d→(∃e∈o.after,e.on=g∧Region.binds .any e=true)→∃v,a.tmps[d]?=some v∧qN tb ib io n cp pe kd s j g v w)(B:Below w0.heap.size w0 w)(K:Act→World→Prop)(C:∀v w',P0 w'→K (a.put o.dst v) w'):o.wp Tryz.prog a w K Q:=by
 simp only[sQ,Tryz.f79,opsOf,ed]at f;simp[]at f;subst f;obtain⟨F,G,u⟩:=c 0 _ _ rfl rfl ⟨⟨0,.data⟩,by simp,rfl,rfl⟩;simp only[qN]at u
 try subst u
 obtain⟨H,I,y⟩:=c 4 _ _ rfl rfl ⟨⟨4,.data⟩,by simp,rfl,rfl⟩;simp only[qN]at y
 try subst y
 unfold Oper.wp execOp;simp only[];go_simp;refine(z.out w B).mono ?_;rintro e w1 (⟨⟨v,rfl⟩,h⟩|⟨ch,rfl,k⟩)
 ·exact C v w1 h
 ·exact A _ _ _ hd.out k
end
section
open Go Go.RowKit
variable {q:Option Nat}
def qO (A hd au id now:Int) (s:SV) (ins:List ky):TR :=
 if qd s.st s.hold s.heard now then .over true (ld 3 [4,0])
 else if py s.st s.hold s.spoke now then runM A hd au id now { s with spoke:=now } (ld 4 []) ins
 else runM A hd au id now s [] ins
theorem Sk(A hd au id now:Int)(s:SV)(ins:List ky):pS A hd au id now s ins=pC (qO A hd au id now s ins):=by
 unfold pS qO;split
 ·rfl
 ·split<;>rfl
def ud (q:Option Nat) (w:World) (base tb sb:Nat) (now au id:Int) (p:Pz) (r:TR) (w':World):Prop :=
 kC q base tb sb w w'∧match r with
  | .go s sent=>∃sv pv,mz q w' base tb sb now sv sent false false au id p s pv∧(s.st=0→pv=.slice none 0 0)
  | .over cl sent=>∃sv,TS w' base tb sb now sv sent cl true (kt au id p 0 0 0 0 (.slice none 0 0))
  | .bad _ _=>False
def wi (q:Option Nat) (w:World) (base tb sb:Nat) (now au id:Int) (p:Pz) (r:TR) (ch:List PanicEntry) (w':World):Prop :=
 kC q base tb sb w w'∧match r with
  | .bad t sent=>ch=[{ v:=t.val,recovered:=false }]∧∃sv s pv,mz q w' base tb sb now sv sent false false au id p s pv
  |_=>False
variable {w w':World} {base tb sb:Nat} {now au id:Int} {p:Pz} {r:TR}
theorem TQ.split{e:Ending}(h:TQ q w base tb sb now au id p r e w'):((∃v,e=.returned v)∧ud q w base tb sb now au id p r w')∨(∃ch,e=.panicked ch∧wi q w base tb sb now au id p r ch w'):=by
 obtain⟨c,a⟩:=h
 cases r with
 |go s sent=>exact .inl ⟨a.1,c,a.2⟩
 |over cl sent=>exact .inl ⟨a.1,c,a.2⟩
 |bad t sent=>exact .inr ⟨_,a.1,c,rfl,a.2⟩
variable {w0:World}
theorem ud.from(h:ud q w base tb sb now au id p r w')(a:kC q base tb sb w0 w):ud q w0 base tb sb now au id p r w':=⟨a.trans h.1,h.2⟩
theorem wi.from{ch:List PanicEntry}(h:wi q w base tb sb now au id p r ch w')(a:kC q base tb sb w0 w):wi q w0 base tb sb now au id p r ch w':=⟨a.trans h.1,h.2⟩
variable {sv:Value} {sent:List Int} {cl ov:Bool}
theorem kH.idle(h:TS w base tb sb now sv sent cl ov (kt au id p 0 0 0 0 (.slice none 0 0))):mz q w base tb sb now sv sent cl ov au id p n6 (.slice none 0 0):=by
 refine⟨h,by simp[kt],ju _ _ _ _,fun k a=>(by cases a),lE.nil _ _,fun k a=>(by cases a)⟩
theorem kH.old{sv':Value}{sent':List Int}{cl' ov':Bool}{S S':Array Value}{pv:Value}{xs:List Int}(h:kH q w base tb sb now sv sent cl ov S pv xs)(e:∀k,pv.ownBlock=some k→k<base)(f:TS w' base tb sb now sv' sent' cl' ov' S')(g:Rest base tb sb w w')(c:S'[13]?=some pv):kH q w' base tb sb now sv' sent' cl' ov' S' pv xs:=by
 have a:∀k,pv.ownBlock=some k→w'.heap[k]?=w.heap[k]?:=fun k a=>g.heap k (e k a) (h.ne k a).2.1 (h.ne k a).2.2
 refine⟨f,c,lM h.own a,fun k o u=>?_,h.pl.keep a,h.wh⟩;have:=(jA f.own k u).1;have:=e k o;omega
theorem kH.Bt{w:World}{base a tb sb:Nat}{now:Int}{cl ov:Bool}{S:Array Value}{pv:Value}{xs:List Int}(h:kH q w base tb sb now (.slice none 0 0) [] cl ov S pv xs)(e:∀k,pv.ownBlock=some k→q=some k)(hb:base≤a)(f:a≤w.heap.size):kH q w a tb sb now (.slice none 0 0) [] cl ov S pv xs :=
 ⟨h.ts.Bt (sent:=[]) hb f,h.lf,h.own,h.mS,h.pl,fun k c=>.inr ⟨e k c,(h.ne k c).2⟩⟩
theorem kH.lower{w:World}{base a tb sb:Nat}{now:Int}{sv:Value}{sent:List Int}{cl ov:Bool}{S:Array Value}{pv:Value}{xs:List Int}(h:kH q w a tb sb now sv sent cl ov S pv xs)(hb:base≤a)(c:tb<base)(f:sb<base):kH q w base tb sb now sv sent cl ov S pv xs :=
 ⟨h.ts.lower hb c f,h.lf,h.own,h.mS,h.pl,fun k g=>(h.wh k g).imp (fun e=>by omega) fun e=>e⟩
def pT (q:Option Nat) (base tb sb:Nat) (now au id:Int) (p:Pz) (ins:List ky) (r:TR) (wr:World):Prop :=
 (∃s sent sv pv,mz q wr base tb sb now sv sent false false au id p s pv∧mA s∧tw s sent∧(s.st=0→pv=.slice none 0 0)∧runM p.au p.hold au id now s sent ins=r) ∨
 (∃cl sent sv,r=.over cl sent∧TS wr base tb sb now sv sent cl true (kt au id p 0 0 0 0 (.slice none 0 0)))
def WQ (q:Option Nat) (w:World) (base tb sb:Nat) (now au id:Int) (p:Pz) (r:TR) (w':World):Prop :=
 kC q base tb sb w w'∧∃sv pv ov,mz q w' base tb sb now sv (pC r).2.1 (pC r).2.2 ov au id p (pC r).1 pv∧((pC r).1.st=0→pv=.slice none 0 0)
theorem pT.step{x:ky}{xs:List ky}{s:SV}(h:ud q w base tb sb now au id p (lT p.au p.hold au id now s sent x.k x.d) w')(hr:runM p.au p.hold au id now s sent (x::xs)=r)(o:mA s)(e:tw s sent)(f:0≤p.hold∧p.hold≤65535)(u:lA now)(hb:Bytes x.d):pT q base tb sb now au id p xs r w':=by
 obtain⟨k1,k2,z⟩:=xL (A:=p.au) (hd:=p.hold) (au:=au) (id:=id) (k:=x.k) o e f u hb;have a:=h.2;unfold runM at hr;rcases c:lT p.au p.hold au id now s sent x.k x.d with⟨s',sent'⟩|⟨cl,sent'⟩|⟨t,sent'⟩
 ·rw[c]at a hr;obtain⟨sv,pv,g,y⟩:=a;obtain⟨b1,b2⟩:=k1 _ _ c;exact .inl ⟨s',sent',sv,pv,g,b1,b2,y,hr⟩
 ·rw[c]at a hr;obtain⟨sv,g⟩:=a;exact .inr ⟨cl,sent',sv,hr.symm,g⟩
 ·rw[c]at a;exact a.elim
theorem pT.done(h:pT q base tb sb now au id p [] r w')(c:kC q base tb sb w w'):WQ q w base tb sb now au id p r w':=by
 rcases h with⟨s,sent,sv,pv,a,g,k,f,e⟩|⟨cl,sent,sv,rfl,a⟩
 ·simp only[runM]at e;subst e;exact⟨c,sv,pv,false,a,f⟩
 ·exact⟨c,sv,_,true,kH.idle a,fun _=>rfl⟩
theorem pT.over{base tb sb:Nat}{now au id:Int}{p:Pz}{cl:Bool}{sent:List Int}{sv:Value}{w w':World}(a:TS w' base tb sb now sv sent cl true (kt au id p 0 0 0 0 (.slice none 0 0)))(c:kC q base tb sb w w'):WQ q w base tb sb now au id p (.over cl sent) w' :=
 ⟨c,sv,_,true,kH.idle a,fun _=>rfl⟩
section
variable {w:World} {base tb sb:Nat} {now:Int} {au id:Int} {p:Pz} {s:SV} {pv:Value}
theorem Fx(h:mz q w base tb sb now (.slice none 0 0) [] false false au id p s pv)(a:mA s)(z:s.st=0→pv=.slice none 0 0)(A:∀k,pv.ownBlock=some k→k<base)(y:lA now)(ins:List ky):Calls Tryz.prog 118 #[.pointer (some ⟨tb,0,none⟩)] w fun e w'=>(∃v,e=.returned v)∧Rest base tb sb w w'∧pT q base tb sb now au id p ins (qO p.au p.hold au id now s ins) w':=by
 obtain⟨pa,pl,pc,rfl⟩:=h.slice
 cases hb:qd s.st s.hold s.heard now
 ·have g:0≤s.hold∧s.hold≤100000:=by have:=a.hold;omega
  cases c:py s.st s.hold s.spoke now
  ·refine(QE h.ts y a.heard a.spoke g hb c).mono ?_;rintro e w' ⟨o,u,f⟩;refine⟨o,f,.inl ⟨s,[],_,_,kH.old h A u f (by simp[kt]),a,⟨fun _=>rfl,fun _=>by simp,by simp⟩,z,?_⟩⟩;simp[qO,hb,c]
  ·refine(QD h.ts y a.heard a.spoke g hb c (by simp)).mono ?_;rintro e w' ⟨o,sv',u,f⟩;have B:s.st=2∨s.st=3:=by
    unfold py at c;simp at c;exact c.1
   refine⟨o,f,.inl ⟨{ s with spoke:=now },ld 4 [],sv',_,kH.old h A u f (by simp[kt]),⟨a.part,a.st,fun e=>?_,a.hold,a.heard,y⟩,⟨fun e=>?_,fun e=>?_,?_⟩,fun e=>?_,?_⟩⟩
   ·simp at e;omega
   ·simp at e;omega
   ·simp at e;omega
   ·simp[sL]
   ·simp at e;omega
   ·simp[qO,hb,c]
 ·refine(QC h.ts y a.heard hb (by simp)).mono ?_;rintro e w' ⟨o,sv',u,f⟩;refine⟨o,f,.inr ⟨true,ld 3 [4,0],sv',?_,u⟩⟩;simp[qO,hb]
end
end
section
open Go Go.RowKit
open Go.Proofs.YtjnkcibpkkjniaaGreat.kN (lh lO xH)
variable {q:Option Nat}
def pU (w:World) (ib io:Nat) (ins:List ky):Prop:=∀j x,ins[j]?=some x→rS w ib (io+3*j) x.pe x.k x.d
theorem pU.keep{w w':World}{ib io:Nat}{ins:List ky}(h:pU w ib io ins)(e:w'.heap[ib]?=w.heap[ib]?):pU w' ib io ins:=fun j x hx=>(h j x hx).keep e
def Sm (q:Option Nat) (w1:World) (base tb sb:Nat) (now au id:Int) (p:Pz) (D:List Deferred) (ib io cp bx:Nat) (ins:List ky) (r:TR) (a:Act) (wr:World):Prop :=
 a.defers=D∧a.tmps.size=27∧a.tmps[1]?=some (.slice (some ⟨ib,io,none⟩) ins.length cp)∧a.tmps[2]?=some (.pointer (some ⟨bx,0,none⟩))∧kC q base tb sb w1 wr∧∃j:Nat,a.tmps[4]?=some (.int .i64 (j:Int))∧j≤ins.length∧pT q base tb sb now au id p (ins.drop j) r wr
def Fy (n:Nat) (a:Act):Nat:=match a.tmps[4]? with
 |some (Value.int _ j)=>((n:Int)-j).toNat
 |_=>0
theorem Sn{w:World}{base tb sb:Nat}{now:Int}{au id:Int}{p:Pz}{s:SV}{pv:Value}(h:mz q w base tb sb now (.slice none 0 0) [] false false au id p s pv)(am:mA s)(an:s.st=0→pv=.slice none 0 0)(ae:∀k,pv.ownBlock=some k→q=some k)(af:∀k,q=some k→k<base)(hn:lA now)(hid:0≤id)(ao:0≤p.hold∧p.hold≤65535){ib io cp:Nat}{ins:List ky}(hlen:ins.length≤1152921504606846976)(hb:∀x∈ins,Bytes x.d∧x.d.length≤1152921504606846976)(ap:ib<base∧ib≠tb∧ib≠sb∧q≠some ib)(aq:pU w ib io ins):Calls Tryz.prog 79 #[.pointer (some ⟨tb,0,none⟩),.slice (some ⟨ib,io,none⟩) ins.length cp] w fun e w'=>(∃v,e=.returned v)∧WQ q w base tb sb now au id p (qO p.au p.hold au id now s ins) w':=by
 have ba:∀(fn:Fn)(first cap:Array Value)(w:World),(Instr.makeFunc fn first cap).run Tryz.prog w=.ok (.func fn first cap) w:=fun _ _ _ _=>rfl
 have ag:=h.ts.lt;have HB:Below w.heap.size w (w.alloc (.cells #[.pointer (some ⟨tb,0,none⟩)] 169)):=(iJ _ _).alloc (dD _) _;have H0:Hid (mz q (w.alloc (.cells #[.pointer (some ⟨tb,0,none⟩)] 169)) (w.heap.size+1) tb sb now (.slice none 0 0) [] false false au id p s pv):=kH.Bt (kH.below h HB) ae (by omega) (by simp);have HW:Hid (Calls Tryz.prog 118 #[.pointer (some ⟨tb,0,none⟩)] (w.alloc (.cells #[.pointer (some ⟨tb,0,none⟩)] 169)) fun e w'=>(∃v,e=.returned v)∧Rest (w.heap.size+1) tb sb (w.alloc (.cells #[.pointer (some ⟨tb,0,none⟩)] 169)) w'∧pT q (w.heap.size+1) tb sb now au id p ins (qO p.au p.hold au id now s ins) w') :=
  Fx H0.out am an (fun k hk=>by have:=af k (ae k hk);omega) hn ins
 have ar:(w.alloc (.cells #[.pointer (some ⟨tb,0,none⟩)] 169)).heap[w.heap.size]?=some (.cells #[.pointer (some ⟨tb,0,none⟩)] 169 (0,0)):=jL w _;have U:(w.alloc (.cells #[.pointer (some ⟨tb,0,none⟩)] 169)).heap[ib]?=w.heap[ib]?:=HB.block ib (by omega);have R0:Hid (kC q base tb sb w (w.alloc (.cells #[.pointer (some ⟨tb,0,none⟩)] 169))):=kC.below HB ag.2.2;have aG:Hid (∀w' s' sent sv ah x,mz q w' (w.heap.size+1) tb sb now sv sent false false au id p s' ah→mA s'→(s'.st=0→ah=.slice none 0 0)→tw s' sent→x∈ins→Calls Tryz.prog 119 #[.pointer (some ⟨tb,0,none⟩),.agg #[.int .i64 x.pe,.int .i64 x.k,.string (strOfNums x.d)]] w' fun e ai=>TQ q w' (w.heap.size+1) tb sb now au id p (lT p.au p.hold au id now s' sent x.k x.d) e ai) :=
  fun w' s' sent sv ah x V W h3 h4 hx=>RX V W h3 h4 hid (hb x hx).1 (hb x hx).2 x.pe x.k
 have HI:Hid (pU w ib io ins):=aq;have Hb:Hid (∀x∈ins,Bytes x.d∧x.d.length≤1152921504606846976):=hb;have av:Hid (0≤p.hold∧p.hold≤65535):=ao;have Hn:Hid (lA now):=hn;have HL:Hid (ins.length≤1152921504606846976):=hlen;have z:Hid (ib<base∧ib≠tb∧ib≠sb∧q≠some ib):=ap;have g:Hid (tb<base∧sb<base∧base≤w.heap.size):=ag;have X:∀k,k<w.heap.size+1→base≤k→q≠some k:=fun k V W e=>by have:=af k e;omega
 have aw:Hid (∀k,k<w.heap.size+1→base≤k→q≠some k):=X;generalize qO p.au p.hold au id now s ins=r at HW ⊢;clear h am an ae af hn hid ao hlen hb ap aq HB ag X
 go_enter_defers Tryz.func79,Tryz.ntmps79
 go_wp2_with (go_at_call 118;go_loud (refine HW.out.mono ?_);go_loud (rintro e w1 ⟨⟨v1,rfl⟩,L,ax⟩))
 have g1:=(L.heap w.heap.size (by omega) (by have:=g.out;omega) (by have:=g.out;omega)).trans ar;have g2:=(L.heap ib (by have:=g.out;have:=z.out.1;omega) z.out.2.1 z.out.2.2.1).trans U;have Hx:Hid (w1.heap[w.heap.size]?=some (.cells #[.pointer (some ⟨tb,0,none⟩)] 169 (0,0))):=g1;have aH:Hid (pU w1 ib io ins):=HI.out.keep g2;have R1:Hid (kC q base tb sb w w1):=R0.out.trans (L.wide.lower (by have:=g.out;omega));have aI:Hid (pT q (w.heap.size+1) tb sb now au id p ins r w1):=ax;clear g1 g2 L ax HW R0 H0 ar U HI;refine wp_loop (Sm q w1 (w.heap.size+1) tb sb now au id p _ ib io cp w.heap.size ins r) (fun a _=>Fy ins.length a) ⟨rfl,rfl,rfl,rfl,kC.refl _ _ _ _ _,0,rfl,eP _,aI.out⟩ ?_;intro a wr hI;obtain⟨kW,hsz,f1,f2,M,j,f4,hj,C⟩:=hI;obtain⟨tm,df⟩:=a;simp only at kW hsz f1 f2 f4;subst kW;obtain⟨k0,k1,k2,k3,k4,k5,k6,k7,k8,k9,aJ,aK,aL,aM,aN,aO,aP,aQ,aR,aS,aT,aU,aV,aW,aX,aY,aZ,rfl⟩:=Fw hsz;simp only[fV,gB,fW,dW]at f1 f2 f4;subst f1 f2 f4;have Y:wr.heap[w.heap.size]?=some (.cells #[.pointer (some ⟨tb,0,none⟩)] 169 (0,0)):=(M.heap w.heap.size (by omega) (by have:=g.out;omega) (by have:=g.out;omega) (aw.out _ (by omega) (by have:=g.out;omega))).trans Hx.out;have x0:=kh Y 0;simp at x0;have ay:Hid (kC q (w.heap.size+1) tb sb w1 wr):=M;have O:Hid (kC q base tb sb w wr):=R1.out.trans (M.lower (by have:=g.out;omega));clear M
 by_cases R:j<ins.length
 ·have a0:decide ((j:Int)<(ins.length:Int))=true:=by simpa using R
  rcases C with⟨s1,c,B,H,hS,aa,ab,ad,u⟩|⟨cl,c,B,hr,hT⟩
  ·obtain⟨⟨c0,c1,c2,c3,c4⟩,z2,z3,z4⟩:=hS.ts.facts;have HS:Hid (mz q wr (w.heap.size+1) tb sb now B c false false au id p s1 H):=hS;have aj:Hid (mA s1):=aa;have ak:Hid (tw s1 c):=ab;have a1:Hid (s1.st=0→H=.slice none 0 0):=ad;have az:Hid (runM p.au p.hold au id now s1 c (ins.drop j)=r):=u;have F:Hid (j<ins.length):=R;clear hS aa ab ad u R hj
   go_wp2_with fail
   obtain⟨x,hx⟩:∃x,ins[j]?=some x:=⟨ins[j]'F.out,jH F.out⟩;have al:x∈ins:=gv hx;have a2:ins.drop j=x::ins.drop (j+1):=by
    obtain⟨V,W⟩:=iV.1 hx;rw[←W];exact List.drop_eq_getElem_cons V
   have u:=az.out;rw[a2]at u;have aA:=HS.out.ts.lt;have a3:w.heap.size<wr.heap.size:=by omega
   have a4:ib<wr.heap.size:=by have:=g.out;have:=z.out.1;omega
   have aB:rS wr ib (io+3*j) x.pe x.k x.d:=(aH.out.keep (ay.out.heap ib (by have:=g.out;have:=z.out.1;omega) z.out.2.1 z.out.2.2.1 z.out.2.2.2)) j x hx;have HG:Hid (∀wy,Below wr.heap.size wr wy→Calls Tryz.prog 119 #[.pointer (some ⟨tb,0,none⟩),.agg #[.int .i64 x.pe,.int .i64 x.k,.string (strOfNums x.d)]] wy fun e w'=>((∃v,e=.returned v)∧ud q wr (w.heap.size+1) tb sb now au id p (lT p.au p.hold au id now s1 c x.k x.d) w')∨(∃ch,e=.panicked ch∧wi q wr (w.heap.size+1) tb sb now au id p (lT p.au p.hold au id now s1 c x.k x.d) ch w')):=fun wy hB=>by
    refine(aG.out wy s1 c B H x (kH.below HS.out hB) aj.out a1.out ak.out al).mono ?_;intro e w' hT;have hR:kC q (w.heap.size+1) tb sb wr wy:=kC.below hB aA.2.2;rcases hT.split with⟨hv,k⟩|⟨ch,he,k⟩
    ·exact .inl ⟨hv,k.from hR⟩
    ·exact .inr ⟨ch,he,k.from hR⟩
   clear c0 c1 c2 c3 c4 z2 z3 z4;refine xH (D:=_) (ops:=sQ) (val:=qN tb ib io ins.length cp x.pe x.k x.d j) (fix:=[(1,.slice (some ⟨ib,io,none⟩) ins.length cp),(2,.pointer (some ⟨w.heap.size,0,none⟩)),(4,.int .i64 (j:Int))]) (T:=27) (w0:=wr) (Post:=fun _ w'=>ud q wr (w.heap.size+1) tb sb now au id p (lT p.au p.hold au id now s1 c x.k x.d) w') (n:=5) (by kernel_rfl) Se Sf Sg Sd
    (fun i o a wx _ hi ho y I hs K hK=>Si F.out a3 a4 x0 aB i o a wx hi ho (y (1,.slice (some ⟨ib,io,none⟩) ins.length cp) (by simp)) (y (2,.pointer (some ⟨w.heap.size,0,none⟩)) (by simp)) (y (4,.int .i64 (j:Int)) (by simp)) I hs K hK)
    (fun o a wx hd ho y I hs K hK=>Sj (P1:=wi q wr (w.heap.size+1) tb sb now au id p (lT p.au p.hold au id now s1 c x.k x.d)) HG (fun a w2 ch hd a5=>?_) o a wx hd ho I hs K hK) (fun a wx kW hsz y hP=>?_) rfl rfl ?_ ?_
   rotate_left 2
   ·intro x hx;simp at hx;rcases hx with rfl|rfl|rfl<;>rfl
   ·exact⟨rfl,rfl,rfl,dD _,fun _ _=>rfl⟩
   ·show Leaves _ _ _ _ _ _ _;rw[hd];obtain⟨aC,G⟩:=a5;rcases J:lT p.au p.hold au id now s1 c x.k x.d with⟨s',sent'⟩|⟨cl,sent'⟩|⟨t,sent'⟩
    ·rw[J]at G;exact G.elim
    ·rw[J]at G;exact G.elim
    rw[J]at G;obtain⟨rfl,bb,s2,bc,aD⟩:=G;obtain⟨bd,be,bf,rfl⟩:=aD.slice;obtain⟨_,kb,_⟩:=xL (A:=p.au) (hd:=p.hold) (au:=au) (id:=id) (k:=x.k) aj.out ak.out av.out Hn.out (Hb.out x al).1;obtain⟨ht,bg⟩:=kb _ _ J;have hr:r=.bad t sent':=by rw[←u,runM,J]
    have aE:w2.cell? ⟨w.heap.size,0,none⟩=some (.pointer (some ⟨tb,0,none⟩)):=by
     have:=(aC.heap w.heap.size (by omega) (by have:=g.out;omega) (by have:=g.out;omega) (aw.out _ (by omega) (by have:=g.out;omega))).trans Y;have:=kh this 0;simpa using this
    refine leaves_cons (f:=116) (args:=#[.pointer (some ⟨w.heap.size,0,none⟩)]) (by simp) (by simp[go_sem]) ?_;refine(RZ (bx:=w.heap.size) aD.ts aE t ht (by omega)).mono ?_;rintro e u' w3 ⟨rfl,rfl,a6,a7,a8⟩;show Leaves _ _ _ _ [] .returning w3;refine⟨.tuple #[],by simp[results,Tryz.results79,go_sem],⟨_,rfl⟩,?_⟩;rw[hr];exact⟨O.out.trans ((aC.trans a8.wide).lower (by have:=g.out;omega)),a6,_,true,kH.idle (a7.lower (by have:=g.out;omega) g.out.1 g.out.2.1),fun _=>rfl⟩
   ·have f1:a.tmps[1]?=some (.slice (some ⟨ib,io,none⟩) ins.length cp):=y (1,.slice (some ⟨ib,io,none⟩) ins.length cp) (by simp);have f2:a.tmps[2]?=some (.pointer (some ⟨w.heap.size,0,none⟩)):=y (2,.pointer (some ⟨w.heap.size,0,none⟩)) (by simp);have f4:a.tmps[4]?=some (.int .i64 (j:Int)):=y (4,.int .i64 (j:Int)) (by simp);have HP:Hid (ud q wr (w.heap.size+1) tb sb now au id p (lT p.au p.hold au id now s1 c x.k x.d) wx):=hP;have bh:IntKind.i64.wrap ((j:Int)+1)=((j+1:Nat):Int):=by
     have:=HL.out;have:=F.out;rw[iC]<;>omega
    clear HG aB x0 y hP;obtain⟨tm,df⟩:=a;simp only at kW hsz f1 f2 f4;subst kW;obtain⟨k0,k1,k2,k3,k4,k5,k6,k7,k8,k9,aJ,aK,aL,aM,aN,aO,aP,aQ,aR,aS,aT,aU,aV,aW,aX,aY,aZ,rfl⟩:=Fw hsz;simp only[fV,gB,fW,dW]at f1 f2 f4;subst f1 f2 f4
    go_wp2_with fail
    have a9:pT q (w.heap.size+1) tb sb now au id p (ins.drop (j+1)) r wx:=pT.step HP.out u aj.out ak.out av.out Hn.out (Hb.out x al).1;refine⟨⟨rfl,rfl,rfl,rfl,ay.out.trans HP.out.1,j+1,rfl,F.out,a9⟩,?_⟩;simp only[Fy,fV,gB,fW];have:=F.out;omega
  ·have HT:Hid (TS wr (w.heap.size+1) tb sb now B c cl true (kt au id p 0 0 0 0 (.slice none 0 0))):=hT;obtain⟨⟨c0,c1,c2,c3,c4⟩,z2,z3,z4⟩:=hT.facts;clear hT hj
   go_wp2_with fail
   refine leaves_cons (f:=116) (args:=#[.pointer (some ⟨w.heap.size,0,none⟩)]) (by simp) (by simp[go_sem]) ?_;refine(A7 ⟨w.heap.size,0,none⟩ _).mono ?_;rintro e u' ai ⟨rfl,rfl,rfl⟩;refine⟨.tuple #[],by simp[results,Tryz.results79,go_sem],⟨_,rfl⟩,?_⟩;rw[hr];exact pT.over (HT.out.lower (by have:=g.out;omega) g.out.1 g.out.2.1) O.out
 ·have a0:decide ((j:Int)<(ins.length:Int))=false:=by simpa using R
  obtain rfl:j=ins.length:=by omega
  rw[jN]at C;have HM:Hid (WQ q w base tb sb now au id p r wr):=by
   have aF:base≤w.heap.size+1:=by have:=g.out;omega
   rcases C with⟨s1,c,B,H,V,W,h3,h4,h5⟩|⟨cl,c,B,V,W⟩
   ·exact pT.done (.inl ⟨s1,c,B,H,kH.lower V aF g.out.1 g.out.2.1,W,h3,h4,h5⟩) O.out
   ·exact pT.done (.inr ⟨cl,c,B,V,W.lower aF g.out.1 g.out.2.1⟩) O.out
  clear C hj
  go_wp2_with fail
  refine leaves_cons (f:=116) (args:=#[.pointer (some ⟨w.heap.size,0,none⟩)]) (by simp) (by simp[go_sem]) ?_;refine(A7 ⟨w.heap.size,0,none⟩ _).mono ?_;rintro e u' ai ⟨rfl,rfl,rfl⟩;exact⟨.tuple #[],by simp[results,Tryz.results79,go_sem],⟨_,rfl⟩,HM.out⟩
end
end Go.Proofs.YtjnkcibpkkjniaaGreat
namespace Go.Proofs.YtjnkcibpkkjniaaGreat.kx
section
open Go Go.Proofs.YtjnkcibpkkjniaaGreat
section
variable [Scope] {ρ:j7}
variable {v:Value}
theorem VR.qL{k:IntKind}{n:Int}(h:VR ρ (.int k n) v):v=.int k n:=by cases h;rfl
theorem VR.A9{b:Bool}{v:Value}(h:VR ρ (.bool b) v):v=.bool b:=by cases h;rfl
theorem VR.vX{a:Option Addr}{l c:Nat}{v:Value}(h:VR ρ (.slice a l c) v):∃a',v=.slice a' l c:=by cases h<;>exact⟨_,rfl⟩
theorem VR.QG{a:Addr}{l c:Nat}(h:VR ρ (.slice (some a) l c) v)(f:∀q,ρ a.block=some q→q.part=none):∃a',v=.slice (some a') l c∧AR ρ a a':=by
 cases h with
 |slice _ _ g=>exact⟨_,rfl,g⟩
 |nD _ e=>obtain⟨b,x,e⟩:=e;exact absurd (f _ e) (by simp)
theorem QH{C:Array Value}(h:C.size=14):∃c0 c1 c2 c3 c4 f g k o u a c e lf,C=#[c0,c1,c2,c3,c4,f,g,k,o,u,a,c,e,lf]:=by
 obtain⟨l⟩:=C
 match l,h with
 |[c0,c1,c2,c3,c4,f,g,k,o,u,a,c,e,lf],_=>exact⟨_,_,_,_,_,_,_,_,_,_,_,_,_,_,rfl⟩
theorem HR.QI{w w':World}(h:HR ρ w w'){g:Nat}{pl:Place}(A:ρ g=some pl)(hp:pl.part=none){i:Nat}(k:w.cell? ⟨g,i,none⟩=some v):∃v',w'.cell? ⟨pl.block,i,none⟩=some v'∧VR ρ v v':=by
 obtain⟨o,o',u,B,y⟩:=h.obj g pl A;unfold mD at y;rw[hp]at y
 cases y with
 | @cells c C e fr a =>
  have z:c[i]?=some v:=by simpa[World.cell?,u]using k
  obtain⟨v',f⟩:=oS a.size z;exact⟨v',by simpa[World.cell?,B]using f,a.get i v v' z f⟩
 |map _ _=>simp[World.cell?,u]at k
 |number _=>simp[World.cell?,u]at k
end
def nv (w:World) (v:Value) (xs:List Int):Prop :=
 ∃c,(xs=[]∧∃ao,v=.slice ao 0 c)∨∃g,v=.slice (some ⟨g,0,none⟩) xs.length c∧xs.length≤c∧∀i (hi:i<xs.length),w.cell? ⟨g,i,none⟩=some (.int .u8 xs[i])
theorem nv.keep{w w':World}{v:Value}{xs:List Int}(h:nv w v xs)(k:∀b v i,w.cell? ⟨b,i,none⟩=some v→w'.cell? ⟨b,i,none⟩=some v):nv w' v xs:=by
 obtain⟨c,h|⟨g,a,e,f⟩⟩:=h
 ·exact⟨c,.inl h⟩
 ·exact⟨c,.inr ⟨g,a,e,fun i o=>k _ _ _ (f i o)⟩⟩
section
variable [Scope]
end
end
section
open Go.Conc
def kB {α:Type} (P:Program) (m:Sem α):Prop:=∀w v w',m.run P w=.ok v w'→w'=w
section
variable {P:Program} {α β:Type}
theorem kB.pure(x:α):kB P (Pure.pure x:Sem α):=fun w v w' h=>by simp[go_sem]at h;exact h.2.symm
theorem kB.bind{m:Sem α}{k:α→Sem β}(hm:kB P m)(c:∀x,kB P (k x)):kB P (m >>= k):=fun w v w' h=>by
 rw[gE]at h
 cases hr:m.run P w with
 |ok x w1 =>
  rw[hr]at h;have e:=hm w x w1 hr;subst e;exact c x _ _ _ h
 |halt a b=>rw[hr]at h;cases h
theorem kB.Ee{m:Sem α}(h:∀w,∃a w',m.run P w=.halt a w'):kB P m:=fun w v w' k=>by
 obtain⟨a,w1,e⟩:=h w;rw[e]at k;cases k
theorem kB.load(a:Addr):kB P (load a):=fun w v w' h=>by
 simp[go_sem]at h;split at h
 ·cases h;rfl
 ·split at h<;>cases h;rfl
theorem kB.asAddr(v:Value):kB P (asAddr v):=by
 unfold Go.asAddr;split
 ·exact kB.pure _
 ·exact kB.Ee fun w=>by simp[go_sem]
 ·exact kB.Ee fun w=>by simp[go_sem]
theorem kB.Ef(a:Addr):∀(n i:Nat)(acc:Array Value),kB P (loadCellsFrom a i n acc)
 |0,i,acc=>kB.pure _
 |n+1,i,acc=>kB.bind (kB.load _) fun v=>kB.Ef a n (i+1) (acc.push v)
theorem kB.typeInfo(t:TypeId):kB P (typeInfo t):=fun w v w' h=>by
 simp[Go.typeInfo,go_sem]at h;split at h<;>simp_all[go_sem]
theorem kB.underlying(t:TypeId):kB P (underlying t):=fun w v w' h=>by
 simp[Go.underlying,go_sem]at h;split at h<;>simp_all[go_sem]
theorem kB.isAgg(t:TypeId):kB P (isAgg t):=kB.bind (kB.underlying t) fun d=>by cases d<;>exact kB.pure _
theorem kB.loadVar(t:TypeId)(a:Addr):kB P (loadVar t a):=kB.bind (kB.isAgg t) fun b=>by
 cases b
 ·exact kB.load a
 ·exact kB.bind (kB.bind (kB.typeInfo t) fun _=>kB.pure _) fun n=>kB.bind (kB.Ef a n 0 #[]) fun _=>kB.pure _
theorem kB.results(fn:Func)(tmps:Array Value):kB P (results fn tmps):=by
 unfold Go.results;refine kB.bind ?_ fun _=>kB.pure _
 rw[dU];refine kB.bind ?_ fun _=>kB.pure _
 generalize fn.results.toList=l
 induction l with
 |nil=>simp only[List.mapM_nil];exact kB.pure _
 |cons x l c =>
  simp only[List.mapM_cons];refine kB.bind ?_ fun _=>kB.bind c fun _=>kB.pure _
  cases x with
  |tmp t=>exact kB.pure _
  |cell a t=>exact kB.bind (kB.asAddr _) fun _=>kB.loadVar _ _
end
def lX (s:GStep):Prop:=match s with | .go g _ _=>g.offers=none|_=>True
theorem lX.after{s:GStep}(es:Array Event)(h:lX s):lX (GStep.after es s):=by cases s<;>exact h
theorem lX.go{fr:Frame}{cs:List Frame}{st:GoStatus}{d:Option Dying}{w:World}{es:Array Event}:lX (.go { frame:=fr,callers:=cs,status:=st,dying:=d } w es):=rfl
theorem lX.elim{α:Type}(o:Option α){a:GStep}{f:α→GStep}(c:lX a)(e:∀x,lX (f x)):lX (o.elim a f):=by
 cases o
 ·exact c
 ·exact e _
section
variable {P:Program}
theorem AX(main:Bool)(fr:Frame)(cs:List Frame)(v:Value)(w:World):lX (doReturn P main fr cs none v w):=by
 unfold doReturn
 repeat' (first|exact lX.go|trivial|split)
theorem Qb(fr:Frame)(ps:List ByteArray)(m:String)(b:Bool)(w:World):lX (dieOf fr ps m b w):=by
 unfold dieOf
 repeat' (first|exact lX.go|trivial|refine lX.after _ ?_|split)
theorem Eg(fr:Frame)(cs:List Frame)(m:String)(w:World):lX (endFatal P fr cs none m w):=by
 unfold endFatal;dsimp only
 repeat' (first|exact lX.go|exact Qb _ _ _ _ _|trivial|refine lX.after _ ?_|split)
theorem Qc(fr:Frame)(cs:List Frame)(m:Nat)(w:World):lX (early P fr cs none m w):=by
 unfold early
 repeat' (first|exact lX.go|trivial|refine lX.after _ ?_|split|(dsimp only;split)|dsimp only)
theorem Qd(fr:Frame)(cs:List Frame)(d:Deferred)(w:World):lX (callDeferred P fr cs none d w):=by
 unfold callDeferred
 repeat' (first|exact lX.go|exact Eg _ _ _ _|trivial|refine lX.after _ ?_|split)
theorem Eh(main:Bool)(fr:Frame)(cs:List Frame)(w:World):lX (unwind P main fr cs none w):=by
 unfold unwind
 repeat' (first|exact lX.go|exact Qd _ _ _ _|exact AX _ _ _ _ _|trivial|refine lX.after _ ?_|split)
theorem Ei(main:Bool)(fr:Frame)(cs:List Frame)(s:Sem Next)(w:World)(l:Bool):lX (stepG.apply P l fr cs none s w):=by
 unfold stepG.apply;refine lX.after _ ?_
 repeat' (first|exact lX.go|exact Eg _ _ _ _|exact Qc _ _ _ _|trivial|split)
theorem Qe(main:Bool)(fr:Frame)(cs:List Frame)(w:World)(l:Bool):lX (stepG.exec P main l fr cs none w):=by
 unfold stepG.exec
 repeat' (first|exact lX.go|exact Ei main _ _ _ _ _|exact AX _ _ _ _ _|trivial|refine lX.after _ ?_|split)
 all_goals(try unfold stepG.oper)
 all_goals(try dsimp only)
 all_goals(try refine lX.elim _ ?_ (fun x=>?_))
 all_goals(repeat' (first|exact lX.go|exact Ei main _ _ _ _ _|exact AX _ _ _ _ _|trivial|refine lX.after _ ?_|split))
theorem Qf(main:Bool)(fr:Frame)(cs:List Frame)(off:Option (Array CommCase×CommShape))(w:World):lX (stepG P main { frame:=fr,callers:=cs,status:=.running,dying:=none,offers:=off } w):=by
 unfold stepG
 cases hm:fr.mode with
 |run=>simp only[hm];exact Qe _ _ _ _ _
 |returning=>simp only[hm];exact Eh _ _ _ _
 |panicking ch=>simp only[hm];exact Eh _ _ _ _
end
end
section
open Go.Conc
variable [Scope] {P:Program}
theorem Qg[kD P][lV P]{ρ:j7}{f:FuncId}(hf:Scope.ok f=true){args mg:Array Value}(ha:ki ρ args mg){wS w:World}(hh:HR ρ wS w){R:Value→World→Prop}(hc:∀T,Calls P f args { wS with tape:=T,drawn:=0 } fun e w'=>∃v,e=.returned v∧R v w'):Calls P f mg w fun e w'=>∃v v' wE ρ',e=.returned v'∧R v wE∧HR ρ' wE w'∧VR ρ' v v'∧Grow ρ w ρ'∧Kept ρ w w':=by
 intro cs;obtain⟨K,oC,wE,e,o,⟨v,rfl,hR⟩,X,B,al⟩:=zM (hc fun j q=>w.tape (w.drawn+j) q) (fun w' ⟨v,h,_⟩=>by cases h);have C:vB P (lone (Frame.enter P f args .normal) [cap P] { wS with tape:=fun j q=>w.tape (w.drawn+j) q,drawn:=0 }) K oC wE:=⟨o,by rw[B.1];simp,B.2.1⟩;have key:∀(n k D:Nat)(a:j7)(gS:Goroutine)(fr:Frame)(ys:List Frame) (y w1:World),k+n=K →
   nP P (lone (Frame.enter P f args .normal) [cap P] { wS with tape:=fun j q=>w.tape (w.drawn+j) q,drawn:=0 }) K (fun j q=>w.tape (w.drawn+j) q) a cs k D gS y { frame:=fr,callers:=ys,status:=.running,dying:=none } w1 →
   Grow ρ w a→Kept ρ w w1→w1.drawn=w.drawn+D→Steps P (lone (Frame.enter P f mg .normal) cs w) (lone fr ys w1) →
   ∃j8 w' ρ' Y,Steps P (lone (Frame.enter P f mg .normal) cs w) (lone j8 cs w')∧HR ρ' wE w'∧Grow ρ w ρ'∧Kept ρ w w'∧nV P ρ' oC j8∧wE.tape=(fun j q=>w.tape (w.drawn+j) q)∧wE.drawn=Y∧w'.drawn=w.drawn+Y:=by
  intro n
  induction n with
  |zero =>
   intro k D a gS fr ys y w1 hk hr U c hd hs;obtain rfl:k=K:=by omega
   have h1:=hr.run;rw[o]at h1;simp only[lone,eI,Machine.mk.injEq,eL,eM,eN]at h1;obtain⟨e0,⟨⟨V,e2,_⟩,_⟩,_⟩:=h1;obtain⟨us,vs,q1,q2,q3,_⟩:=hr.gr.callers;have aa:us=[]:=by
    rw[←e2]at q1
    cases us with
    |nil=>rfl
    |cons u us=>have:=dI List.length q1;simp at this
   subst aa
   cases q3
   simp only[ix]at q2;subst q2;have F:=hr.gr.frame;rw[←V]at F;have g:=hr.hr;have G:=hr.tape;have H:=hr.drawn;rw[←e0]at g G H;exact⟨fr,w1,a,D,hs,g,U,c,F,G,H,hd⟩
  |succ n ih =>
   intro k D a gS fr ys y w1 hk hr U c hd hs;have ab:¬AtEnd [cap P] gS:=fun h=>by have:=(hr.at_end C h).1;omega
   obtain⟨g',w',es,ρ',ad,ae,V,e2,e3,e4,e5⟩:=hr.step C ab true (fun j q _=>by rw[c.tape,hd,dQ]);have W:=Qf (P:=P) true fr ys none w1;rw[V]at W;obtain⟨fr2,I,am,an,J⟩:=g';have s1:=e5.gr.status.2;have s2:=e5.gr.dying.2;simp only at s1 s2;subst s1 s2;have W:J=none:=W;subst W;have z:step P (lone fr ys w1)=.next (lone fr2 I w'):=step_lone_go (by rw[V];rfl);refine ih (k+1) _ ρ' ad fr2 I ae w' (by omega) e5 (U.trans c.size e2) (c.trans U e3) ?_ ?_
   ·have:=e3.drawn;omega
   ·exact Steps.trans hs (.one z)
 obtain⟨j8,w',ρ',Y,k1,k2,k3,k4,A,k6,k7,k8⟩:=key K 0 0 ρ _ _ _ _ _ (by omega) (nP.start hf ha hh cs _ K) (Grow.refl _ _) (Kept.refl hh) (by omega) (Steps.refl _ _);obtain⟨hm,hd,af,fn,L,M⟩:=B;have hL:TA ⟨none,w.drawn,fun j q=>w.tape (w.drawn+j) q⟩ wE w':=by
  refine⟨?_,k6,fun j q _=>?_⟩
  ·rw[k7,k8];simp only;omega
  ·rw[k6,k7,k4.tape,k8,dQ]
 have O:=vu (zL (P:=P) (fn:=fn) A.tmps) wE w' #[] k2 hL;rw[M]at O;obtain⟨v',wB,new,ag,e,ah,ai,g,_,_,_⟩:=O (fun l B=>by cases B);have er:(results fn j8.tmps).run P w'=.ok v' wB:=by
  have:=dI (·.1) e;rw[dT]at this;exact this
 have ew:=kB.results (P:=P) fn j8.tmps w' v' wB er;subst ew;have aj:j8.mode=.returning:=by
  have:=A.mode;rw[hm]at this
  cases hq:j8.mode<;>rw[hq]at this<;>first|rfl|cases this
 have ak:j8.defers=[]:=by
  have:=A.defers;rw[hd]at this
  cases hq:j8.defers<;>rw[hq]at this<;>first|rfl|cases this
 exact⟨.returned v',wB,j8,⟨v,v',wE,ag,rfl,hR,g,ai,k3.trans k4.size ah,k4⟩,k1,A.fn.trans X,aj,ak,A.kind.trans af,fn,by rw[A.fn];exact L,er⟩
end
section
open Go Go.Proofs.YtjnkcibpkkjniaaGreat
section
variable [Scope] {ρ:j7}
theorem VR.pl{v:Value}(h:Pl v):VR ρ v v:=by
 rcases h with⟨k,n,rfl⟩|⟨s,rfl⟩|⟨b,rfl⟩|⟨l,c,rfl⟩
 ·exact .int k n
 ·exact .string s
 ·exact .bool b
 ·exact .mI l c
theorem VR.ED{v v':Value}(h:Pl v)(k:VR ρ v v'):v'=v:=by
 rcases h with⟨k',n,rfl⟩|⟨s,rfl⟩|⟨b,rfl⟩|⟨l,c,rfl⟩
 ·exact VR.qL k
 ·cases k;rfl
 ·exact VR.A9 k
 ·cases k;rfl
end
def nJ (p:Pz) (pa:Option Addr) (b:Nat):Prop:=(∃ad,p.ia=some ad∧ad.block=b)∨(∃ad,p.ea=some ad∧ad.block=b)∨∃ad,pa=some ad∧ad.block=b
def mq (w:World) (b:Nat):Prop:=∃cur ty fr,w.heap[b]?=some (.cells cur ty fr)∧(∀u∈cur.toList,Pl u)∧fr=(0,0)
variable {w w':World} {b:Nat}
theorem mq.keep(h:mq w b)(e:w'.heap[b]?=w.heap[b]?):mq w' b:=by
 obtain⟨cur,ty,fr,a,c⟩:=h;exact⟨cur,ty,fr,e.trans a,c⟩
structure pA (w:World) (xb:Nat) (Z:List Value) (au id:Int) (p:Pz) (st hold heard spoke:Int) (pa:Option Addr) (pl pc:Nat):Prop where
 blk:w.heap[xb]?=some (.cells (kt au id p st hold heard spoke (.slice pa pl pc)++Z.toArray) 100 (0,0))
 spare:∀u∈Z,Pl u
 rows:∀b,nJ p pa b→b≠xb∧mq w b
theorem pA.keep{w w':World}{xb:Nat}{Z:List Value}{au id:Int}{p:Pz}{st hold heard spoke:Int}{pa:Option Addr}{pl pc:Nat}(h:pA w xb Z au id p st hold heard spoke pa pl pc)(k:∀b,b=xb∨nJ p pa b→w'.heap[b]?=w.heap[b]?):pA w' xb Z au id p st hold heard spoke pa pl pc :=
 ⟨(k xb (.inl rfl)).trans h.blk,h.spare,fun b hb=>⟨(h.rows b hb).1,(h.rows b hb).2.keep (k b (.inr hb))⟩⟩
theorem tW(au id:Int)(p:Pz)(st hold heard spoke:Int)(pv:Value):(kt au id p st hold heard spoke pv).size=14:=rfl
section
variable [Scope]
theorem EE{ρ:j7}{au id:Int}{p:Pz}{st hold heard spoke:Int}{pa:Option Addr}{pl pc:Nat}(hb:Scope.base=0)(h:∀ad,(p.ia=some ad∨p.ea=some ad∨pa=some ad)→ρ ad.block=some ⟨ad.block,none⟩):ki ρ (kt au id p st hold heard spoke (.slice pa pl pc)) (kt au id p st hold heard spoke (.slice pa pl pc)):=by
 have f:∀(a:Option Addr)(l c:Nat),(∀ad,a=some ad→ρ ad.block=some ⟨ad.block,none⟩)→VR ρ (.slice a l c) (.slice a l c):=fun a l c o=>by
  cases a with
  |none=>exact .mI l c
  |some ad=>exact .slice l c ⟨by rw[hb];exact eP _,⟨ad.block,none⟩,o ad rfl,rfl,by simp[Place.shift],rfl⟩
 have u:=f p.ia p.il p.ic fun ad e=>h ad (.inl e)
 have y:=f p.ea p.el p.ec fun ad e=>h ad (.inr (.inl e))
 have g:=f pa pl pc fun ad e=>h ad (.inr (.inr e))
 refine ki.diag fun i v k=>?_
 have z:i<14:=(dv.1 k).1;obtain rfl|rfl|rfl|rfl|rfl|rfl|rfl|rfl|rfl|rfl|rfl|rfl|rfl|rfl:i=0∨i=1∨i=2∨i=3∨i=4∨i=5∨i=6∨i=7∨i=8∨i=9∨i=10∨i=11∨i=12∨i=13:=by omega
 all_goals
  simp[kt]at k;subst k
  first
   |exact .int _ _
   |exact u
   |exact y
   |exact g
end
section
variable [Scope] {ρ:j7}
theorem EF{au id:Int}{p:Pz}{st hold heard spoke:Int}{pa:Option Addr}{pl pc:Nat}{C:Array Value}(h:ki ρ (kt au id p st hold heard spoke (.slice pa pl pc)) C):∃(p':Pz)(c:Option Addr),C=kt au id p' st hold heard spoke (.slice c pl pc)∧p'.au=p.au∧p'.hold=p.hold∧VR ρ (.slice p.ia p.il p.ic) (.slice p'.ia p.il p.ic)∧VR ρ (.slice p.ea p.el p.ec) (.slice p'.ea p.el p.ec)∧VR ρ (.slice pa pl pc) (.slice c pl pc):=by
 have H:C.size=14:=h.size.symm;obtain⟨c0,c1,c2,c3,c4,I,J,K,L,M,f,g,k,lf,rfl⟩:=QH H;have g0:=VR.qL (h.get 0 _ c0 rfl rfl);have O:=VR.qL (h.get 1 _ c1 rfl rfl);have R:=VR.qL (h.get 2 _ c2 rfl rfl);have U:=VR.qL (h.get 3 _ c3 rfl rfl);have V:=VR.qL (h.get 4 _ c4 rfl rfl);have W:=VR.qL (h.get 5 _ I rfl rfl);have X:=VR.qL (h.get 6 _ J rfl rfl);have o:=h.get 7 _ K rfl rfl;have u:=h.get 8 _ L rfl rfl;have a:=h.get 13 _ lf rfl rfl;obtain⟨Y,F⟩:=VR.vX o;obtain⟨a8,G⟩:=VR.vX u;have g9:=VR.qL (h.get 9 _ M rfl rfl);have y:=VR.qL (h.get 10 _ f rfl rfl);have z:=VR.qL (h.get 11 _ g rfl rfl);have A:=VR.qL (h.get 12 _ k rfl rfl);obtain⟨B,e⟩:=VR.vX a;rw[F]at o;rw[G]at u;rw[e]at a;exact⟨{ p with ia:=Y,ea:=a8 },B,by rw[g0,O,R,U,V,W,X,F,G,g9,y,z,A,e];rfl,rfl,rfl,o,u,a⟩
theorem ki.EG{xs ys:Array Value}(h:ki ρ xs ys)(hp:∀u∈xs.toList,Pl u):ys=xs :=
 tL h.size fun i v v' a b=>VR.ED (hp v (by have:=dC a;simpa using this)) (h.get i v v' a b)
theorem sM{a a':Option Addr}{l c:Nat}{f:Addr}(h:VR ρ (.slice a l c) (.slice a' l c))(e:a'=some f)(k:Scope.sync=true→∀ad q,a=some ad→ρ ad.block=some q→q.part=none):∃ad q,a=some ad∧ρ ad.block=some q∧q.block=f.block:=by
 subst e
 cases h with
 |slice _ _ o=>obtain⟨_,q,u,y,_⟩:=o;exact⟨_,q,rfl,u,y.symm⟩
 |nD z g=>obtain⟨b,x,g⟩:=g;exact absurd (k z _ _ rfl g) (by simp)
theorem mq.over{w w':World}(h:HR ρ w w'){b:Nat}{q:Place}(e:ρ b=some q)(hp:q.part=none)(hb:mq w b):mq w' q.block:=by
 obtain⟨cur,ty,fr,f,c⟩:=hb;obtain⟨o,o',k1,k2,a⟩:=h.obj b q e;rw[f]at k1;cases k1
 unfold mD at a;rw[hp]at a
 cases a with
 |cells g =>
  rw[g.EG c.1]at k2;exact⟨cur,ty,fr,k2,c⟩
theorem pA.core{w w':World}{xb:Nat}{Z:List Value}{au id:Int}{p:Pz}{st hold heard spoke:Int}{pa:Option Addr}{pl pc:Nat}{S':Array Value}(h:HR ρ w w')(f:∀b q,b≠xb→ρ b=some q→q.part=none)(C:∃q,ρ xb=some q∧q.block=xb)(H:∀u∈Z,Pl u)(a:∀b,nJ p pa b→b≠xb∧mq w b)(I:ki ρ (kt au id p st hold heard spoke (.slice pa pl pc)) S')(hb:w'.heap[xb]?=some (.cells (S'++Z.toArray) 100 (0,0))):∃(p':Pz)(c:Option Addr),pA w' xb Z au id p' st hold heard spoke c pl pc∧p'.au=p.au∧p'.hold=p.hold∧(∀b',nJ p' c b'→∃b q,nJ p pa b∧ρ b=some q∧q.block=b')∧VR ρ (.slice pa pl pc) (.slice c pl pc)∧VR ρ (.slice p.ia p.il p.ic) (.slice p'.ia p.il p.ic)∧VR ρ (.slice p.ea p.el p.ec) (.slice p'.ea p.el p.ec):=by
 obtain⟨p',c,rfl,J,K,G,v8,y⟩:=EF I;have z:∀b',nJ p' c b'→∃b q,nJ p pa b∧ρ b=some q∧q.block=b':=by
  rintro b' (⟨A,k1,k2⟩|⟨A,k1,k2⟩|⟨A,k1,k2⟩)
  ·obtain⟨ad,q,o,g,k⟩:=sM G k1 fun _ ad q e B=>f _ q (a _ (.inl ⟨ad,e,rfl⟩)).1 B
   exact⟨ad.block,q,.inl ⟨ad,o,rfl⟩,g,k.trans k2⟩
  ·obtain⟨ad,q,o,g,k⟩:=sM v8 k1 fun _ ad q e B=>f _ q (a _ (.inr (.inl ⟨ad,e,rfl⟩))).1 B
   exact⟨ad.block,q,.inr (.inl ⟨ad,o,rfl⟩),g,k.trans k2⟩
  ·obtain⟨ad,q,o,g,k⟩:=sM y k1 fun _ ad q e B=>f _ q (a _ (.inr (.inr ⟨ad,e,rfl⟩))).1 B
   exact⟨ad.block,q,.inr (.inr ⟨ad,o,rfl⟩),g,k.trans k2⟩
 refine⟨p',c,⟨hb,H,fun b' F=>?_⟩,J,K,z,y,G,v8⟩;obtain⟨b,q,o,g,rfl⟩:=z b' F;obtain⟨k,L⟩:=a b o;obtain⟨M,O,R⟩:=C;exact⟨fun e=>k (h.inj b xb q M g O (e.trans R.symm)),L.over h g (f b q k g)⟩
theorem pA.spread{tt:Nat}{g:j7}{wE w w':World}{xb:Nat}{Z:List Value}{H:Array Value}{au id:Int}{p:Pz}{st hold heard spoke:Int}{pa:Option Addr}{pl pc:Nat}(h:HR ρ wE w')(z:∀b q,b≠xb→ρ b=some q→q.part=none)(k:ρ xb=some ⟨xb,some ⟨0,14,(100,tt)⟩⟩)(L:Kept g w w')(A:g xb=some ⟨xb,some ⟨0,14,(100,tt)⟩⟩)(hw:w.heap[xb]?=some (.cells (H++Z.toArray) 100 (0,0)))(y:H.size=14)(M:∀u∈Z,Pl u)(I:pA wE xb [] au id p st hold heard spoke pa pl pc):∃(p':Pz)(f:Option Addr),pA w' xb Z au id p' st hold heard spoke f pl pc∧p'.au=p.au∧p'.hold=p.hold∧(∀b',nJ p' f b'→∃b q,nJ p pa b∧ρ b=some q∧q.block=b')∧VR ρ (.slice pa pl pc) (.slice f pl pc)∧VR ρ (.slice p.ia p.il p.ic) (.slice p'.ia p.il p.ic)∧VR ρ (.slice p.ea p.el p.ec) (.slice p'.ea p.el p.ec):=by
 obtain⟨o,o',k1,k2,B⟩:=h.obj xb _ k;rcases B with⟨_,_,j,_⟩|⟨c,C,J,O,_,B⟩
 ·exact absurd j (by decide)
 rw[I.blk]at k1;simp only[dW]at k1;subst k1;simp only[jE]at J;obtain⟨rfl,_⟩:=J;subst O;obtain⟨X,Y,R,fr,_,F,K,U,V⟩:=L.part xb _ 0 14 _ A rfl;rw[hw]at F;simp only[dW,jE]at F;obtain⟨rfl,rfl,rfl⟩:=F;have k2:w'.heap[xb]?=_:=k2;rw[K]at k2;simp only[dW,jE]at k2;obtain⟨rfl,_⟩:=k2;obtain⟨l⟩:=R;have hlen:l.length=14+Z.length:=by simp[y]at U;omega
 have hS:ki ρ (kt au id p st hold heard spoke (.slice pa pl pc)) (l.take 14).toArray:=by
  refine⟨by simp[tW];omega,fun i v v' a b=>?_⟩;have W:i<14:=(dv.1 a).1;obtain⟨v2,r1,r2⟩:=B.get i v (by simpa using a);simp only[fV]at b r1;rw[jF W]at b;rw[dG]at r1;rw[r1]at b
  cases b
  exact r2
 have G:l.drop 14=Z:=by
  apply List.ext_getElem?;intro i;rw[jG];have:=V (14+i) (.inr (by omega));rw[gW (by omega)]at this;simp[y]at this;exact this
 refine pA.core h z ⟨_,k,rfl⟩ M I.rows hS ?_;have e:(⟨l⟩:Array Value)=(l.take 14).toArray++Z.toArray:=by
  rw[←G];simp
 rw[←e];exact K
end
theorem QJ:Tryz.prog.globals.size=0:=by kernel_rfl
theorem tX:kl.base=0:=QJ
structure tY (w:World) (m:Value) (E:Nat→Prop):Prop where
 rel:∀(SC:Scope)(ρ:j7),SC.base=0→(∀b,E b→ρ b=some ⟨b,none⟩)→@VR SC ρ m m
 reach:∀b,E b→Nm m b
 plain:∀b,E b→mq w b
theorem tY.row{g n c:Nat}(h:mq w g):tY w (.slice (some ⟨g,0,none⟩) n c) (fun b=>b=g) :=
 ⟨fun SC ρ hb a=>@VR.slice SC ρ _ _ n c ⟨by rw[hb];exact eP _,⟨g,none⟩,a g rfl,rfl,by simp[Place.shift],rfl⟩,fun b e=>by subst e;exact .slice _ _ _,fun b e=>by subst e;exact h⟩
open Classical in
noncomputable def rO (xb tt:Nat) (N:Nat→Prop):j7:=fun b=>if b=xb then some ⟨xb,some ⟨0,14,(100,tt)⟩⟩ else if N b then some ⟨b,none⟩ else none
theorem Ba(xb tt:Nat)(N:Nat→Prop):rO xb tt N xb=some ⟨xb,some ⟨0,14,(100,tt)⟩⟩:=by simp[rO]
variable {xb tt:Nat} {N:Nat→Prop}
theorem EH(h:b≠xb)(k:N b):rO xb tt N b=some ⟨b,none⟩:=by simp[rO,h,k]
variable {q:Place}
theorem Bb(h:rO xb tt N b=some q):(b=xb∧q=⟨xb,some ⟨0,14,(100,tt)⟩⟩)∨(b≠xb∧N b∧q=⟨b,none⟩):=by
 unfold rO at h;split at h
 ·rename_i e;cases h;exact .inl ⟨e,rfl⟩
 ·rename_i e;split at h
  ·rename_i k;cases h;exact .inr ⟨e,k,rfl⟩
  ·cases h
theorem EI(h:rO xb tt N b=some q):q.block=b:=by
 rcases Bb h with⟨rfl,rfl⟩|⟨_,_,rfl⟩<;>rfl
def small (w:World) (xb:Nat) (S:Array Value):World:={ w with heap:=w.heap.setIfInBounds xb (.cells S 100 (0,0)) }
variable {S:Array Value}
theorem yO(h:xb<w.heap.size):(small w xb S).heap[xb]?=some (.cells S 100 (0,0)):=by
 show(w.heap.setIfInBounds xb _)[xb]?=_;rw[fj h]
theorem tl(h:b≠xb):(small w xb S).heap[b]?=w.heap[b]?:=by
 show(w.heap.setIfInBounds xb _)[b]?=_;rw[dO (dJ h)]
theorem EJ(w:World)(xb:Nat)(S:Array Value):(small w xb S).heap.size=w.heap.size:=by simp[small]
variable {Z:List Value} {au id st hold heard spoke:Int} {p:Pz} {pa:Option Addr} {pl pc:Nat}
theorem pA.small(h:pA w xb Z au id p st hold heard spoke pa pl pc):pA (kx.small w xb (kt au id p st hold heard spoke (.slice pa pl pc))) xb [] au id p st hold heard spoke pa pl pc :=
 ⟨by rw[yO (dv.1 h.blk).1];simp,(fun u hu=>by cases hu),fun b hb=>⟨(h.rows b hb).1,(h.rows b hb).2.keep (tl (h.rows b hb).1)⟩⟩
theorem QK(h:pA w xb Z au id p st hold heard spoke pa pl pc){E:Nat→Prop}(u:∀b,E b→b≠xb∧mq w b):@HR kl (rO xb (14+Z.length) fun b=>nJ p pa b∨E b) (kx.small w xb (kt au id p st hold heard spoke (.slice pa pl pc))) w:=by
 refine @HR.mk kl _ _ _ (fun b q c=>?_) (fun b b' q q' c f e=>?_) (by rw[tX];exact eP _) rfl (fun e=>by cases e)
 ·rcases Bb c with⟨rfl,rfl⟩|⟨g,hN,rfl⟩
  ·refine⟨_,_,yO (dv.1 h.blk).1,h.blk,.inr ⟨_,_,rfl,rfl,⟨⟨rfl,Nat.dvd_zero _⟩,by simp[tW]⟩,?_⟩⟩;have y:=@EE kl (rO b (14+Z.length) fun b=>nJ p pa b∨E b) au id p st hold heard spoke pa pl pc tX (fun ad hd=>by
    have k:nJ p pa ad.block:=by
     rcases hd with e|e|e
     ·exact .inl ⟨ad,e,rfl⟩
     ·exact .inr (.inl ⟨ad,e,rfl⟩)
     ·exact .inr (.inr ⟨ad,e,rfl⟩)
    exact EH (h.rows _ k).1 (.inl k))
   refine @sU.mk kl _ _ _ _ _ rfl (by simp[tW]) (fun i v a=>⟨v,?_,@ki.get kl _ _ _ y i v v a a⟩);rw[dG,gI (dv.1 a).1];exact a
  ·have hp:mq w b:=by
    rcases hN with hN|hN
    ·exact(h.rows b hN).2
    ·exact(u b hN).2
   obtain⟨cur,ty,fr,o,z⟩:=hp;exact⟨_,_,(tl g).trans o,o,@OR.cells kl _ _ _ _ _ (@ki.diag kl _ _ fun i v a=>@VR.pl kl _ _ (z.1 v (by have:=dC a;simpa using this)))⟩
 ·rw[EI c,EI f]at e;exact e
theorem nv.QL[Scope]{ρ:j7}(h:HR ρ w w'){v v':Value}{xs:List Int}(hw:∀k q,v.ownBlock=some k→ρ k=some q→q.part=none)(f:VR ρ v v')(hr:nv w v xs):nv w' v' xs:=by
 obtain⟨c,⟨rfl,ao,rfl⟩|⟨g,rfl,z,F⟩⟩:=hr
 ·obtain⟨a',rfl⟩:=VR.vX f;exact⟨c,.inl ⟨rfl,a',rfl⟩⟩
 ·generalize A:xs.length=n at f z
  cases f with
  |nD _ _=>exact⟨0,.inl ⟨js A,_,rfl⟩⟩
  | @slice a a' _ _ G =>
   subst A;obtain⟨_,p,hp,B,o,C⟩:=G;have e:=hw g p rfl hp;obtain⟨b',o',s'⟩:=a';simp only at B o C;have y:p.shift=0:=by unfold Place.shift;rw[e]
   rw[y]at o;obtain rfl:b'=p.block:=B;obtain rfl:o'=0:=by simpa using o
   subst C;refine⟨c,.inr ⟨p.block,rfl,z,fun i H=>?_⟩⟩;obtain⟨u,k1,k2⟩:=h.QI hp e (F i H);rw[k1,VR.qL k2]
end
end Go.Proofs.YtjnkcibpkkjniaaGreat.kx
namespace Go.Proofs.YtjnkcibpkkjniaaGreat
section
open Go Go.RowKit
open Go.Proofs.YtjnkcibpkkjniaaGreat.kN (lh lO oL)
end
section
open Go Go.RowKit
def ue (w:World) (sb:Nat) (pv:Value) (ins:List ky) (kY:Value):Prop :=
 (ins=[]∧∃ao cp,kY=.slice ao 0 cp)∨(∃ib io cp,kY=.slice (some ⟨ib,io,none⟩) ins.length cp∧ib<w.heap.size∧ib≠sb∧pv.ownBlock≠some ib∧pU w ib io ins)
variable {w:World} {sb:Nat} {now au id:Int} {p:Pz} {s:SV} {pv:Value}
theorem So{q:Option Nat}{base tb:Nat}(h:mz q w base tb sb now (.slice none 0 0) [] false false au id p s pv)(a:mA s)(c:s.st=0→pv=.slice none 0 0)(f:∀k,pv.ownBlock=some k→k<base)(g:lA now)(ao:Option Addr)(cp:Nat):Calls Tryz.prog 79 #[.pointer (some ⟨tb,0,none⟩),.slice ao 0 cp] w fun e w'=>(∃v,e=.returned v)∧WQ q w base tb sb now au id p (qO p.au p.hold au id now s []) w':=by
 refine QF (Pw:=fun w'=>WQ q w base tb sb now au id p (qO p.au p.hold au id now s []) w') fun w1 hB=>?_
 have o:mz q w1 base tb sb now (.slice none 0 0) [] false false au id p s pv:=kH.below h hB;refine(Fx o a c f g []).mono ?_;rintro e w' ⟨u,y,z⟩;exact⟨u,pT.done z ((kC.below hB h.ts.lt.2.2).trans y.wide)⟩
structure Fz (w0 w:World) (sb:Nat) (au id:Int) (p:Pz) (uf:Value) (x:SV×List Int×Bool) (v:Value) (pv:Value):Prop where
 s:w.heap[sb]?=some (.cells (kt au id p x.1.st x.1.hold x.1.heard x.1.spoke pv) 100 (0,0))
 v:∃sv,v=.agg #[sv,.bool x.2.2]∧w.ownsRow w0.heap.size 5 1 sv x.2.1.length (cellsOf x.2.1)∧∀k,pv.ownBlock=some k→sv.ownBlock≠some k
 own:w.ownsRow 0 5 1 pv x.1.part.length (cellsOf x.1.part)
 pl:lE Pl w pv
 wh:∀k,pv.ownBlock=some k→k≠sb∧(w0.heap.size≤k∨uf.ownBlock=some k)
 nil:x.1.st=0→pv=.slice none 0 0
 os:w.os=w0.os
 size:w0.heap.size≤w.heap.size
 heap:∀b,b<w0.heap.size→b≠sb→uf.ownBlock≠some b→w.heap[b]?=w0.heap[b]?
theorem Sp{w2 w':World}{s1:SV}{uf sv:Value}{sent:List Int}{cl ov:Bool}(o:∀k,uf.ownBlock=some k→k<w.heap.size)(G:w2.heap.size=w.heap.size+2)(u:w2.os=w.os)(A:∀b,b<w.heap.size→w2.heap[b]?=w.heap[b]?)(B:sb<w.heap.size)(g:mz uf.ownBlock w' (w.heap.size+2) (w.heap.size+1) sb now sv sent cl ov au id p s1 pv)(h:s1.st=0→pv=.slice none 0 0)(y:kC uf.ownBlock (w.heap.size+2) (w.heap.size+1) sb w2 w')(a b:Value):Fz w ((w'.setCell ⟨w.heap.size,0,none⟩ a).setCell ⟨w.heap.size,1,none⟩ b) sb au id p uf (s1,sent,cl) (.agg #[sv,.bool cl]) pv:=by
 have C:=y.size;have f:∀k,pv.ownBlock=some k→k≠sb∧k≠w.heap.size∧(w.heap.size≤k∨uf.ownBlock=some k):=fun k c=>by
  refine⟨(g.ne k c).2.2,?_⟩;rcases g.wh k c with e|e
  ·exact⟨by omega,.inl (by omega)⟩
  ·exact⟨by have:=o k e.1;omega,.inr e.1⟩
 refine⟨?_,⟨sv,rfl,A8 (lM g.ts.own fun k c=>?_) (by omega),g.mS⟩,lM g.own fun k c=>?_,g.pl.keep fun k c=>?_,fun k c=>⟨(f k c).1,(f k c).2.2⟩,h,y.os.trans u,?_,fun x hx z F=>?_⟩
 ·rw[kA (by omega),kA (by omega)];exact g.ts.s
 ·have:=(jA g.ts.own k c).1;rw[kA (by omega),kA (by omega)]
 ·have:=(f k c).2.1;rw[kA (by omega),kA (by omega)]
 ·have:=(f k c).2.1;rw[kA (by omega),kA (by omega)]
 ·simp[World.setCell];omega
 ·rw[kA (by omega),kA (by omega),y.heap x (by omega) (by omega) z F];exact A x hx
theorem Sq(L:w.heap[sb]?=some (.cells (kt au id p s.st s.hold s.heard s.spoke pv) 100 (0,0)))(f:w.ownsRow 0 5 1 pv s.part.length (cellsOf s.part))(z:lE Pl w pv)(A:∀k,pv.ownBlock=some k→k≠sb)(h:mA s)(u:s.st=0→pv=.slice none 0 0)(R:lA now)(hid:0≤id)(B:0≤p.hold∧p.hold≤65535){ins:List ky}(hlen:ins.length≤1152921504606846976)(hb:∀x∈ins,Bytes x.d∧x.d.length≤1152921504606846976){kY:Value}(C:ue w sb pv ins kY):Calls Tryz.prog 60 #[.pointer (some ⟨sb,0,none⟩),.int .i64 now,kY] w fun e w'=>∃v F,e=.returned v∧Fz w w' sb au id p pv (pS p.au p.hold au id now s ins) v F:=by
 have G:sb<w.heap.size:=(dv.1 L).1;have a:∀k,pv.ownBlock=some k→k<w.heap.size:=fun k c=>(jA f k c).2
 have M:(((w.alloc (.cells #[.slice none 0 0,.bool false] 140)).alloc (.cells #[.pointer (some ⟨sb,0,none⟩),.int .i64 now,.slice none 0 0,.bool false,.bool false] 171)).heap.size)=w.heap.size+2:=by simp
 have hA:∀o p:Obj,((w.alloc o).alloc p).heap[w.heap.size]?=some o:=fun o p=>by
  rw[Go.heap_alloc_old _ _ (by simp)];exact jL w o
 have hB:∀o p:Obj,((w.alloc o).alloc p).heap[w.heap.size+1]?=some p:=fun o p=>by
  have:=jL (w.alloc o) p;rw[iO]at this;exact this
 have g:∀(o p:Obj) b,b<w.heap.size→((w.alloc o).alloc p).heap[b]?=w.heap[b]?:=fun o p b hb=>by
  rw[Go.heap_alloc_old _ _ (by rw[iO];omega),Go.heap_alloc_old _ _ hb]
 have U:mz pv.ownBlock ((w.alloc (.cells #[.slice none 0 0,.bool false] 140)).alloc (.cells #[.pointer (some ⟨sb,0,none⟩),.int .i64 now,.slice none 0 0,.bool false,.bool false] 171)) (w.heap.size+2) (w.heap.size+1) sb now (.slice none 0 0) [] false false au id p s pv :=
  ⟨⟨hB _ _,(g _ _ sb G).trans L,ju _ _ _ _,⟨by omega,by omega,by rw[M];exact dD _⟩,by omega⟩,by simp[kt],lM f fun k c=>g _ _ k (a k c),fun k _ e=>(by cases e),z.keep fun k c=>g _ _ k (a k c),fun k c=>.inr ⟨c,by have:=a k c;omega,A k c⟩⟩
 have HH:Hid (Calls Tryz.prog 79 #[.pointer (some ⟨w.heap.size+1,0,none⟩),kY] ((w.alloc (.cells #[.slice none 0 0,.bool false] 140)).alloc (.cells #[.pointer (some ⟨sb,0,none⟩),.int .i64 now,.slice none 0 0,.bool false,.bool false] 171)) fun e w'=>(∃v,e=.returned v)∧WQ pv.ownBlock ((w.alloc (.cells #[.slice none 0 0,.bool false] 140)).alloc (.cells #[.pointer (some ⟨sb,0,none⟩),.int .i64 now,.slice none 0 0,.bool false,.bool false] 171)) (w.heap.size+2) (w.heap.size+1) sb now au id p (qO p.au p.hold au id now s ins) w'):=by
  rcases C with⟨rfl,ao,cp,rfl⟩|⟨ib,io,cp,rfl,i1,i2,i3,i4⟩
  ·exact So U h u (fun k c=>by have:=a k c;omega) R ao cp
  ·exact Sn U h u (fun k c=>c) (fun k c=>by have:=a k c;omega) R hid B hlen hb ⟨by omega,by omega,i2,i3⟩ (i4.keep (g _ _ ib i1))
 have HA:Hid (((w.alloc (.cells #[.slice none 0 0,.bool false] 140)).alloc (.cells #[.pointer (some ⟨sb,0,none⟩),.int .i64 now,.slice none 0 0,.bool false,.bool false] 171)).heap[w.heap.size]?=_):=hA _ _;have HO:Hid _:=g;have Hs:Hid _:=L;have V:Hid (_):=a;have W:pv.ownBlock≠some w.heap.size:=fun e=>by have:=a _ e;omega
 rw[Sk];generalize qO p.au p.hold au id now s ins=r at HH ⊢;clear U hA hB g M L f z A h u R hid B hlen hb C a;go_enter Tryz.func60,Tryz.ntmps60
 go_wp2_with (go_at_call 79;go_loud (refine HH.out.mono ?_);go_loud (rintro e w' ⟨⟨v,rfl⟩,H,sv',F,ov',y,I⟩);go_loud (obtain⟨⟨d0,d1,d2,d3,d4⟩,y2,y3,y4⟩:=y.ts.facts);go_loud (obtain⟨J,K,rfl,_⟩:=mV y.ts.own);go_loud (have O:=(H.heap w.heap.size (by omega) (by omega) (by omega) W).trans HA.out);go_loud (have q0:=kh O 0);go_loud (have q1:=kh O 1);go_loud (have p0:=lj O 0);go_loud (have p1:=lj O 1);simp at q0 q1)
 have X:=fun M Y g=>Sp V.out M Y g G y I H (.slice J (pC r).2.1.length K) (.bool (pC r).2.2)
 have hE:=X (by simp) rfl (fun b hb=>HO.out _ _ b hb);exact iQ (v:=.agg #[.slice J (pC r).2.1.length K,.bool (pC r).2.2]) (by simp[results,Tryz.results60,go_sem,q0,q1]) rfl ⟨_,_,rfl,hE⟩
end
end Go.Proofs.YtjnkcibpkkjniaaGreat
namespace Go.Proofs.YtjnkcibpkkjniaaGreat.kx
section
open Go Go.Proofs.YtjnkcibpkkjniaaGreat
def pV (w:World) (pv:Value) (xs:List Int):Prop:=w.ownsRow 0 5 1 pv xs.length (cellsOf xs)∧lE Pl w pv
theorem pV.keep{w w':World}{pv:Value}{xs:List Int}(h:pV w pv xs)(k:∀b,pv.ownBlock=some b→w'.heap[b]?=w.heap[b]?):pV w' pv xs:=⟨lM h.1 k,h.2.keep k⟩
theorem pV.nil(w:World):pV w (.slice none 0 0) []:=⟨ju _ _ _ _,lE.nil _ _⟩
section
variable [Scope] {ρ:j7}
theorem pV.over{w w':World}(h:HR ρ w w'){pa f:Option Addr}{pl pc:Nat}{xs:List Int}(hw:∀k q,(Value.slice pa pl pc).ownBlock=some k→ρ k=some q→q.part=none)(F:VR ρ (.slice pa pl pc) (.slice f pl pc))(hr:pV w (.slice pa pl pc) xs):pV w' (.slice f pl pc) xs:=by
 obtain⟨⟨G,L⟩,M⟩:=hr;rcases L with⟨e,O⟩|⟨g,c,cur,e,_,H,R,U,V,W⟩
 ·simp only[jQ]at e;obtain⟨rfl,rfl,rfl⟩:=e
  cases F
  exact⟨⟨G,.inl ⟨rfl,O⟩⟩,lE.nil _ _⟩
 ·simp only[jQ]at e;obtain⟨rfl,rfl,rfl⟩:=e;obtain⟨a',I,X⟩:=F.QG fun q z=>hw g q rfl z
  simp only[jQ]at I;obtain⟨rfl,_,_⟩:=I;show pV w' _ xs
  ·obtain⟨_,q,z,A,a,J⟩:=X;have u:=hw g q rfl z;obtain⟨b',o',s'⟩:=a';simp only at A a J;have B:q.shift=0:=by unfold Place.shift;rw[u]
   rw[B]at a;obtain rfl:b'=q.block:=A;obtain rfl:o'=0:=by simpa using a
   subst J;have y:=M g cur 5 (0,0) rfl H;obtain⟨o,o2,r1,r2,C⟩:=h.obj g q z;rw[H]at r1
   cases r1
   unfold mD at C;rw[u]at C
   cases C with
   |cells Y =>
    rw[Y.EG y]at r2;refine⟨⟨G,.inr ⟨q.block,_,cur,rfl,eP _,r2,R,U,V,W⟩⟩,fun g' K ty fr A a=>?_⟩;obtain rfl:q.block=g':=by simpa[Value.ownBlock]using A
    rw[r2]at a;simp only[dW,jE]at a;obtain⟨rfl,_⟩:=a;exact y
end
def pW (p:Pz) (b:Nat):Prop:=(∃ad,p.ia=some ad∧ad.block=b)∨(∃ad,p.ea=some ad∧ad.block=b)
structure qi (w:World) (xb:Nat) (Z:List Value) (au id:Int) (p:Pz) (s:SV) (pa:Option Addr) (pl pc:Nat):Prop where
 ss:pA w xb Z au id p s.st s.hold s.heard s.spoke pa pl pc
 row:pV w (.slice pa pl pc) s.part
 sep:∀k,(Value.slice pa pl pc).ownBlock=some k→¬pW p k
variable {p:Pz} {pa:Option Addr} {pl pc:Nat}
theorem ug{k:Nat}(h:(Value.slice pa pl pc).ownBlock=some k):nJ p pa k:=by
 cases pa with
 |none=>cases h
 |some ad=>exact .inr (.inr ⟨ad,rfl,by simpa[Value.ownBlock]using h⟩)
theorem qi.keep{w w':World}{xb:Nat}{Z:List Value}{au id:Int}{p:Pz}{s:SV}{pa:Option Addr}{pl pc:Nat}(h:qi w xb Z au id p s pa pl pc)(k:∀b,b=xb∨nJ p pa b→w'.heap[b]?=w.heap[b]?):qi w' xb Z au id p s pa pl pc :=
 ⟨h.ss.keep k,h.row.keep (fun b hb=>k b (.inr (ug hb))),h.sep⟩
theorem qi.small{w:World}{xb:Nat}{Z:List Value}{au id:Int}{p:Pz}{s:SV}{pa:Option Addr}{pl pc:Nat}(h:qi w xb Z au id p s pa pl pc):qi (kx.small w xb (kt au id p s.st s.hold s.heard s.spoke (.slice pa pl pc))) xb [] au id p s pa pl pc :=
 ⟨h.ss.small,h.row.keep (fun b hb=>tl (h.ss.rows b (ug hb)).1),h.sep⟩
def Bu (xb:Nat) (Z:List Value) (au id A H:Int) (x:SV×List Int×Bool) (v:Value) (w:World):Prop :=
 ∃(p:Pz)(pa:Option Addr)(pl pc:Nat),qi w xb Z au id p x.1 pa pl pc∧p.au=A∧p.hold=H∧(x.1.st=0→(Value.slice pa pl pc)=.slice none 0 0)∧∃sv,v=.agg #[sv,.bool x.2.2]∧nv w sv x.2.1∧(∃a l c,sv=.slice a l c)∧∀k,sv.ownBlock=some k→k≠xb
variable {w:World}
theorem Sr{base:Nat}{sv:Value}{xs:List Int}(h:w.ownsRow base 5 1 sv xs.length (cellsOf xs)):nv w sv xs:=by
 obtain⟨y,a⟩:=h;rcases a with⟨rfl,e⟩|⟨g,c,cur,rfl,_,f,k,z,A,o⟩
 ·exact⟨0,.inl ⟨js e,none,rfl⟩⟩
 ·refine⟨c,.inr ⟨g,rfl,k,fun i u=>?_⟩⟩;have e:cur[i]?=some (.int .u8 xs[i]):=by
   have:(cur.toList.take (xs.length*1))[i]?=(cellsOf xs)[i]?:=by rw[o]
   rw[jF (by omega)]at this;rw[←jR,this];simp[cellsOf,jH u]
  show w.cell? _=_;rw[kh f i];exact e
variable {xb:Nat} {au id now:Int} {ins:List ky} {m:Value}
theorem Ss{s:SV}(h:qi w xb [] au id p s pa pl pc)(G:mA s)(H:s.st=0→(Value.slice pa pl pc)=.slice none 0 0)(R:lA now)(hid:0≤id)(I:0≤p.hold∧p.hold≤65535)(hlen:ins.length≤1152921504606846976)(hb:∀x∈ins,Bytes x.d∧x.d.length≤1152921504606846976)(J:ue w xb (.slice pa pl pc) ins m):Calls Tryz.prog 60 #[.pointer (some ⟨xb,0,none⟩),.int .i64 now,m] w fun e w'=>∃v,e=.returned v∧Bu xb [] au id p.au p.hold (pS p.au p.hold au id now s ins) v w':=by
 have o:=h.ss.blk;simp at o;refine(Sq o h.row.1 h.row.2 (fun k A=>(h.ss.rows k (ug A)).1) G H R hid I hlen hb J).mono ?_;rintro e w' ⟨v,U,rfl,f⟩;generalize pS p.au p.hold au id now s ins=x at f ⊢;obtain⟨ao,c,rfl,_⟩:=mV f.own;obtain⟨sv,rfl,B,L⟩:=f.v;obtain⟨V,c2,rfl,K⟩:=mV B;have W:xb<w.heap.size:=(dv.1 o).1;have C:∀k,(Value.slice ao x.1.part.length c).ownBlock=some k→¬pW p k:=fun k A y=>by
  rcases(f.wh k A).2 with e|e
  ·have:nJ p pa k:=by
    rcases y with e|e
    ·exact .inl e
    ·exact .inr (.inl e)
   obtain⟨_,cur,ty,fr,F,_⟩:=h.ss.rows k this;have:=(dv.1 F).1;omega
  ·exact h.sep k e y
 refine⟨_,rfl,p,ao,_,c,⟨⟨by simpa using f.s,(fun u hu=>by cases hu),fun b hb=>?_⟩,⟨f.own,f.pl⟩,C⟩,rfl,rfl,f.nil,_,rfl,Sr B,⟨_,_,_,rfl⟩,fun k A=>by have:=K k A;omega⟩
 by_cases a:(Value.slice ao x.1.part.length c).ownBlock=some b
 ·refine⟨(f.wh b a).1,?_⟩;rcases f.own.2 with⟨e,_⟩|⟨g,cp,cur,e,_,M,_⟩
  ·rw[e]at a;cases a
  ·have z:=a;rw[e]at z;obtain rfl:g=b:=by simpa[Value.ownBlock]using z
   exact⟨cur,5,(0,0),M,f.pl g cur 5 (0,0) a M,rfl⟩
 ·have y:pW p b:=by
   rcases hb with hb|hb|⟨ad,rfl,e⟩
   ·exact .inl hb
   ·exact .inr hb
   ·exact absurd (by simpa[Value.ownBlock]using e) a
  have hold:nJ p pa b:=by
   rcases y with e|e
   ·exact .inl e
   ·exact .inr (.inl e)
  obtain⟨O,cur,ty,fr,F,X⟩:=h.ss.rows b hold;exact⟨O,cur,ty,fr,(f.heap b (dv.1 F).1 O fun e=>h.sep b e y).trans F,X⟩
section
variable [Scope] {ρ:j7}
theorem FA{w w':World}(h:HR ρ w w'){p p':Pz}{pa a:Option Addr}{pl pc:Nat}(g:VR ρ (.slice pa pl pc) (.slice a pl pc))(H:VR ρ (.slice p.ia p.il p.ic) (.slice p'.ia p.il p.ic))(v8:VR ρ (.slice p.ea p.el p.ec) (.slice p'.ea p.el p.ec))(B:∀k,(Value.slice pa pl pc).ownBlock=some k→¬pW p k)(c:Scope.sync=false):∀k,(Value.slice a pl pc).ownBlock=some k→¬pW p' k:=by
 intro k C I
 cases a with
 |none=>cases C
 |some o =>
  obtain⟨ad,q,rfl,F,G⟩:=sM g rfl (fun e=>by rw[c]at e;cases e);have hb:o.block=k:=by simpa[Value.ownBlock]using C
  rcases I with⟨u,y,z⟩|⟨u,y,z⟩
  ·obtain⟨f,q',r1,r2,A⟩:=sM H y (fun e=>by rw[c]at e;cases e);exact B ad.block rfl (.inl ⟨f,r1,(h.inj _ _ _ _ r2 F (A.trans (z.trans (hb.symm.trans G.symm))))⟩)
  ·obtain⟨f,q',r1,r2,A⟩:=sM v8 y (fun e=>by rw[c]at e;cases e);exact B ad.block rfl (.inr ⟨f,r1,(h.inj _ _ _ _ r2 F (A.trans (z.trans (hb.symm.trans G.symm))))⟩)
theorem qi.spread{tt:Nat}{f:j7}{wE w w':World}{xb:Nat}{Z:List Value}{C:Array Value}{au id:Int}{p:Pz}{s:SV}{pa:Option Addr}{pl pc:Nat}(h:HR ρ wE w')(g:∀b q,b≠xb→ρ b=some q→q.part=none)(o:ρ xb=some ⟨xb,some ⟨0,14,(100,tt)⟩⟩)(z:Kept f w w')(A:f xb=some ⟨xb,some ⟨0,14,(100,tt)⟩⟩)(hw:w.heap[xb]?=some (.cells (C++Z.toArray) 100 (0,0)))(B:C.size=14)(G:∀u∈Z,Pl u)(y:qi wE xb [] au id p s pa pl pc):∃(p':Pz)(a:Option Addr),qi w' xb Z au id p' s a pl pc∧p'.au=p.au∧p'.hold=p.hold∧(∀b',nJ p' a b'→∃b q,nJ p pa b∧ρ b=some q∧q.block=b')∧VR ρ (.slice pa pl pc) (.slice a pl pc):=by
 obtain⟨p',a,k1,k2,H,I,c,J,v8⟩:=pA.spread h g o z A hw B G y.ss;exact⟨p',a,⟨k1,pV.over h (fun k q z K=>g k q (y.ss.rows k (ug z)).1 K) c y.row,FA h c J v8 y.sep (by
  cases e:Scope.sync with
  |false=>rfl
  |true=>rcases(h.sync e).2 _ _ o with F|⟨ty,F⟩<;>cases F)⟩,k2,H,I,c⟩
theorem FB{pa a:Option Addr}{pl pc:Nat}(v:VR ρ (.slice pa pl pc) (.slice a pl pc))(h:(Value.slice pa pl pc)=.slice none 0 0):(Value.slice a pl pc)=.slice none 0 0:=by
 simp only[jQ]at h;obtain⟨rfl,rfl,rfl⟩:=h
 cases v
 rfl
theorem FD{w w':World}(h:HR ρ w w'){sv v':Value}{cl:Bool}{sent:List Int}{xb:Nat}{B:Place}(hx:ρ xb=some B)(o:∀b q,b≠xb→ρ b=some q→q.part=none)(u:nv w sv sent)(C:∃a l c,sv=.slice a l c)(g:∀k,sv.ownBlock=some k→k≠xb)(J:VR ρ (.agg #[sv,.bool cl]) v'):∃a' l c,v'=.agg #[.slice a' l c,.bool cl]∧nv w' (.slice a' l c) sent∧∀k,(Value.slice a' l c).ownBlock=some k→k≠B.block:=by
 obtain⟨a,l,c,rfl⟩:=C
 cases J with
 | @agg _ ys y f =>
  have I:=f 0 _ _ rfl (dw (by simp at y;omega));have K:=VR.A9 (f 1 (.bool cl) _ rfl (dw (by simp at y;omega)));obtain⟨a',L⟩:=VR.vX I;have F:ys=#[.slice a' l c,.bool cl]:=by
   apply dP;intro i
   match i with
   |0=>rw[dw (by simp at y;omega),L];rfl
   |1=>rw[dw (by simp at y;omega),K];rfl
   |i+2=>rw[fH (by simp at y;omega),fH (by simp)]
  subst F;have z:VR ρ (.slice a l c) (.slice a' l c):=I;refine⟨a',l,c,rfl,nv.QL h (fun k q A G=>o k q (g k A) G) z u,fun k A e=>?_⟩
  cases a' with
  |none=>cases A
  |some H =>
   obtain⟨ad,q,M,O,R⟩:=sM z rfl (fun _ ad q e G=>o _ q (g ad.block (by rw[e];rfl)) G);subst M;have hb:H.block=k:=by simpa[Value.ownBlock]using A
   exact g ad.block rfl (h.inj ad.block xb q B O hx (R.trans (hb.trans e)))
end
theorem _root_.Go.Proofs.YtjnkcibpkkjniaaGreat.ue.keep{w w':World}{sb:Nat}{pv:Value}{ins:List ky}{kY:Value}(h:ue w sb pv ins kY)(e:w'.heap=w.heap):ue w' sb pv ins kY:=by
 rcases h with h|⟨ib,io,cp,rfl,i1,i2,i3,i4⟩
 ·exact .inl h
 ·exact .inr ⟨ib,io,cp,rfl,by rw[e];exact i1,i2,i3,i4.keep (by rw[e])⟩
variable {Z:List Value}
theorem Su{s:SV}(h:qi w xb Z au id p s pa pl pc)(I:mA s)(J:s.st=0→(Value.slice pa pl pc)=.slice none 0 0)(hn:lA now)(hid:0≤id)(K:0≤p.hold∧p.hold≤65535)(hlen:ins.length≤1152921504606846976)(hb:∀x∈ins,Bytes x.d∧x.d.length≤1152921504606846976){E:Nat→Prop}(hM:tY w m E)(hE:∀b,E b→b≠xb)(L:ue (kx.small w xb (kt au id p s.st s.hold s.heard s.spoke (.slice pa pl pc))) xb (.slice pa pl pc) ins m)(w1:World)(e1:w1.heap=w.heap)(e2:w1.os=w.os):Calls Tryz.prog 60 #[.pointer (some ⟨xb,0,none⟩),.int .i64 now,m] w1 fun e w'=>∃v,e=.returned v∧Bu xb Z au id p.au p.hold (pS p.au p.hold au id now s ins) v w'∧w'.os=w.os:=by
 have g:=QK h.ss (E:=E) fun b hb=>⟨hE b hb,hM.plain b hb⟩
 have hh:@HR kl (rO xb (14+Z.length) fun b=>nJ p pa b∨E b) (kx.small w xb (kt au id p s.st s.hold s.heard s.spoke (.slice pa pl pc))) w1:=by
  refine @HR.mk kl _ _ _ (fun b q M=>?_) (@HR.inj kl _ _ _ g) (@HR.base kl _ _ _ g) (by rw[e2];exact @HR.os kl _ _ _ g) (fun e=>by cases e);rw[e1];exact @HR.obj kl _ _ _ g b q M
 have o:@ki kl (rO xb (14+Z.length) fun b=>nJ p pa b∨E b) #[.pointer (some ⟨xb,0,none⟩),.int .i64 now,m] #[.pointer (some ⟨xb,0,none⟩),.int .i64 now,m]:=by
  refine @ki.diag kl _ _ fun i v a=>?_
  match i,a with
  |0,a=>simp at a;subst a;exact @VR.ptr kl _ _ _ ⟨by rw[tX];exact eP _,_,Ba _ _ _,rfl,rfl,rfl⟩
  |1,a=>simp at a;subst a;exact @VR.int kl _ _ _
  |2,a=>simp at a;subst a;exact hM.rel kl _ tX fun b hb=>EH (hE b hb) (.inr hb)
  |i+3,a=>simp at a
 have y:∀T,ue { kx.small w xb (kt au id p s.st s.hold s.heard s.spoke (.slice pa pl pc))with tape:=T,drawn:=0 } xb (.slice pa pl pc) ins m:=fun T=>L.keep rfl
 have f:=@Qg kl Tryz.prog DO DN _ _ (by show kl.ok _=true;kernel_rfl) _ _ o _ _ hh _ (fun T=>Ss (w:={ kx.small w xb (kt au id p s.st s.hold s.heard s.spoke (.slice pa pl pc))with tape:=T,drawn:=0 }) (h.small.keep fun _ _=>rfl) I J hn hid K hlen hb (y T));generalize pS p.au p.hold au id now s ins=x at f ⊢;refine f.mono ?_;rintro e w' ⟨v,v',wE,ρ',rfl,⟨p1,O,z,A,hS,hA,hH,B,sv,rfl,C,R,U⟩,F,a,hg,hk⟩;have hx:ρ' xb=some ⟨xb,some ⟨0,14,(100,14+Z.length)⟩⟩:=hg.le _ _ (Ba _ _ _);have G:∀b q,b≠xb→ρ' b=some q→q.part=none:=fun b q hb M=>by
  rcases hg.new b q M with k|k
  ·rcases Bb k with⟨e,_⟩|⟨_,_,rfl⟩
   ·exact absurd e hb
   ·rfl
  ·exact k.1
 obtain⟨p2,V,W,X,Y,_,aa⟩:=@qi.spread kl ρ' _ _ wE w1 w' xb Z _ au id p1 x.1 O z A F G hx hk (Ba _ _ _) (by rw[e1];exact h.ss.blk) (tW _ _ _ _ _ _ _ _) h.ss.spare hS;obtain⟨a',l,c,rfl,u,H⟩:=@FD kl ρ' _ _ F _ _ _ _ xb _ hx G C R U a;exact⟨_,rfl,⟨p2,V,z,A,W,X.trans hA,Y.trans hH,fun e=>@FB kl _ _ _ _ _ aa (B e),_,rfl,u,⟨a',l,c,rfl⟩,H⟩,(@Kept.os kl _ _ _ hk).trans e2⟩
theorem Sv:kl.cells 100=14:=by kernel_rfl
structure SD where
 p:Pz
 s:SV
 pa:Option Addr
 pl:Nat
 pc:Nat
def SD.v (d:SD):Value:=.slice d.pa d.pl d.pc
def SD.cells (au id:Int) (d:SD):Array Value:=kt au id d.p d.s.st d.s.hold d.s.heard d.s.spoke d.v
def SD.nm (d:SD) (b:Nat):Prop:=nJ d.p d.pa b
theorem SD.size(au id:Int)(d:SD):(d.cells au id).size=14:=rfl
def oO (n:Nat) (Z:List Value) (i:Nat):List Value:=if i+1=n then Z else []
variable {n:Nat}
theorem Sw(h:∀u∈Z,Pl u)(i:Nat):∀u∈oO n Z i,Pl u:=fun u hu=>by
 unfold oO at hu;split at hu
 ·exact h u hu
 ·cases hu
theorem xO{i:Nat}(a:i<n):14*i+(14+(oO n Z i).length)≤14*n+Z.length∧(i+1≠n→(oO n Z i).length=0)∧(i+1=n→14*i+(14+(oO n Z i).length)=14*n+Z.length):=by
 unfold oO;split
 ·exact⟨by omega,by omega,by omega⟩
 ·exact⟨by simp;omega,fun _=>rfl,by omega⟩
structure Flat (C:Array Value) (n:Nat) (Z:List Value) (au id:Int) (d:Nat→SD):Prop where
 size:C.size=14*n+Z.length
 at_:∀i,i<n→∀j,j<14→C[14*i+j]?=((d i).cells au id)[j]?
 z:∀j,C[14*n+j]?=Z[j]?
structure n7 (w:World) (xb n:Nat) (Z:List Value) (au id:Int) (d:Nat→SD):Prop where
 blk:∃C,w.heap[xb]?=some (.cells C 100 (0,0))∧Flat C n Z au id d
 spare:∀u∈Z,Pl u
 rows:∀i,i<n→∀b,(d i).nm b→b≠xb∧mq w b
 row:∀i,i<n→pV w (d i).v (d i).s.part
 sep:∀i,i<n→∀k,(d i).v.ownBlock=some k→¬pW (d i).p k
 apart:∀i i',i<n→i'<n→i≠i'→∀b,(d i).nm b→¬(d i').nm b
theorem n7.lt{w:World}{xb n:Nat}{Z:List Value}{au id:Int}{d:Nat→SD}(h:n7 w xb n Z au id d):xb<w.heap.size:=by
 obtain⟨C,a,_⟩:=h.blk;exact(dv.1 a).1
theorem n7.keep{w w':World}{xb n:Nat}{Z:List Value}{au id:Int}{d:Nat→SD}(h:n7 w xb n Z au id d)(k:∀b,(b=xb∨∃i,i<n∧(d i).nm b)→w'.heap[b]?=w.heap[b]?):n7 w' xb n Z au id d:=by
 obtain⟨C,c,e⟩:=h.blk;exact⟨⟨C,(k xb (.inl rfl)).trans c,e⟩,h.spare,fun i a b hb=>⟨(h.rows i a b hb).1,(h.rows i a b hb).2.keep (k b (.inr ⟨i,a,hb⟩))⟩,fun i a=>(h.row i a).keep fun b hb=>k b (.inr ⟨i,a,ug hb⟩),h.sep,h.apart⟩
def vj (w:World) (xb n:Nat) (Z:List Value) (au id:Int) (d:Nat→SD) (i:Nat):World:=kx.small w xb ((d i).cells au id++(oO n Z i).toArray)
open Classical in
noncomputable def uh (xb s l tt:Nat) (N:Nat→Prop):j7:=fun b=>if b=xb then some ⟨xb,some ⟨s,l,(100,tt)⟩⟩ else if N b then some ⟨b,none⟩ else none
theorem xP(xb s l tt:Nat)(N:Nat→Prop):uh xb s l tt N xb=some ⟨xb,some ⟨s,l,(100,tt)⟩⟩:=by simp[uh]
variable {s l tt b:Nat} {N:Nat→Prop}
theorem FE(h:b≠xb)(k:N b):uh xb s l tt N b=some ⟨b,none⟩:=by simp[uh,h,k]
variable {q:Place}
theorem tx(h:uh xb s l tt N b=some q):(b=xb∧q=⟨xb,some ⟨s,l,(100,tt)⟩⟩)∨(b≠xb∧N b∧q=⟨b,none⟩):=by
 unfold uh at h;split at h
 ·rename_i e;cases h;exact .inl ⟨e,rfl⟩
 ·rename_i e;split at h
  ·rename_i k;cases h;exact .inr ⟨e,k,rfl⟩
  ·cases h
theorem FF(h:uh xb s l tt N b=some q):q.block=b:=by
 rcases tx h with⟨rfl,rfl⟩|⟨_,_,rfl⟩<;>rfl
noncomputable def rT (xb n:Nat) (Z:List Value) (d:Nat→SD) (E:Nat→Nat→Prop) (i:Nat):j7:=uh xb (14*i) (14+(oO n Z i).length) (14*n+Z.length) fun b=>(d i).nm b∨E i b
section
variable {w:World} {xb n:Nat} {Z:List Value} {au id:Int} {d:Nat→SD}
theorem n7.Sx(h:n7 w xb n Z au id d){i:Nat}(a:i<n):qi (vj w xb n Z au id d i) xb (oO n Z i) au id (d i).p (d i).s (d i).pa (d i).pl (d i).pc :=
 ⟨⟨yO h.lt,Sw h.spare i,fun b hb=>⟨(h.rows i a b hb).1,(h.rows i a b hb).2.keep (tl (h.rows i a b hb).1)⟩⟩,(h.row i a).keep fun b hb=>tl (h.rows i a b (ug hb)).1,h.sep i a⟩
theorem n7.hr(h:n7 w xb n Z au id d){E:Nat→Nat→Prop}{i:Nat}(g:i<n)(G:∀b,E i b→b≠xb∧mq w b):@HR kl (rT xb n Z d E i) (vj w xb n Z au id d i) w:=by
 refine @HR.mk kl _ _ _ (fun b q k=>?_) (fun b b' q q' k o e=>?_) (by rw[tX];exact eP _) rfl (fun e=>by cases e)
 ·rcases tx k with⟨rfl,rfl⟩|⟨f,hN,rfl⟩
  ·obtain⟨C,hC,hF⟩:=h.blk;have u:=(xO (Z:=Z) g).1;refine⟨_,_,yO h.lt,hC,.inr ⟨_,_,rfl,rfl,⟨⟨rfl,by rw[Sv];exact Nat.dvd_mul_right _ _⟩,hF.size⟩,?_⟩⟩;have H:=@EE kl (rT b n Z d E i) au id (d i).p (d i).s.st (d i).s.hold (d i).s.heard (d i).s.spoke (d i).pa (d i).pl (d i).pc tX (fun ad hd=>by
    have A:(d i).nm ad.block:=by
     rcases hd with e|e|e
     ·exact .inl ⟨ad,e,rfl⟩
     ·exact .inr (.inl ⟨ad,e,rfl⟩)
     ·exact .inr (.inr ⟨ad,e,rfl⟩)
    exact FE (h.rows i g _ A).1 (.inl A))
   refine @sU.mk kl _ _ _ _ _ (by simp[SD.size]) (by rw[hF.size];exact u) (fun j v c=>?_)
   by_cases B:j<14
   ·rw[gI (by rw[SD.size];exact B)]at c;exact⟨v,(hF.at_ i g j B).trans c,@ki.get kl _ _ _ H j v v c c⟩
   ·rw[gW (by rw[SD.size];omega),SD.size]at c;have a:(oO n Z i)[j-14]?=some v:=by simpa using c
    have y:i+1=n:=by
     refine Decidable.byContradiction fun f=>?_
     unfold oO at a;rw[dt f]at a;simp at a
    have I:oO n Z i=Z:=by unfold oO;rw[dr y]
    rw[I]at a;have:=hF.z (j-14);rw[show 14*n+(j-14)=14*i+j by omega,a]at this;exact⟨v,this,@VR.pl kl _ _ (h.spare v (gv a))⟩
  ·have hp:mq w b:=by
    rcases hN with hN|hN
    ·exact(h.rows i g b hN).2
    ·exact(G b hN).2
   obtain⟨cur,ty,fr,F,J⟩:=hp;exact⟨_,_,(tl f).trans F,F,@OR.cells kl _ _ _ _ _ (@ki.diag kl _ _ fun i v c=>@VR.pl kl _ _ (J.1 v (by have:=dC c;simpa using this)))⟩
 ·rw[FF k,FF o]at e;exact e
end
end
end Go.Proofs.YtjnkcibpkkjniaaGreat.kx
namespace Go.Proofs.YtjnkcibpkkjniaaGreat
section
open Go Go.RowKit
theorem FG{P:Program}{w:World}{ops:Array Oper}{rest:List Oper}{o:Oper}{a:Act}{Q:Exit→Act→World→Prop}(k:o.guard=none)(s x:Operand)(t:TypeId)(y:o.op=Op.call { callee:=Callee.builtin Builtin.append,args:=#[s,x],argTypes:=#[t,t] })(base:Nat)(e:TypeId)(i:TypeInfo)(z:Value)(size bytes:Nat)(B:P.underlying t=some (.slice e))(C:P.info? e=some i)(F:i.zero=some z)(G:i.size=size)(H:i.bytes=bytes)(I:z.cells.size=size)(J:0<size)(v:Value)(n:Nat)(xs:List Value)(K:a.eval s=v)(f:w.ownsRow base e size v n xs)(ad:Addr)(m c:Nat)(news:List Value)(hx:a.eval x=.slice (some ad) m c)(L:news.length=m*size)(M:∀j u,news[j]?=some u→w.cell? (ad.add j)=some u)(A:∀u∈news,u.oneCell'=true)(b1:n+m≤maxLen)(b2:(n+m)*bytes≤140737488355328)(hb:base≤w.heap.size)(h:∀v' w',w'.ownsRow base e size v' (n+m) (xs++news)→w.grownBy w' v.ownBlock→wpList P ops Q rest (a.put o.dst v') w'):wpList P ops Q (o::rest) a w :=
 wpList_plain k fun _ O=>by
  obtain⟨v',w',g,r1,r2,_⟩:=run_append_own (P:=P) w base t o.type e i z size bytes B C F G H I J v n xs f ad m c news L M A b1 b2 hb;unfold Oper.wp execOp;simp only[y,resolve,invoke,builtin,gE,Sem.run_pure,Result.andThen_ok,eC,gD,List.map_nil,K,hx,g];exact O _ _ (h v' w' r1 r2)
structure vk (e:TypeId) (i:TypeInfo) (z:Value) (sz bt:Nat):Prop where
 info:Tryz.prog.info? e=some i
 zero:i.zero=some z
 size:i.size=sz
 bytes:i.bytes=bt
 cells:z.cells.size=sz
theorem yZ{e:TypeId}{size bytes:Nat}(h:((Tryz.prog.info? e).bind fun i=>i.zero.map fun z=>(i.size,i.bytes,z.cells.size))=some (size,bytes,size)):∃i z,vk e i z size bytes:=by
 cases a:Tryz.prog.info? e with
 |none=>rw[a]at h;cases h
 |some i =>
  rw[a]at h;simp only[ed]at h
  cases c:i.zero with
  |none=>rw[c]at h;cases h
  |some z =>
   rw[c]at h;simp only[dM,dW,eG]at h;exact⟨i,z,a,c,h.1,h.2.1,h.2.2⟩
theorem SA(now t:Int)(a:0≤now)(c:0≤t)(f:now+t≤1099511627776)(w:World):Calls Tryz.prog 33 #[.int .i64 now,.int .i64 t] w fun e w'=>e=.returned (.int .i64 (now+t))∧w'=w:=by
 have k1:¬t<0:=by omega
 have k2:wrap64 (1099511627776-now)=1099511627776-now:=by unfold wrap64;omega
 have g:¬1099511627776-now<t:=by omega
 have h:wrap64 (now+t)=now+t:=by unfold wrap64;omega
 go_enter Tryz.func33,Tryz.ntmps33
 go_wp2
 all_goals(exact iQ (v:=.int .i64 (now+t)) (by simp[results,Tryz.results33,go_sem]) rfl ⟨rfl,rfl⟩)
theorem SB(w:World)(xb xo:Nat)(st:Int)(h:w.cell? ⟨xb,xo+9,none⟩=some (.int .i64 st)):Calls Tryz.prog 38 #[.pointer (some ⟨xb,xo,none⟩)] w fun e w'=>e=.returned (.int .i64 st)∧w'=w:=by
 go_enter Tryz.func38,Tryz.ntmps38
 go_wp2
 go_ret;exact⟨rfl,rfl⟩
end
section
open Go Go.RowKit
open Go.Proofs.YtjnkcibpkkjniaaGreat.kx (nv)
theorem SE:∃i z,vk 41 i z 3 32:=yZ (by kernel_rfl)
end
section
open Go Go.RowKit
theorem SF:∃i z,vk 43 i z 3 32:=yZ (by kernel_rfl)
end
end Go.Proofs.YtjnkcibpkkjniaaGreat
namespace Go.Proofs.YtjnkcibpkkjniaaGreat.kN
section
open Go.Conc Go.ConcN Go.Conc.Lib Go.ConcR.Gen Go.ConcN.Gen Go.Proofs.YtjnkcibpkkjniaaGreat.kx
end
section
open Go Go.Conc Go.RowKit Go.Proofs.YtjnkcibpkkjniaaGreat.kx
noncomputable def xQ:Array Oper:=match Tryz.f17.body with
 |some (.seq _ (.seq _ (.seq (.region _ ops _) _)))=>ops
 |_=>#[]
noncomputable def qj (sp:Nat) (now t kV:Int) (kY v19:Value):Frame:=(base 17).at ⟨#[.pointer (some ⟨sp,0,none⟩),.int .i64 t,kY,undef,undef,undef,.slice none 0 0,.pointer (some ⟨sp,0,none⟩),.pointer (some ⟨sp,0,none⟩),.pointer (some ⟨sp,0,none⟩),.pointer (some ⟨sp,0,none⟩),.int .i64 now,.int .i64 t,.int .i64 kV,.pointer (some ⟨sp,0,none⟩),.pointer (some ⟨sp,0,none⟩),.pointer (some ⟨sp,0,none⟩),.pointer (some ⟨sp,0,none⟩),kY,v19,undef,undef],[]⟩ (.inRegion xQ [4,5,6]::[.code .ret])
end
end Go.Proofs.YtjnkcibpkkjniaaGreat.kN
namespace Go.Proofs.YtjnkcibpkkjniaaGreat.kx
section
open Go Go.Proofs.YtjnkcibpkkjniaaGreat Go.Proofs.YtjnkcibpkkjniaaGreat.kN
variable {w:World} {xb n:Nat} {Z:List Value} {au id:Int} {d:Nat→SD} {E:Nat→Nat→Prop}
theorem n7.qE(h:n7 w xb n Z au id d)(G:0<n)(H:∀i,i<n→∀b,E i b→b≠xb)(y:∀i i',i<n→i'<n→i≠i'→∀b,E i b→¬E i' b)(k:∀i i',i<n→i'<n→∀b,E i b→¬(d i').nm b):yB n (rT xb n Z d E):=by
 refine⟨fun i i' g a f b p b' p' hb o e=>?_,fun i g b pl s l ty hb hp j A=>?_⟩
 ·rcases tx hb with⟨rfl,rfl⟩|⟨k1,k2,rfl⟩
  ·rcases tx o with⟨rfl,rfl⟩|⟨u,c,rfl⟩
   ·refine⟨_,_,rfl,rfl,?_⟩;have B:=xO (Z:=Z) g;have C:=xO (Z:=Z) a;rcases Nat.lt_or_gt_of_ne f with z|z
    ·left;have:=B.2.1 (by omega);simp only;omega
    ·right;have:=C.2.1 (by omega);simp only;omega
   ·exact absurd e.symm u
  ·rcases tx o with⟨rfl,rfl⟩|⟨u,c,rfl⟩
   ·exact absurd e k1
   ·obtain rfl:b=b':=e;rcases k2 with k2|k2<;>rcases c with c|c
    ·exact absurd c (h.apart i i' g a f b k2)
    ·exact absurd k2 (k i' i a g b c)
    ·exact absurd c (k i i' g a b k2)
    ·exact absurd c (y i i' g a f b k2)
 ·rcases tx hb with⟨rfl,rfl⟩|⟨k1,k2,rfl⟩
  ·simp only[dW,Span.mk.injEq]at hp;obtain⟨rfl,rfl,rfl⟩:=hp;simp only at A
   by_cases F:j<14*n
   ·have a:j / 14<n:=by omega
    exact⟨j / 14,a,b,_,_,_,_,xP _ _ _ _ _,rfl,rfl,by omega,by omega⟩
   ·have a:n-1<n:=by omega
    have:=(xO (Z:=Z) a).2.2 (by omega);exact⟨n-1,a,b,_,_,_,_,xP _ _ _ _ _,rfl,rfl,by omega,by omega⟩
  ·cases hp
def JR (xb n:Nat) (Z:List Value) (au id:Int) (os:World) (d:Nat→SD) (x:Nat→SV×List Int×Bool) (i:Nat) (v:Value) (w:World):Prop :=
 Bu xb (oO n Z i) au id (d i).p.au (d i).p.hold (x i) v w∧w.os=os.os
structure Bv (w:World) (xb n:Nat) (Z:List Value) (au id:Int) (A H:Int) (x:SV×List Int×Bool) (i:Nat) (ρ:j7) (v:Value) (e:SD):Prop where
 cells:∀C,w.heap[xb]?=some (.cells C 100 (0,0))→(∀j,j<14→C[14*i+j]?=(e.cells au id)[j]?)∧(i+1=n→∀j,C[14*n+j]?=Z[j]?)
 blk:∃C,w.heap[xb]?=some (.cells C 100 (0,0))∧C.size=14*n+Z.length
 s:e.s=x.1
 au:e.p.au=A
 hold:e.p.hold=H
 nil:x.1.st=0→e.v=.slice none 0 0
 rows:∀b,e.nm b→b≠xb∧mq w b
 row:pV w e.v e.s.part
 sep:∀k,e.v.ownBlock=some k→¬pW e.p k
 Bw:∀b,e.nm b→∃y q,ρ y=some q∧q.part=none∧q.block=b
 rep:∃a l c,v=.agg #[.slice a l c,.bool x.2.2]∧nv w (.slice a l c) x.2.1
variable {w' os:World} {x:Nat→SV×List Int×Bool}
theorem Sy(h:n7 w xb n Z au id d){i:Nat}(hi:i<n){ρ:j7}(hle:(rT xb n Z d E i).le ρ)(O:∀b q,ρ b=some q→rT xb n Z d E i b=some q∨q.part=none){vS v:Value}{wE:World}(hR:JR xb n Z au id os d x i vS wE)(L:@HR kl ρ wE w')(hv:@VR kl ρ vS v):∃e,Bv w' xb n Z au id (d i).p.au (d i).p.hold (x i) i ρ v e:=by
 obtain⟨⟨p1,G,g,y,hS,hA,hH,R,sv,rfl,U,aa,ab⟩,_⟩:=hR;have hx:ρ xb=some ⟨xb,some ⟨14*i,14+(oO n Z i).length,(100,14*n+Z.length)⟩⟩:=hle _ _ (xP _ _ _ _ _);have z:∀b q,b≠xb→ρ b=some q→q.part=none:=fun b q hb hq=>by
  rcases O b q hq with k|k
  ·rcases tx k with⟨e,_⟩|⟨_,_,rfl⟩
   ·exact absurd e hb
   ·rfl
  ·exact k
 obtain⟨a',l,c,rfl,H,_⟩:=@FD kl ρ _ _ L _ _ _ _ xb _ hx z U aa ab hv;obtain⟨o,o',k1,k2,X⟩:=@HR.obj kl _ _ _ L xb _ hx;rcases X with⟨j,_⟩|⟨c0,C,Y,e2,⟨_,hsz⟩,X⟩
 ·exact Bool.noConfusion (show false=true from j)
 rw[hS.ss.blk]at k1;simp only[dW]at k1;subst k1;simp only[jE]at Y;obtain⟨rfl,_⟩:=Y;subst e2;have k2:w'.heap[xb]?=_:=k2;have ag:=xO (Z:=Z) hi;simp only at hsz;have ae:@ki kl ρ (kt au id p1 (x i).1.st (x i).1.hold (x i).1.heard (x i).1.spoke (.slice G g y)) (C.extract (14*i) (14*i+14)):=by
  refine @ki.mk kl _ _ _ (by simp[tW];omega) (fun j u u' a b=>?_);have M:j<14:=(dv.1 a).1;obtain⟨u2,r1,r2⟩:=@sU.get kl _ _ _ _ _ X j u (by rw[gI (by rw[tW];exact M)];exact a);rw[Array.getElem?_extract_of_lt (by omega)]at b;have b2:C[14*i+j]?=some u':=by rw[dw (by omega)];exact b
  rw[r1]at b2
  cases b2
  exact r2
 obtain⟨p',I,hC,Y,e2,v7,v8,A⟩:=@EF kl ρ _ _ _ _ _ _ _ _ _ _ _ ae;have V:∀b',nJ p' I b'→∃b q,nJ p1 G b∧ρ b=some q∧q.block=b':=by
  rintro b' (⟨W,k1,k2⟩|⟨W,k1,k2⟩|⟨W,k1,k2⟩)
  ·obtain⟨ad,q,B,f,F⟩:=@sM kl _ _ _ _ _ _ v7 k1 (fun e=>Bool.noConfusion (show false=true from e));exact⟨ad.block,q,.inl ⟨ad,B,rfl⟩,f,F.trans k2⟩
  ·obtain⟨ad,q,B,f,F⟩:=@sM kl _ _ _ _ _ _ v8 k1 (fun e=>Bool.noConfusion (show false=true from e));exact⟨ad.block,q,.inr (.inl ⟨ad,B,rfl⟩),f,F.trans k2⟩
  ·obtain⟨ad,q,B,f,F⟩:=@sM kl _ _ _ _ _ _ A k1 (fun e=>Bool.noConfusion (show false=true from e));exact⟨ad.block,q,.inr (.inr ⟨ad,B,rfl⟩),f,F.trans k2⟩
 refine⟨⟨p',(x i).1,I,g,y⟩,?_⟩;refine⟨fun C' J=>?_,⟨C,k2,hsz⟩,rfl,Y.trans hA,e2.trans hH,fun e=>@FB kl _ _ _ _ _ A (R e),fun b' K=>?_,@pV.over kl ρ _ _ L _ _ _ _ _ (fun k q hk hq=>z k q (hS.ss.rows k (ug hk)).1 hq) A hS.row,@FA kl ρ _ _ L _ _ _ _ _ _ A v7 v8 hS.sep rfl,fun b' K=>?_,⟨a',l,c,rfl,H⟩⟩
 ·rw[k2]at J;simp only[dW,jE]at J;obtain⟨rfl,_⟩:=J;refine⟨fun j M=>?_,fun af j=>?_⟩
  ·show _=(kt au id p' (x i).1.st (x i).1.hold (x i).1.heard (x i).1.spoke (.slice I g y))[j]?;rw[←hC,Array.getElem?_extract_of_lt (by omega),dw (by omega)]
  ·have hz:oO n Z i=Z:=by unfold oO;rw[dr af]
   by_cases M:j<Z.length
   ·have e:(kt au id p1 (x i).1.st (x i).1.hold (x i).1.heard (x i).1.spoke (.slice G g y)++(oO n Z i).toArray)[14+j]?=some Z[j]:=by
     rw[gW (by rw[tW];omega),hz];simp[tW,jH M]
    obtain⟨u2,r1,r2⟩:=@sU.get kl _ _ _ _ _ X (14+j) _ e;rw[show 14*i+(14+j)=14*n+j by omega]at r1;rw[r1,jH M,@VR.ED kl _ _ _ (h.spare _ (List.getElem_mem M)) r2]
   ·rw[List.getElem?_eq_none (by omega),fH (by omega)]
 ·obtain⟨b,q,B,f,rfl⟩:=V b' K;obtain⟨F,q4⟩:=hS.ss.rows b B;exact⟨fun e=>F (@HR.inj kl _ _ _ L b xb q _ f hx e),@mq.over kl ρ _ _ L _ _ f (z b q F f) q4⟩
 ·obtain⟨b,q,B,f,rfl⟩:=V b' K;exact⟨b,q,f,z b q (hS.ss.rows b B).1 f,rfl⟩
theorem Sz{p:kN.WI}(h:n7 w xb n Z au id d)(u:p.xl=n)(z:0<n){v:Nat→Value}{I:Nat→Prop}(hp:AG p (rT xb n Z d E) (JR xb n Z au id os d x) v w' I):∃d',n7 w' xb n Z au id d'∧(∀i,i<n→(d' i).s=(x i).1∧(d' i).p.au=(d i).p.au∧(d' i).p.hold=(d i).p.hold∧((x i).1.st=0→(d' i).v=.slice none 0 0))∧(∀i,i<n→∃a l c,v i=.agg #[.slice a l c,.bool (x i).2.2]∧nv w' (.slice a l c) (x i).2.1)∧(∀i,i<n→∀b,(d' i).nm b→I b)∧I xb:=by
 subst u;obtain⟨ρ',K,hI,g⟩:=hp;have A:∀i,i<p.xl→∃e,Bv w' xb p.xl Z au id (d i).p.au (d i).p.hold (x i) i (ρ' i) (v i) e:=fun i f=>by
  obtain⟨hle,k,W,wE,L,M,O⟩:=g i f;exact Sy h f hle k L M O
 let d':Nat→SD:=fun i=>if f:i<p.xl then Classical.choose (A i f) else d i
 have hd:∀i,i<p.xl→Bv w' xb p.xl Z au id (d i).p.au (d i).p.hold (x i) i (ρ' i) (v i) (d' i):=fun i f=>by
  have e:d' i=Classical.choose (A i f):=by show(if f:i<p.xl then _ else _)=_;rw[dif_pos f]
  rw[e];exact iI (A i f)
 obtain⟨C,hC,hsz⟩:=(hd 0 z).blk;refine⟨d',⟨⟨C,hC,hsz,fun i f j R=>((hd i f).cells C hC).1 j R,fun j=>((hd (p.xl-1) (by omega)).cells C hC).2 (by omega) j⟩,h.spare,fun i f=>(hd i f).rows,fun i f=>(hd i f).row,fun i f=>(hd i f).sep,fun i i' f o B b hb F=>?_⟩,fun i f=>⟨(hd i f).s,(hd i f).au,(hd i f).hold,(hd i f).nil⟩,fun i f=>(hd i f).rep,fun i f b hb=>?_,?_⟩
 ·obtain⟨y,q,k1,k2,G⟩:=(hd i f).Bw b hb;obtain⟨U,q',H,V,J⟩:=(hd i' o).Bw b F;obtain⟨s,s',r1,_⟩:=K.apart i i' f o B y q U q' k1 H (G.trans J.symm);rw[k2]at r1
  cases r1
 ·obtain⟨y,q,k1,k2,G⟩:=(hd i f).Bw b hb;exact(hI b).2 ⟨i,f,y,q,k1,G⟩
 ·exact(hI xb).2 ⟨0,z,xb,_,(g 0 z).1 _ _ (xP _ _ _ _ _),rfl⟩
end
end Go.Proofs.YtjnkcibpkkjniaaGreat.kx
namespace Go.Proofs.YtjnkcibpkkjniaaGreat.kN
section
open Go Go.Conc Go.RowKit Go.Proofs.YtjnkcibpkkjniaaGreat.kx
def Bx (w:World) (E:Nat→Prop) (m:Value) (ins:List ky):Prop :=
 (ins=[]∧∃ao cp,m=.slice ao 0 cp)∨(∃ib io cp,m=.slice (some ⟨ib,io,none⟩) ins.length cp∧E ib∧pU w ib io ins)
structure FH (now:Int) (d:SD) (ins:List ky):Prop where
 ok:mA d.s
 nil:d.s.st=0→d.v=.slice none 0 0
 hold:0≤d.p.hold∧d.p.hold≤65535
 len:ins.length≤1152921504606846976
 bytes:∀x∈ins,Bytes x.d∧x.d.length≤1152921504606846976
def lF (au id now:Int) (d:Nat→SD) (ins:Nat→List ky) (i:Nat):SV×List Int×Bool:=pS (d i).p.au (d i).p.hold au id now (d i).s (ins i)
variable {n i:Nat} {Z:List Value} {au id:Int} {d:Nat→SD}
theorem SG{C:Array Value}(h:Flat C n Z au id d)(a:i<n){b:Nat}(hb:(d i).nm b):∃(j:Nat)(v:Value),C[j]?=some v∧Nm v b:=by
 have key:∀(j:Nat)(v:Value),j<14→((d i).cells au id)[j]?=some v→Nm v b→∃(j:Nat)(v:Value),C[j]?=some v∧Nm v b:=fun j v c f g=>⟨14*i+j,v,(h.at_ i a j c).trans f,g⟩
 rcases hb with⟨ad,e,rfl⟩|⟨ad,e,rfl⟩|⟨ad,e,rfl⟩
 ·exact key 7 (.slice (d i).p.ia (d i).p.il (d i).p.ic) (by decide) rfl (by rw[e];exact .slice _ _ _)
 ·exact key 8 (.slice (d i).p.ea (d i).p.el (d i).p.ec) (by decide) rfl (by rw[e];exact .slice _ _ _)
 ·exact key 13 (.slice (d i).pa (d i).pl (d i).pc) (by decide) rfl (by rw[e];exact .slice _ _ _)
variable {w:World} {sp xb xc nb nc:Nat} {now:Int} {m:Nat→Value}
theorem SH(kp:w.heap[sp]?=some (.cells #[.int .i64 now,.slice (some ⟨xb,0,none⟩) n xc] 91 (0,0)))(F:n7 w xb n Z au id d)(O:sp≠xb)(R:∀i,i<n→¬(d i).nm sp)(hn:0<n)(G:n<2147483647){ms:Array Value}{E:Nat→Nat→Prop}(o:w.heap[nb]?=some (.cells ms 44 (0,0)))(H:∀i,i<n→ms[i]?=some (m i))(g:∀i,i<n→tY w (m i) (E i))(y:∀i,i<n→∀b,E i b→b≠xb∧b≠sp∧b≠nb)(U:∀i i',i<n→i'<n→i≠i'→∀b,E i b→¬E i' b)(I:∀i i',i<n→i'<n→∀b,E i b→¬(d i').nm b)(V:nb≠xb)(W:∀i,i<n→¬(d i).nm nb)(J:lA now)(hid:0≤id){ins:Nat→List ky}(X:∀i,i<n→FH now (d i) (ins i))(hX:∀i,i<n→Bx w (E i) (m i) (ins i)):yC ⟨sp,0,now,xb,0,n,xc,nb,0,n,nc⟩ m (rT xb n Z d E) (vj w xb n Z au id d) (fun i=>#[.pointer (some ⟨xb,0,none⟩),.int .i64 now,m i]) (JR xb n Z au id w d (lF au id now d ins)) w:=by
 obtain⟨C,hC,hF⟩:=F.blk;have K:rK w #[WI.s ⟨sp,0,now,xb,0,n,xc,nb,0,n,nc⟩,WI.nQ ⟨sp,0,now,xb,0,n,xc,nb,0,n,nc⟩] xb:=.cell (i:=1) (.arg (i:=0) rfl (.ptr _)) kp rfl (.slice _ _ _);have A:∀i b pl,rT xb n Z d E i b=some pl→pl.block=b∧(b=xb∨(d i).nm b∨E i b):=fun i b pl hb=>by
  rcases tx hb with⟨rfl,rfl⟩|⟨_,k,rfl⟩
  ·exact⟨rfl,.inl rfl⟩
  ·exact⟨rfl,.inr k⟩
 refine⟨⟨kh kp 0,(kh kp 1).trans (by rw[WI.Ds (by exact hn)];rfl),(dv.1 kp).1,G⟩,dD _,fun i f=>?_,F.qE hn (fun i f b hb=>(y i f b hb).1) U I,fun i f=>F.hr f fun b hb=>⟨(y i f b hb).1,(g i f).plain b hb⟩,fun i f b pl hb=>?_,fun i f b pl hb=>?_,fun i f=>?_,fun i f T=>?_,fun i f v w' ρ v' hR hv=>?_,⟨_,_,o⟩,fun i f b pl hb=>?_⟩
 ·show w.cell? ⟨nb,0+i,none⟩=_;rw[kh o,dG];exact H i f
 ·obtain⟨e,k⟩:=A i b pl hb;rw[e];rcases k with rfl|k|k
  ·exact K
  ·obtain⟨j,v,u,q2⟩:=SG hF f k;exact .cell (i:=j) K hC u q2
  ·exact .cell (i:=i) (.arg (i:=1) rfl (.slice _ _ _)) o (H i f) ((g i f).reach b k)
 ·obtain⟨e,k⟩:=A i b pl hb;rw[e];rcases k with rfl|k|k
  ·exact⟨dJ O,dJ V⟩
  ·exact⟨fun e=>R i f (by have e:b=sp:=e;rw[←e];exact k),fun e=>W i f (by have e:b=nb:=e;rw[←e];exact k)⟩
  ·exact⟨(y i f b k).2.1,(y i f b k).2.2⟩
 ·refine @ki.mk kl _ _ _ rfl fun j v v' a b=>?_
  match j,a,b with
  |0,a,b=>simp at a b;subst a b;exact @VR.ptr kl _ _ _ ⟨by rw[tX];exact eP _,_,xP _ _ _ _ _,rfl,by simp[Place.shift];omega,rfl⟩
  |1,a,b=>simp at a b;subst a b;exact @VR.int kl _ _ _
  |2,a,b=>simp at a b;subst a b;exact(g i f).rel kl _ tX fun b hb=>FE (y i f b hb).1 (.inr hb)
  |j+3,a,b=>simp at a
 ·have L:=X i f;have hS:=F.Sx f;have Y:tY (vj w xb n Z au id d i) (m i) (E i):=⟨(g i f).rel,(g i f).reach,fun b hb=>((g i f).plain b hb).keep (tl (y i f b hb).1)⟩;have hI:ue (kx.small (vj w xb n Z au id d i) xb (kt au id (d i).p (d i).s.st (d i).s.hold (d i).s.heard (d i).s.spoke (.slice (d i).pa (d i).pl (d i).pc))) xb (.slice (d i).pa (d i).pl (d i).pc) (ins i) (m i):=by
   rcases hX i f with h|⟨ib,io,cp,e1,e2,e3⟩
   ·exact .inl h
   ·have B:=(y i f ib e2).1;obtain⟨cur,ty,fr,u,_⟩:=(g i f).plain ib e2;refine .inr ⟨ib,io,cp,e1,?_,B,fun e=>I i i f f ib e2 (ug e),e3.keep ((tl B).trans (tl B))⟩;rw[EJ,vj,EJ];exact(dv.1 u).1
  refine(Su hS L.ok L.nil J hid L.hold L.len L.bytes Y (fun b hb=>(y i f b hb).1) hI { vj w xb n Z au id d i with tape:=T,drawn:=0 } rfl rfl).mono ?_;rintro e w' ⟨v,rfl,h1,h2⟩;exact⟨v,rfl,h1,h2⟩
 ·obtain⟨⟨_,_,_,_,_,_,_,_,sv,rfl,_,⟨a,l,c,rfl⟩,_⟩,_⟩:=hR
  cases hv with
  | @agg _ ys M z =>
   obtain⟨a',q0⟩:=@VR.vX kl _ _ _ _ _ (z 0 _ _ rfl (dw (by simp at M;omega)));have u:=@VR.A9 kl _ _ _ (z 1 (.bool _) _ rfl (dw (by simp at M;omega)));refine⟨a',l,c,(lF au id now d ins i).2.2,?_⟩;congr 1;apply dP;intro j
   match j with
   |0=>rw[dw (by simp at M;omega),q0];rfl
   |1=>rw[dw (by simp at M;omega),u];rfl
   |j+2=>rw[fH (by simp at M;omega),fH (by simp)]
 ·obtain⟨e,k⟩:=A i b pl hb;rw[e];rcases k with rfl|k|k
  ·exact⟨C,_,hC⟩
  ·obtain⟨cur,ty,fr,u,_,rfl⟩:=(F.rows i f b k).2;exact⟨cur,ty,u⟩
  ·obtain⟨cur,ty,fr,u,_,rfl⟩:=(g i f).plain b k;exact⟨cur,ty,u⟩
structure Old (w w':World):Prop where
 os:w'.os=w.os
 size:w.heap.size≤w'.heap.size
 block:∀b,b<w.heap.size→w'.heap[b]?=w.heap[b]?
theorem Old.of{w1 w':World}(h:Below w1.heap.size w1 w')(a:w1.heap=w.heap)(c:w1.os=w.os):Old w w':=⟨h.os.trans c,by rw[←a];exact h.size,fun b hb=>by rw[←a];exact h.block b (by rw[a];exact hb)⟩
theorem SJ(sp:Nat)(now t kV:Int)(kY v19:Value):(qj sp now t kV kY v19).tmps=#[.pointer (some ⟨sp,0,none⟩),.int .i64 t,kY,undef,undef,undef,.slice none 0 0,.pointer (some ⟨sp,0,none⟩),.pointer (some ⟨sp,0,none⟩),.pointer (some ⟨sp,0,none⟩),.pointer (some ⟨sp,0,none⟩),.int .i64 now,.int .i64 t,.int .i64 kV,.pointer (some ⟨sp,0,none⟩),.pointer (some ⟨sp,0,none⟩),.pointer (some ⟨sp,0,none⟩),.pointer (some ⟨sp,0,none⟩),kY,v19,undef,undef]:=rfl
variable {cs:List Frame} {Q:Frame→List Frame→World→Prop} {t kV:Int} {kY:Value}
theorem FI{xs:List Frame}{ρj:Nat→j7}{wj:Nat→World}{args:Nat→Array Value}{R:Nat→Value→World→Prop}(hI:yC ⟨sp,0,kV,xb,0,n,xc,nb,0,n,nc⟩ m ρj wj args R w)(c:∀i,i<n→∀v w',R i v w'→w'.os=w.os)(k:∀w' RB rep v (I:Nat→Prop),AG ⟨sp,0,kV,xb,0,n,xc,nb,0,n,nc⟩ ρj R v w' I→(∀b,I b→∃o,w'.heap[b]?=some o∧@OR kl (oE I) o o)→(∀x∈rL ⟨sp,0,kV,xb,0,n,xc,nb,0,n,nc⟩::qj sp now t kV kY (.slice (some ⟨nb,0,none⟩) n nc)::xs,∀b,uW x b→¬qI n ρj b→¬I b)→yD n rep v→w'.heap[RB]?=some (.cells rep 140)→¬I RB→(∀x∈rL ⟨sp,0,kV,xb,0,n,xc,nb,0,n,nc⟩::qj sp now t kV kY (.slice (some ⟨nb,0,none⟩) n nc)::xs,∀b,uW x b→¬qI n ρj b→b≠RB∧w'.heap[b]?=w.heap[b]?)→w.heap.size≤w'.heap.size→(∀b,b<w.heap.size→¬qI n ρj b→¬I b∧b≠RB∧w'.heap[b]?=w.heap[b]?) →
   GX cs Q ((qj sp now t kV kY (.slice (some ⟨nb,0,none⟩) n nc)).finish (.slice (some ⟨RB,0,none⟩) n n)) xs w'):GX cs Q (qj sp now t kV kY (.slice (some ⟨nb,0,none⟩) n nc)) xs w:=by
 have a:GX cs Q (rL ⟨sp,0,kV,xb,0,n,xc,nb,0,n,nc⟩) (qj sp now t kV kY (.slice (some ⟨nb,0,none⟩) n nc)::xs) w:=OV hI c rfl k;unfold qj xQ at a ⊢;simp only[Tryz.f17]at a ⊢;refine GX.wO (f:=35) rfl rfl rfl (by kernel_rfl) Tryz.func35 rfl rfl ?_;have e:rL ⟨sp,0,kV,xb,0,n,xc,nb,0,n,nc⟩=(base 35).at { tmps:=#[.pointer (some ⟨sp,0,none⟩),.slice (some ⟨nb,0,none⟩) n nc]++Array.replicate 34 undef,defers:=[] } [.code (Tryz.f35.body.getD .skip)]:=rfl;rw[e]at a;revert a;simp only[Tryz.f35,eE];walk_nrm;intro a;exact a
theorem FJ{c:Frame}{h:List Frame}{z:Frame}{ac:Act}{ops:Array Oper}{l:List Nat}{kk:List Item}(a:c=z.at ac (.inRegion ops (i::l)::kk)){rb:Nat}{v19:Value}{RO:Value→World→Prop}(o:∀w1,w1.heap=w.heap→w1.os=w.os→Calls Tryz.prog 34 #[.slice (some ⟨rb,0,none⟩) n n] w1 fun e w'=>∃v,e=.returned v∧RO v w')(k:∀v w',RO v w'→GX cs Q (c.finish v) h w')(f:∀v w',RO v w'→lu v=false):GX cs Q ((qj sp now t kV kY v19).finish (.slice (some ⟨rb,0,none⟩) n n)) (c::h) w:=by
 have A:Hid (_):=k;have g:Hid (_):=o;have B:Hid (_):=a;clear k o a
 (have C:=nF;have F:=ow;have G:=nZ;have H:=m7;have I:=nG;have J:=nH);have u:(qj sp now t kV kY v19).finish (.slice (some ⟨rb,0,none⟩) n n)=(base 17).at ⟨#[.pointer (some ⟨sp,0,none⟩),.int .i64 t,kY,undef,undef,undef,.slice none 0 0,.pointer (some ⟨sp,0,none⟩),.pointer (some ⟨sp,0,none⟩),.pointer (some ⟨sp,0,none⟩),.pointer (some ⟨sp,0,none⟩),.int .i64 now,.int .i64 t,.int .i64 kV,.pointer (some ⟨sp,0,none⟩),.pointer (some ⟨sp,0,none⟩),.pointer (some ⟨sp,0,none⟩),.pointer (some ⟨sp,0,none⟩),kY,v19,.slice (some ⟨rb,0,none⟩) n n,undef],[]⟩ (.inRegion xQ [5,6]::[.code .ret]):=by rfl
 rw[u];clear u;unfold xQ;simp only[Tryz.f17];refine GX.c rfl rfl (by kernel_rfl) (fun T K y=>?_);unfold execOp;go_simp;refine y _ _ _ (fun M=>?_);clear y K;refine jP (g.out _ rfl rfl) ?_;rintro e w2 ⟨v,rfl,hr⟩;have HR:Hid (_):=hr;have L:=f v w2 hr;clear hr;refine⟨_,rfl,?_⟩;walk_nrm;refine GX.vz w2 ?_;walk_nrm;refine GX.kT ?_;refine GX.ret ?_;refine GX.leave (tr:=6) rfl Tryz.func17 (by rfl) B.out ?_;exact A.out v w2 HR.out
structure xR (w:World) (sp xb xc n:Nat) (Z:List Value) (now au id:Int) (d:Nat→SD):Prop where
 kp:w.heap[sp]?=some (.cells #[.int .i64 now,.slice (some ⟨xb,0,none⟩) n xc] 91 (0,0))
 ss:n7 w xb n Z au id d
 ne:sp≠xb
 nm:∀i,i<n→¬(d i).nm sp
structure Bz (w1 w':World) (n:Nat) (ins:Nat→List ky) (v:Value) (nb nc:Nat) (ms:Array Value) (m:Nat→Value) (E:Nat→Nat→Prop):Prop where
 v:v=.slice (some ⟨nb,0,none⟩) n nc
 new:w1.heap.size≤nb
 old:Old w1 w'
 blk:w'.heap[nb]?=some (.cells ms 44 (0,0))
 ms:∀i,i<n→ms[i]?=some (m i)
 V3:∀i,i<n→tY w' (m i) (E i)
 V4:∀i,i<n→∀b,E i b→w1.heap.size≤b∧b≠nb
 apart:∀i i',i<n→i'<n→i≠i'→∀b,E i b→¬E i' b
 x:∀i,i<n→Bx w' (E i) (m i) (ins i)
end
end Go.Proofs.YtjnkcibpkkjniaaGreat.kN
namespace Go.Proofs.YtjnkcibpkkjniaaGreat
section
open Go Go.RowKit
open Go.Proofs.YtjnkcibpkkjniaaGreat.kx (nv)
def tz (x:List Int×Bool):Bool:=decide (0<x.1.length) || x.2
def oY (x:Nat→List Int×Bool):Nat→Nat
 |0=>0
 |i+1=>if tz (x i) then oY x i+1 else oY x i
def pX (x:Nat→List Int×Bool):Nat→List Value
 |0=>[]
 |i+1=>if tz (x i) then pX x i++[.int .i64 (i:Int),.string (strOfNums (x i).1),.bool (x i).2] else pX x i
theorem BA(x:Nat→List Int×Bool):∀i,oY x i≤i
 |0=>dD _
 |i+1=>by have:=BA x i;unfold oY;split<;>omega
variable {w:World} {sv:Value} {xs:List Int}
theorem SK(h:nv w sv xs):(convert 86 9 sv).run Tryz.prog w=.ok (.string (strOfNums xs)) w:=by
 obtain⟨c,⟨rfl,ao,rfl⟩|⟨g,rfl,_,k⟩⟩:=h
 ·cases ao with
  |none=>rfl
  |some ad =>
   obtain⟨b,o,s⟩:=ad
   cases s with
   |none=>exact E5 b o c w
   |some s=>rfl
 ·exact EN w g c xs k
theorem SL(h:nv w sv xs):∃ao c,sv=.slice ao xs.length c:=by
 obtain⟨c,⟨rfl,ao,rfl⟩|⟨g,rfl,_⟩⟩:=h
 ·exact⟨ao,c,rfl⟩
 ·exact⟨_,c,rfl⟩
theorem nv.below'{w':World}(h:nv w sv xs)(hB:Below w.heap.size w w'):nv w' sv xs:=h.keep fun b v i a=>(hB.cell (p:=⟨b,i,none⟩) (iK _ _ a)).trans a
def SO (w:World) (n:Nat) (x:Nat→List Int×Bool) (v3 v8:Value) (wr:World):Prop :=
 ∃i,i≤n∧v8=.int .i64 (i:Int)∧Below w.heap.size w wr∧wr.ownsRow w.heap.size 41 3 v3 (oY x i) (pX x i)
def OQ (w:World) (n:Nat) (x:Nat→List Int×Bool) (e:Ending) (w':World):Prop :=
 ∃v,e=.returned v∧w'.ownsRow w.heap.size 41 3 v (oY x n) (pX x n)∧Below w.heap.size w w'
theorem FK{rb n:Nat}{rep:Array Value}{sv:Nat→Value}{x:Nat→List Int×Bool}(h:w.heap[rb]?=some (.cells rep 140 (0,0)))(hn:n≤2147483647)(hrep:∀i,i<n→rep[i*2]?=some (sv i)∧rep[i*2+1]?=some (.bool (x i).2))(hrow:∀i,i<n→nv w (sv i) (x i).1):Calls Tryz.prog 34 #[.slice (some ⟨rb,0,none⟩) n n] w fun e w'=>OQ w n x e w':=by
 obtain⟨i0,z0,hE⟩:=SE;have HE:Hid (_):=hE;have H:Hid (_):=h;have Hrep:Hid (_):=hrep;have FL:Hid (_):=hrow;have Hn:Hid (_):=hn;have hrb:rb<w.heap.size:=(dv.1 h).1;clear h hrep hrow hn hE;go_enter Tryz.func34,Tryz.ntmps34
 go_wp2_with fail
 go_loopw [3,8] (fun v3 v8 wr=>SO w n x v3 v8 wr) (fun _ v8 _=>match v8 with | .int _ i=>((n:Int)-i).toNat|_=>0)
 case atStart=>exact⟨0,eP _,rfl,iJ _ _,ju _ _ _ _⟩
 case round =>
  obtain⟨i,hi,rfl,hB,hown⟩:=hrel
  by_cases hin:i<n
  ·have hid:decide ((i:Int)<(n:Int))=true:=by simpa using hin
   have hi0:(0:Int)≤(i:Int):=by omega
   have hin2:(i:Int)<(n:Int):=by omega
   obtain⟨r0,r1⟩:=Hrep.out i hin;have hb:=(hB.block rb hrb).trans H.out;have c0:=(kh hb (i*2)).trans r0;have c1:=(kh hb (i*2+1)).trans r1;obtain⟨ao,c,e⟩:=SL (FL.out i hin);rw[e]at c0;have HB:Hid (_):=hB;have ui:Hid (_):=hown;have Hi:Hid (i<n):=hin;have He:Hid (_):=e;have hwr:IntKind.i64.wrap ((i:Int)+1)=((i+1:Nat):Int):=by
    have:=Hn.out;rw[iC]<;>omega
   have BB:Hid (nv wr (sv i) (x i).1):=(FL.out i hin).keep fun b v j hc=>(hB.cell (p:=⟨b,j,none⟩) (iK _ _ hc)).trans hc
   clear hb r0 r1 hB hown hi hin
   cases hx:tz (x i)
   ·have h1:(x i).1.length=0:=by unfold tz at hx;simp at hx;simp[hx.1]
    have h2:(x i).2=false:=by unfold tz at hx;simp at hx;exact hx.2
    have HN:Hid (oY x (i+1)=oY x i∧pX x (i+1)=pX x i):=by
     constructor<;>simp[oY,pX,hx]
    rw[h1]at c0;rw[h2]at c1;clear e h1 h2 hx BB
    go_wp2_with fail
    have HB2:Below wr.heap.size wr (wr.alloc (.cells #[.slice ao 0 c,.bool false] 140)):=(iJ _ _).alloc (dD _) _;refine⟨⟨i+1,Hi.out,rfl,HB.out.trans (HB2.mono HB.out.size),?_⟩,?_⟩
    ·rw[HN.out.1,HN.out.2];exact lM ui.out fun k hk=>HB2.block k (jA ui.out k hk).2
    ·simp only;have:=Hi.out;omega
   ·have HN:Hid (oY x (i+1)=oY x i+1∧pX x (i+1)=pX x i++[.int .i64 (i:Int),.string (strOfNums (x i).1),.bool (x i).2]):=by
     constructor<;>simp[oY,pX,hx]
    have V5:=BA x i;have HB2:Below wr.heap.size wr (wr.alloc (.cells #[sv i,.bool (x i).2] 140)):=(iJ _ _).alloc (dD _) _;have kc:=SK (nv.below' BB.out HB2);rw[e]at kc;have hsz:=HB.out.size;have za:Hid (_):=hsz;generalize hs1:(x i).1.length=L at c0 kc e;generalize hs2:(x i).2=cl at c1 kc HN;generalize hs3:strOfNums (x i).1=str at kc HN;have hcase:((0:Int)<(L:Int)∧True)∨(L=0∧cl=true):=by
     unfold tz at hx;simp at hx;rw[hs2]at hx;rw[←hs1];rcases hx with hx|hx
     ·exact .inl ⟨by omega,trivial⟩
     ·by_cases h0:(x i).1.length=0
      ·exact .inr ⟨h0,hx⟩
      ·exact .inl ⟨by omega,trivial⟩
    clear e hx BB HB2 hs1 hs2 hs3 hsz;rcases hcase with⟨hL,_⟩|⟨rfl,rfl⟩
    ·have hL2:decide ((0:Int)<(L:Int))=true:=by simpa using hL
     go_wp2_with (at_builtin;go_loud (refine FG rfl (.tmp 21) (.tmp 29) 37 rfl w.heap.size 41 i0 z0 3 32 Tryz.underlying37 HE.out.info HE.out.zero HE.out.size HE.out.bytes HE.out.cells (by decide) u3 (oY x i) (pX x i) rfl (lM ui.out fun k hk=>Below.block (show Below wr.heap.size wr _ from ji) k (jA ui.out k hk).2) ⟨wr.heap.size+1,0,none⟩ 1 1 [.int .i64 (i:Int),.string str,.bool cl] (by simp[Act.eval,Act.put]) rfl (by intro j u hu;match j,hu with|0,hu=>simp at hu;subst hu;simp[Addr.add]|1,hu=>simp at hu;subst hu;simp[Addr.add]|2,hu=>simp at hu;subst hu;simp[Addr.add]) (by intro u hu;simp at hu;rcases hu with rfl|rfl|rfl<;>rfl) (by have:=Hi.out;have:=Hn.out;unfold maxLen;omega) (by have:=Hi.out;have:=Hn.out;omega) (by have:=za.out;simp<;>omega) ?_);go_loud (intro v' w2 hown2 hg2);go_loud (have HB3:Hid (Below w.heap.size w w2):=Below.grown (HB.out.trans (Below.mono (show Below wr.heap.size wr _ from ji) HB.out.size)) hg2 (by have:=za.out;simp;omega) (fun k hk=>(jA ui.out k hk).1));go_loud (have BC:Hid (_):=hown2);clear hown2 hg2)
     refine⟨⟨i+1,Hi.out,rfl,HB3.out,by rw[HN.out.1,HN.out.2];exact BC.out⟩,?_⟩;simp only;have:=Hi.out;omega
    ·go_wp2_with (at_builtin;go_loud (refine FG rfl (.tmp 21) (.tmp 29) 37 rfl w.heap.size 41 i0 z0 3 32 Tryz.underlying37 HE.out.info HE.out.zero HE.out.size HE.out.bytes HE.out.cells (by decide) u3 (oY x i) (pX x i) rfl (lM ui.out fun k hk=>Below.block (show Below wr.heap.size wr _ from ji) k (jA ui.out k hk).2) ⟨wr.heap.size+1,0,none⟩ 1 1 [.int .i64 (i:Int),.string str,.bool true] (by simp[Act.eval,Act.put]) rfl (by intro j u hu;match j,hu with|0,hu=>simp at hu;subst hu;simp[Addr.add]|1,hu=>simp at hu;subst hu;simp[Addr.add]|2,hu=>simp at hu;subst hu;simp[Addr.add]) (by intro u hu;simp at hu;rcases hu with rfl|rfl|rfl<;>rfl) (by have:=Hi.out;have:=Hn.out;unfold maxLen;omega) (by have:=Hi.out;have:=Hn.out;omega) (by have:=za.out;simp<;>omega) ?_);go_loud (intro v' w2 hown2 hg2);go_loud (have HB3:Hid (Below w.heap.size w w2):=Below.grown (HB.out.trans (Below.mono (show Below wr.heap.size wr _ from ji) HB.out.size)) hg2 (by have:=za.out;simp;omega) (fun k hk=>(jA ui.out k hk).1));go_loud (have BC:Hid (_):=hown2);clear hown2 hg2)
     refine⟨⟨i+1,Hi.out,rfl,HB3.out,by rw[HN.out.1,HN.out.2];exact BC.out⟩,?_⟩;simp only;have:=Hi.out;omega
  ·have hid:decide ((i:Int)<(n:Int))=false:=by simpa using hin
   obtain rfl:i=n:=by omega
   have HF:Hid (OQ w i x (.returned u3) wr):=⟨_,rfl,hown,hB⟩;clear hB hown hi
   go_wp2_with fail
   exact iQ (v:=u3) (by simp[results,Tryz.results34,go_sem]) rfl HF.out
end
end Go.Proofs.YtjnkcibpkkjniaaGreat
namespace Go.Proofs.YtjnkcibpkkjniaaGreat.kN
section
open Go Go.RowKit
def rU (ops:Array Oper) (ia:Nat) (mem:Nat→Bool):Bool:=(List.range ops.size).all fun j=>!mem j || (List.range ops.size).any fun k=>decide (j<k)&&(decide (k=ia) || mem k)&&match ops[k]? with|some o=>o.after.any fun e=>decide (e.on=j)&&Region.binds .any e|none=>false
variable {ops:Array Oper} {ia:Nat} {mem:Nat→Bool}
theorem SP(h:rU ops ia mem=true){j:Nat}(y:j<ops.size)(hm:mem j=true):∃k o,j<k∧(k=ia∨mem k=true)∧ops[k]?=some o∧∃e∈o.after,e.on=j∧Region.binds .any e=true:=by
 have c:=eu.1 h j (gg.2 y);rw[hm]at c;simp only[Bool.not_true,Bool.false_or]at c;obtain⟨k,_,u⟩:=List.any_eq_true.1 c;simp only[ep,eh,ej]at u;obtain⟨⟨z,A⟩,a⟩:=u
 cases f:ops[k]? with
 |none=>rw[f]at a;cases a
 |some o =>
  rw[f]at a;simp only at a;rw[Array.any_eq_true]at a;obtain⟨i,B,g⟩:=a;simp only[ep,ej]at g;exact⟨k,o,z,A,f,o.after[i],Array.getElem_mem B,g.1,g.2⟩
theorem nu.SS{D:List Deferred}{val:Nat→Value→World→Prop}{fix:List (Nat×Value)}{T:Nat}{listed:Array Bool}{a:Act}{w:World}(h:nu D ops val fix T listed a w)(c:rU ops ia mem=true)(u:listed.getD ia false=true):∀i,i<ops.size→mem i=true→listed.getD i false=true:=by
 have key:∀d i,i+d+1=ops.size→mem i=true→listed.getD i false=true:=by
  intro d
  induction d using Nat.strongRecOn with
  |_ d y =>
   intro i z hm
   ·obtain⟨k,o,F,f,g,e,A,B,C⟩:=SP c (j:=i) (by omega) hm;have G:k<ops.size:=(dv.1 g).1;have:listed.getD k false=true:=by
     rcases f with rfl|f
     ·exact u
     ·exact y (ops.size-1-k) (by omega) k (by omega) f
    have:=h.qC k o g this e A C;rw[B]at this;exact this
 intro i z hm;exact key (ops.size-1-i) i (by omega) hm
section
variable {P:Program} {ops:Array Oper} {Q:Exit→Act→World→Prop} {val:Nat→Value→World→Prop} {fix:List (Nat×Value)} {T:Nat} {Post:Act→World→Prop} {n ia:Nat} {D:List Deferred} {mem:Nat→Bool} {A0 Rel:World→Prop}
theorem uj{id:Nat}{a:Act}{w:World}(hm:P.follows .mixedOrders=true)(y:lh ops (fix.map (·.1)) T=true)(R:lO ops=true)(hn:ops.size=n+1)(am:ia<n)(U:rU ops ia mem=true)(I:∀w w' j u,Below w.heap.size w w'→val j u w→val j u w')(hA:∀w w',Below w.heap.size w w'→A0 w→A0 w')(hR:∀w w',Below w.heap.size w w'→Rel w→Rel w')(ag:∀(i:Nat)(o:Oper)(a:Act)(w:World),i<n→i≠ia→ops[i]?=some o→(∀x∈fix,a.tmps[x.1]?=some x.2)→(∀(j:Nat)(o':Oper)(d:Nat),ops[j]?=some o'→o'.dst=some d→(∃e∈o.after,e.on=j∧Region.binds .any e=true)→∃v,a.tmps[d]?=some v∧val j v w)→(mem i=true→A0 w)→Rel w →
   ∀K:Act→World→Prop,(∀v w',val i v w'→Below w.heap.size w w'→K (a.put o.dst v) w')→o.wp P a w K Q)(ah:∀(o:Oper)(a:Act)(w:World),ops[ia]?=some o→(∀x∈fix,a.tmps[x.1]?=some x.2)→(∀(j:Nat)(o':Oper)(d:Nat),ops[j]?=some o'→o'.dst=some d→(∃e∈o.after,e.on=j∧Region.binds .any e=true)→∃v,a.tmps[d]?=some v∧val j v w)→A0 w→Rel w →
   ∀K:Act→World→Prop,(∀v w',val ia v w'→(∀j u,j≠ia→val j u w→val j u w')→Rel w'→K (a.put o.dst v) w')→o.wp P a w K Q)(J:∀(o:Oper)(a:Act)(w:World),ops[n]?=some o→(∀x∈fix,a.tmps[x.1]?=some x.2)→(∀(j:Nat)(o':Oper)(d:Nat),ops[j]?=some o'→o'.dst=some d→(∃e∈o.after,e.on=j∧Region.binds .any e=true)→∃v,a.tmps[d]?=some v∧val j v w)→Rel w →
   ∀K:Act→World→Prop,(∀v w',Post (a.put o.dst v) w'→K (a.put o.dst v) w')→o.wp P a w K Q)(V:∀(a:Act)(w:World),a.defers=D→a.tmps.size=T→(∀x∈fix,a.tmps[x.1]?=some x.2)→Post a w→Q .normal a w)(hd:a.defers=D)(hs:a.tmps.size=T)(hf:∀x∈fix,a.tmps[x.1]?=some x.2)(h0:A0 { w with drawn:=w.drawn+1 }∧Rel { w with drawn:=w.drawn+1 }):(Code.region id ops true).wp P Q a w:=by
 have key:∀(fuel:Nat)(listed:Array Bool)(a:Act)(w:World),nu D ops val fix T listed a w→listed.getD n false=false→(listed.getD ia false=false→A0 w)→Rel w→mY ops listed≤fuel→wpAny P .any ops Q fuel listed a w:=by
  intro fuel
  induction fuel with
  |zero =>
   intro listed a w c h G z hu;have A:=uI (ops:=ops) (listed:=listed) (by omega);have:=A n (by omega);rw[h]at this
   cases this
  |succ fuel ih =>
   intro listed a w c h G z hu;refine⟨fun W=>?_,fun i L=>?_⟩
   ·have:=uJ y c.kR W n (by omega);rw[h]at this
    cases this
   obtain⟨X,o,k,_⟩:=gh.1 L;have f:i<ops.size:=(dv.1 k).1;have g:listed.getD i false=false:=by
    have hsz:i<listed.size:=by rw[c.kR];exact f
    rw[dA,dw hsz]at X ⊢;simpa using X
   unfold wpOp;rw[k];have hg:=(tM y k).2.2;have hw:Region.wanted o (yielded ops a.tmps)=true:=by simp[Region.wanted,hg]
   simp only[hw,dn]
   by_cases Y:i=n
   ·subst Y;refine .inl (J o a w k c.fix (fun j o' d H hd he=>c.dep k L H hd he) z _ fun v w' hP=>?_);have B:nu D ops (fun _ _ _=>True) fix T (listed.setIfInBounds i true) (a.put o.dst v) w' :=
     nu.put (val:=fun _ _ _=>True) (w:=w) y ⟨c.defers,c.size,c.fix,fun j o' d O h2 h3=>by obtain⟨v,k1,_⟩:=c.val j o' d O h2 h3;exact⟨v,k1,trivial⟩,c.kR,c.qC⟩ k L trivial (fun _ _ _ _=>trivial)
    have A:=B.all R hn (by rw[mX _ _ _ (by rw[c.kR];exact f)];simp);have hQ:=V _ _ B.defers B.size B.fix hP;have aa:Region.ready .any ops (listed.setIfInBounds i true)=[]:=by
     cases hr:Region.ready .any ops (listed.setIfInBounds i true)with
     |nil=>rfl
     |cons x xs =>
      have hx:x∈Region.ready .any ops (listed.setIfInBounds i true):=by rw[hr];simp
      obtain⟨O,o2,ai,_⟩:=gh.1 hx;have ab:x<ops.size:=(dv.1 ai).1;have h3:=A x ab;have aj:x<(listed.setIfInBounds i true).size:=by rw[B.kR];exact ab
      rw[dA,dw aj]at O h3;simp only[eE]at O h3;rw[h3]at O
      cases O
    cases fuel with
    |zero=>exact⟨aa,hQ⟩
    |succ fuel=>exact⟨fun _=>hQ,fun j H=>by rw[aa]at H;cases H⟩
   have ad:∀(v:Bool),(listed.setIfInBounds i true).getD n false=false:=fun _=>by
    rw[mX _ _ _ (by rw[c.kR];exact f),dt (fun e=>Y e.symm)];exact h
   by_cases C:i=ia
   ·subst C;refine .inl (ah o a w k c.fix (fun j o' d H hd he=>c.dep k L H hd he) (G g) z _ fun v w' hv ak ae=>?_);have:=rz f c.kR g;refine ih _ _ _ (c.put y k L hv fun j u af=>ak j u fun e=>by subst e;rw[g]at af;cases af) (ad true) (fun F=>?_) ae (by omega);rw[mX _ _ _ (by rw[c.kR];exact f),dr rfl]at F
    cases F
   ·refine .inl (ag i o a w (by omega) C k c.fix (fun j o' d H hd he=>c.dep k L H hd he) (fun al=>G ?_) z _ fun v w' hv M=>?_)
    ·cases hq:listed.getD ia false
     ·rfl
     ·have:=c.SS U hq i f al;rw[g]at this
      cases this
    have:=rz f c.kR g;refine ih _ _ _ (c.put y k L hv fun j u _=>I _ _ j u M) (ad true) (fun F=>hA _ _ M (G ?_)) (hR _ _ M z) (by omega);rw[mX _ _ _ (by rw[c.kR];exact f),dt (fun e=>C e.symm)]at F;exact F
 refine iH hm (key ops.size _ a _ ⟨hd,hs,hf,fun i o d _ h=>?_,by simp,fun i o _ h=>?_⟩ ?_ (fun _=>h0.1) h0.2 ?_)
 ·simp[dA,dz]at h;split at h<;>simp at h
 ·simp[dA,dz]at h;split at h<;>simp at h
 ·simp[dA,dz];split<;>simp
 ·unfold mY;exact dE (gj _ _) (by simp)
end
end
end Go.Proofs.YtjnkcibpkkjniaaGreat.kN
namespace Go.Proofs.YtjnkcibpkkjniaaGreat
section
open Go Go.RowKit
variable {P:Program} {w:World}
theorem FM(Q:Value→Prop)(base:Nat)(t ty e:TypeId)(i:TypeInfo)(z:Value)(size bytes:Nat)(V:P.underlying t=some (.slice e))(W:P.info? e=some i)(hz:i.zero=some z)(A:i.size=size)(J:i.bytes=bytes)(aa:z.cells.size=size)(hsz:0<size)(v:Value)(n:Nat)(xs:List Value)(y:w.ownsRow base e size v n xs)(a:Addr)(m c:Nat)(news:List Value)(K:news.length=m*size)(h:∀j u,news[j]?=some u→w.cell? (a.add j)=some u)(h1:∀u∈news,u.oneCell'=true)(C:n+m≤maxLen)(o:(n+m)*bytes≤140737488355328)(F:base≤w.heap.size)(L:∀u∈z.cells.toList,Q u)(G:∀u∈news,Q u)(M:lE Q w v):∃v' w',(Builtin.append_ #[t,t] ty #[v,.slice (some a) m c]).run P w=.ok v' w'∧w'.ownsRow base e size v' (n+m) (xs++news)∧w.grownBy w' v.ownBlock∧lE Q w' v'∧(v'.ownBlock=v.ownBlock∨v'.ownBlock=some w.heap.size):=by
 obtain⟨v',w',hr,h2,h3,h4⟩:=run_append_own (P:=P) w base t ty e i z size bytes V W hz A J aa hsz v n xs y a m c news K h h1 C o F;refine⟨v',w',hr,h2,h3,?_⟩;subst A;subst J;rcases y.2 with⟨rfl,rfl⟩|⟨g,cap,cur,rfl,ad,X,ae,af,ab,H⟩
 ·by_cases hm:m=0
  ·subst hm;have:v'=.slice none 0 0:=h4.2 ⟨rfl,rfl⟩;subst this;exact⟨lE.nil _ _,.inl rfl⟩
  ·have f:=run_append_nil (P:=P) w t ty e i z V W hz a m c news K h (by omega) (by have:=C;simp only[maxLen]at this;omega) (by have hb:=o;simp only[dG]at hb;omega);rw[hr]at f;simp only[jS]at f;obtain⟨rfl,rfl⟩:=f;refine⟨fun k cur ty fr O I u hu=>?_,.inr rfl⟩
   cases O
   have e3:=(jq w.drew _).symm.trans I
   cases e3
   simp only[jr,gV]at hu;rcases hu with hu|hu
   ·exact G u hu
   ·exact L u (xz (by omega) hu)
 ·by_cases B:n+m≤cap
  ·have R:n*i.size+news.length≤cur.size:=by rw[K,ab,←ef];exact ek _ B
   have f:=run_append_room (P:=P) w t ty e i V W g n cap cur X a m c news K h h1 B R;rw[hr]at f;simp only[jS]at f;obtain⟨rfl,rfl⟩:=f;have Y:=M g cur e (0,0) rfl X;refine⟨fun k U pK fr O I u hu=>?_,.inl rfl⟩
   cases O
   rw[setRow_heap w g cur _ e _ X]at I
   cases I
   simp only[gV]at hu;rcases hu with(hu|hu)|hu
   ·exact Y u (jy hu)
   ·exact G u hu
   ·exact Y u (jz hu)
  ·have holds:∀j u,xs[j]?=some u→w.cell? ((⟨g,0,none⟩:Addr).add j)=some u:=y.cells (g:=g) rfl;have f:=run_append_grow (P:=P) w t ty e i z V W hz ⟨g,0,none⟩ n cap xs y.1 holds a m c news K h (by omega) (by have:=C;simp only[maxLen]at this;omega) (growslice_fits (by omega) o);rw[hr]at f;simp only[jS]at f;obtain⟨rfl,rfl⟩:=f;have Y:=M g cur e (0,0) rfl X;refine⟨fun k U pK fr O I u hu=>?_,.inr rfl⟩
   cases O
   have e3:=(jq w.drew _).symm.trans I
   cases e3
   simp only[jr,gV]at hu;rcases hu with(hu|hu)|hu
   ·rw[←H]at hu;exact Y u (jy hu)
   ·exact G u hu
   ·exact L u (xz (by omega) hu)
theorem SU{ops:Array Oper}{rest:List Oper}{o:Oper}{a:Act}{Q:Exit→Act→World→Prop}(y:o.guard=none)(s x:Operand)(t:TypeId)(A:o.op=Op.call { callee:=Callee.builtin Builtin.append,args:=#[s,x],argTypes:=#[t,t] })(f:Value→Prop)(base:Nat)(e:TypeId)(i:TypeInfo)(z:Value)(size bytes:Nat)(C:P.underlying t=some (.slice e))(F:P.info? e=some i)(G:i.zero=some z)(H:i.size=size)(I:i.bytes=bytes)(J:z.cells.size=size)(K:0<size)(v:Value)(n:Nat)(xs:List Value)(L:a.eval s=v)(g:w.ownsRow base e size v n xs)(ad:Addr)(m c:Nat)(news:List Value)(hx:a.eval x=.slice (some ad) m c)(M:news.length=m*size)(O:∀j u,news[j]?=some u→w.cell? (ad.add j)=some u)(B:∀u∈news,u.oneCell'=true)(b1:n+m≤maxLen)(b2:(n+m)*bytes≤140737488355328)(hb:base≤w.heap.size)(R:∀u∈z.cells.toList,f u)(U:∀u∈news,f u)(V:lE f w v)(h:∀v' w',w'.ownsRow base e size v' (n+m) (xs++news)→w.grownBy w' v.ownBlock→lE f w' v'→(v'.ownBlock=v.ownBlock∨v'.ownBlock=some w.heap.size)→wpList P ops Q rest (a.put o.dst v') w'):wpList P ops Q (o::rest) a w :=
 wpList_plain y fun _ W=>by
  obtain⟨v',w',k,r1,r2,X,Y⟩:=FM (P:=P) f base t o.type e i z size bytes C F G H I J K v n xs g ad m c news M O B b1 b2 hb R U V;unfold Oper.wp execOp;simp only[A,resolve,invoke,builtin,gE,Sem.run_pure,Result.andThen_ok,eC,gD,List.map_nil,L,hx,k];exact W _ _ (h v' w' r1 r2 X Y)
end
end Go.Proofs.YtjnkcibpkkjniaaGreat
