import Derived.Test.YtjnkcibpkkjniaaGreatA00
import Derived.Test.YtjnkcibpkkjniaaGreatA13
set_option linter.all false
set_option maxHeartbeats 4000000
set_option maxRecDepth 20000
namespace Go.Proofs.YtjnkcibpkkjniaaGreat.kN
section
open Go Go.Conc Go.RowKit Go.Proofs.YtjnkcibpkkjniaaGreat.kx
noncomputable def xU:Code:=match nM with | .seq _ (.seq (.block _ (.seq _ (.seq _ c))) _)=>c|_=>.skip
noncomputable def xV:Code:=match nM with | .seq _ (.seq _ c)=>c|_=>.skip
structure wA (a:Act) (n k:Nat) (hd:Int) (sp nb nc:Nat):Prop where
 d:a.defers=[]
 z:a.tmps.size=83
 f0:a.tmps[0]?=some (.int .i64 (n:Int))
 f1:a.tmps[1]?=some (.int .i64 hd)
 f9:a.tmps[9]?=some (.pointer (some ⟨sp,0,none⟩))
 f13:a.tmps[13]?=some (.slice (some ⟨nb,0,none⟩) n nc)
 f14:a.tmps[14]?=some (.int .i64 (k:Int))
variable {cs x2:List Frame} {Q:Frame→List Frame→World→Prop} {c bc:Frame} {ac a:Act} {ops:Array Oper} {i n sp nb nc:Nat} {l:List Nat} {kk:List Item} {w:World} {hd:Int}
theorem Uk(b:c=bc.at ac (.inRegion ops (i::l)::kk))(f:wA a n n hd sp nb nc)(e:GX cs Q (c.finish (.pointer (some ⟨sp,0,none⟩))) x2 w):GX cs Q ((base 14).at a [.code nM,.inLoop nM,.inBlock 2,.code qs]) (c::x2) w:=by
 have g:Hid (_):=e;have h:Hid (_):=b;clear e b;obtain⟨d,hsz,f0,f1,f9,f13,f14⟩:=f;obtain⟨tm,df⟩:=a;simp only at d hsz f0 f1 f9 f13 f14;subst d;obtain⟨k0,k1,k2,k3,k4,k5,k6,k7,k8,k9,j,m,o,p,q,r,s,u,x,y,z,A,B,C,D,E,F,G,H,I,J,L,M,O,R,S,T,U,V,W,X,Y,Z,aa,ab,ad,ae,af,ag,ah,ai,aj,ak,al,am,an,ao,ap,aq,ar,av,aw,ax,ay,az,aA,aB,aC,aD,aE,aF,aG,aH,aI,aJ,aK,aL,aM,aN,aO,aP,aQ,aR,rfl⟩:=vU hsz;simp only[fV,gB,fW,dW]at f0 f1 f9 f13 f14;subst f0 f1 f9 f13 f14;clear hsz
 (have aS:=nF;have aT:=ow;have aU:=nZ;have aV:=m7;have aW:=nG;have aX:=nH);unfold nM qs pF;simp only[Tryz.f14];refine GX.seq ?_;refine GX.seq ?_
 ((refine GX.region ?_);walk_nrm)
 iterate 3 ((refine GX.vz w ?_);walk_nrm)
 refine GX.kT ?_;refine GX.cond (t:=false) (by kernel_rfl) rfl ?_;simp only[dL,dp];refine GX.exit rfl ?_;refine GX.seq ?_
 ((refine GX.region ?_);walk_nrm)
 iterate 2 ((refine GX.vz w ?_);walk_nrm)
 refine GX.kT ?_;refine GX.ret ?_;exact GX.leave (tr:=8) rfl Tryz.func14 (by rfl) h.out g.out
variable {xs:List Frame} {k:Nat}
theorem Ul(h8:k≤8)(f:wA a n k hd sp nb nc)(f81:a.tmps[81]?=some (.bool false))(e:∀a,wA a n (k+1) hd sp nb nc→GX cs Q ((base 14).at a [.code nM,.inLoop nM,.inBlock 2,.code qs]) xs w):GX cs Q ((base 14).at a [.code xU,.inBlock 3,.code xV,.inLoop nM,.inBlock 2,.code qs]) xs w:=by
 have g:Hid (_):=e;have j:IntKind.i64.wrap ((k:Int)+1)=((k+1:Nat):Int):=by rw[iC]<;>omega
 clear e;obtain⟨d,hsz,f0,f1,f9,f13,f14⟩:=f;obtain⟨tm,df⟩:=a;simp only at d hsz f0 f1 f9 f13 f14 f81;subst d;obtain⟨k0,k1,k2,k3,k4,k5,k6,k7,k8,k9,m,o,p,q,r,s,u,x,y,z,A,B,C,D,E,F,G,H,I,J,L,M,O,R,S,T,U,V,W,X,Y,Z,aa,ab,ad,ae,af,ag,ah,ai,aj,ak,al,am,an,ao,ap,aq,ar,av,aw,ax,ay,az,aA,aB,aC,aD,aE,aF,aG,aH,aI,aJ,aK,aL,aM,aN,aO,aP,aQ,aR,aS,rfl⟩:=vU hsz;simp only[fV,gB,fW,dW]at f0 f1 f9 f13 f14 f81;subst f0 f1 f9 f13 f14 f81;clear hsz
 (have aT:=nF;have aU:=ow;have aV:=nZ;have aW:=m7;have aX:=nG;have aY:=nH);unfold xU xV nM qs pF;simp only[Tryz.f14];refine GX.cond (t:=false) (by kernel_rfl) rfl ?_;simp only[dL,dp];refine GX.pd ?_;refine GX.inBlock ?_
 ((refine GX.region ?_);walk_nrm)
 iterate 3 ((refine GX.vz w ?_);walk_nrm)
 refine GX.kT ?_;refine GX.inLoop ?_;have b:=fun a h=>g.out a h
 unfold nM qs pF at b;simp only[Tryz.f14]at b;exact b _ ⟨rfl,rfl,rfl,rfl,rfl,rfl,rfl⟩
variable {K:Nat→Prop}
theorem Um(C:n≤8)(g:k<n)(E:wA a n k hd sp nb nc)(hN:BR w n hd nb)(hS:oQ w sp n hd ⟨3,hd,0,0,[]⟩ K)(u:∀(a:Act)(w':World),wA a n k hd sp nb nc→a.tmps[81]?=some (.bool false)→Below w.heap.size w w' →
   GX cs Q ((base 14).at a [.code xU,.inBlock 3,.code xV,.inLoop nM,.inBlock 2,.code qs]) xs w'):GX cs Q ((base 14).at a [.code nM,.inLoop nM,.inBlock 2,.code qs]) xs w:=by
 obtain⟨c0,c1,c2⟩:=hN k g;rw[dY 3 k]at c0 c1 c2;have q:nb<w.heap.size:=iK _ _ c0;have y:Hid (_):=u;have p:Hid (w.cell? ⟨nb,k*3,none⟩=some (.int .i64 (k:Int))∧w.cell? ⟨nb,k*3+1,none⟩=some (.string (strOfNums (sS hd)))∧w.cell? ⟨nb,k*3+2,none⟩=some (.bool false)):=⟨c0,c1,c2⟩;have F:Hid (∀T,Calls Tryz.prog 18 #[.pointer (some ⟨sp,0,none⟩),.int .i64 (k:Int)] (again w T) fun e w'=>e=.returned (.int .i64 3)∧w'=again w T):=hS.state k g;clear u c0 c1 c2 hS hN;obtain⟨j,hsz,f0,f1,f9,f13,f14⟩:=E;obtain⟨tm,df⟩:=a;simp only at j hsz f0 f1 f9 f13 f14;subst j;obtain⟨k0,k1,k2,k3,k4,k5,k6,k7,k8,k9,G,H,I,J,L,M,O,R,S,U,V,W,X,Y,Z,aa,ab,ad,ae,af,ag,ah,ai,aj,ak,al,am,an,ao,ap,aq,ar,av,aw,ax,ay,az,aA,aB,aC,aD,aE,aF,aG,aH,aI,aJ,aK,aL,aM,aN,aO,aP,aQ,aR,aS,aT,aU,aV,aW,aX,aY,aZ,a0,a1,a2,a3,a4,a5,a6,a7,a8,a9,rfl⟩:=vU hsz;simp only[fV,gB,fW,dW]at f0 f1 f9 f13 f14;subst f0 f1 f9 f13 f14;clear hsz
 (have ba:=nF;have bb:=ow;have bd:=nZ;have be:=m7;have bf:=nG;have bg:=nH);have z:∀a:Act,a.defers=[]→a.tmps.size=83→a.tmps[0]?=some (.int .i64 (n:Int))→a.tmps[1]?=some (.int .i64 hd)→a.tmps[9]?=some (.pointer (some ⟨sp,0,none⟩))→a.tmps[13]?=some (.slice (some ⟨nb,0,none⟩) n nc)→a.tmps[14]?=some (.int .i64 (k:Int))→a.tmps[15]?=some (.int .i64 3) →
   GX cs Q ((base 14).at a [.code (.region 16 pG true),.code xU,.inBlock 3,.code xV,.inLoop nM,.inBlock 2,.code qs]) xs w:=by
  intro a b1 b2 b3 b4 b5 b6 b7 b8;refine GX.lb (D:=[]) (T:=83) (n:=14) (w0:=w) (val:=p5 n nb nc k hd) (fix:=[(0,.int .i64 (n:Int)),(1,.int .i64 hd),(9,.pointer (some ⟨sp,0,none⟩)),(13,.slice (some ⟨nb,0,none⟩) n nc),(14,.int .i64 (k:Int)),(15,.int .i64 3)]) (Post:=fun a w'=>a.tmps[81]?=some (.bool false)∧Below w.heap.size w w') (by kernel_rfl) Ue Uf Ug Ud
   (fun i o a m l hi r b d s h=>Ui g C q p.out.1 p.out.2.1 p.out.2.2 i o a m l hi r (b (1,_) (by simp)) (b (13,_) (by simp)) (b (14,_) (by simp)) (b (15,_) (by simp)) d s h)
   (fun o a m l r b d s hsz h=>Uj o a m l r d s hsz h)
   (fun a m h1 h2 b A=>y.out a m ⟨h1,h2,b (0,_) (by simp),b (1,_) (by simp),b (9,_) (by simp),b (13,_) (by simp),b (14,_) (by simp)⟩ A.1 A.2) b1 b2 ?_ (iJ _ _)
  intro x hx;simp at hx;rcases hx with rfl|rfl|rfl|rfl|rfl|rfl
  ·exact b3
  ·exact b4
  ·exact b5
  ·exact b6
  ·exact b7
  ·exact b8
 have HE:Hid (_):=z;clear z y p;unfold nM qs pF;simp only[Tryz.f14];refine GX.seq ?_;refine GX.seq ?_
 ((refine GX.region ?_);walk_nrm)
 iterate 3 ((refine GX.vz w ?_);walk_nrm)
 refine GX.kT ?_;refine GX.cond (t:=true) (by kernel_rfl) rfl ?_;simp only[dn];refine GX.pd ?_;refine GX.seq ?_;refine GX.block ?_;refine GX.seq ?_
 ((refine GX.region ?_);walk_nrm)
 iterate 2 ((refine GX.vz w ?_);walk_nrm)
 refine GX.c rfl rfl (by kernel_rfl) (fun T K h=>?_);unfold execOp;go_simp;refine h _ _ _ (fun B=>?_);clear h K;refine jP (F.out B) ?_;rintro e w' ⟨rfl,rfl⟩;refine⟨_,rfl,GX.lZ (v:=w) ?_ rfl rfl⟩;clear B;walk_nrm
 ((refine GX.vz w ?_);walk_nrm);refine GX.kT ?_;refine GX.seq ?_;have f:=HE.out;unfold pG xU xV nM qs pF at f;simp only[Tryz.f14]at f;exact f _ rfl rfl rfl rfl rfl rfl rfl rfl
theorem Un(f:c=bc.at ac (.inRegion ops (i::l)::kk))(s:n≤8):∀(m k:Nat),k+m=n→∀(a:Act)(w:World),wA a n k hd sp nb nc→BR w n hd nb→oQ w sp n hd ⟨3,hd,0,0,[]⟩ K→(∀w',Below w.heap.size w w'→GX cs Q (c.finish (.pointer (some ⟨sp,0,none⟩))) x2 w') →
   GX cs Q ((base 14).at a [.code nM,.inLoop nM,.inBlock 2,.code qs]) (c::x2) w:=by
 intro m
 induction m with
 |zero =>
  intro k g a w h hN hS j;obtain rfl:k=n:=by omega
  exact Uk f h (j w (iJ _ _))
 |succ m t =>
  intro k g a w h hN hS j;refine Um s (by omega) h hN hS fun a w' o f81 hB=>Ul (by omega) o f81 fun a q=>t (k+1) (by omega) a w' q (fun i e=>?_) (hS.keep (fun b hb=>.inr (hB.block b hb)) hB.size fun b hb=>.inl hb) fun w2 r=>j w2 (hB.trans (r.mono hB.size))
  have d:nb<w.heap.size:=iK _ _ (hN i e).1;exact⟨(hB.cell (p:=⟨nb,_,none⟩) d).trans (hN i e).1,(hB.cell (p:=⟨nb,_,none⟩) d).trans (hN i e).2.1,(hB.cell (p:=⟨nb,_,none⟩) d).trans (hN i e).2.2⟩
variable {lm:Int}
theorem Uo(m:tC n hd)(E:0≤lm)(C:∀(a:Act)(w':World)(v:Value)(sp B:Nat),a.defers=[]→a.tmps.size=83→a.tmps[0]?=some (.int .i64 (n:Int))→a.tmps[1]?=some (.int .i64 hd)→a.tmps[9]?=some (.pointer (some ⟨sp,0,none⟩))→a.tmps[11]?=some v→oQ w' sp n hd n6 (fun b=>b<w.heap.size∨v.ownBlock=some b)→w'.ownsRow B 43 3 v (2*n) (lU (nz hd n))→(∀b,b<w.heap.size→w'.heap[b]?=w.heap[b]?) →
   GX cs Q ((base 14).at a [.code pF]) xs w'):GX cs Q ((base 14).at { tmps:=#[.int .i64 (n:Int),.int .i64 hd,.int .i64 lm,.int .i64 0]++Array.replicate 79 undef,defers:=[] } [.code (Tryz.f14.body.getD .skip)]) xs w:=by
 have D:Hid (_):=C;clear C
 (have F:=nF;have G:=ow;have H:=nZ;have I:=m7;have J:=nG;have L:=nH);simp only[Tryz.f14,eE];walk_nrm;refine GX.seq ?_
 ((refine GX.region ?_);walk_nrm)
 ((refine GX.vz w ?_);walk_nrm);refine GX.kT ?_;refine GX.seq ?_
 ((refine GX.region ?_);walk_nrm)
 iterate 4 ((refine GX.vz w ?_);walk_nrm)
 refine GX.c rfl rfl (by kernel_rfl) (fun T K j=>?_);unfold execOp;go_simp;refine j _ _ _ (fun o=>?_);clear j K;refine jP (TW _ n m.n8 hd lm 0) ?_;rintro e w1 ⟨v,gs,rfl,p,g⟩;refine⟨_,rfl,?_⟩;have M:∃ao cap,v=.slice ao n cap∧True:=by
  obtain⟨⟨ao,cap,e,_⟩,_⟩:=p;exact⟨ao,cap,e,trivial⟩
 obtain⟨ao,cap,rfl,_⟩:=M;walk_nrm;refine GX.c rfl rfl (by kernel_rfl) (fun T K j=>?_);unfold execOp;go_simp;refine j _ _ _ (fun o=>?_);clear j K;refine jP (T9 (w:=again w1 o) m E (show nI (again w1 o) (.slice ao n cap) n (tB hd lm 0 gs) from p.cell (w':={ w1 with heap:=w1.heap }) ⟨rfl,rfl,rfl,dD _,fun _ _=>rfl⟩)) ?_;rintro e w2 ⟨sp,rfl,h,hS⟩;refine⟨_,rfl,?_⟩;walk_nrm
 iterate 3 ((refine GX.vz w2 ?_);walk_nrm)
 iterate 2 ((refine GX.vz (w2.alloc (.cells #[.int .i64 0,.int .i64 0] 50)) ?_);walk_nrm)
 refine GX.uz (((w2.alloc (.cells #[.int .i64 0,.int .i64 0] 50)).setCell ⟨w2.heap.size,0,none⟩ (.int .i64 0)).setCell ⟨w2.heap.size,1,none⟩ (.int .i64 0)) ?_;have q:(((w2.alloc (.cells #[.int .i64 0,.int .i64 0] 50)).setCell ⟨w2.heap.size,0,none⟩ (.int .i64 0)).setCell ⟨w2.heap.size,1,none⟩ (.int .i64 0)).heap.size=w2.heap.size+1:=by simp
 have hF:(((w2.alloc (.cells #[.int .i64 0,.int .i64 0] 50)).setCell ⟨w2.heap.size,0,none⟩ (.int .i64 0)).setCell ⟨w2.heap.size,1,none⟩ (.int .i64 0)).heap[w2.heap.size]?=some (.cells #[.int .i64 0,.int .i64 0] 50 (0,0)):=by
  rw[lp (lp (jL w2 _) 0 _) 1 _];rfl
 have f:∀b,b<w2.heap.size→(((w2.alloc (.cells #[.int .i64 0,.int .i64 0] 50)).setCell ⟨w2.heap.size,0,none⟩ (.int .i64 0)).setCell ⟨w2.heap.size,1,none⟩ (.int .i64 0)).heap[b]?=w2.heap[b]?:=fun b hb=>by
  rw[kA (by omega) 1 _,kA (by omega) 0 _];exact Go.heap_alloc_old w2 _ hb
 generalize(((w2.alloc (.cells #[.int .i64 0,.int .i64 0] 50)).setCell ⟨w2.heap.size,0,none⟩ (.int .i64 0)).setCell ⟨w2.heap.size,1,none⟩ (.int .i64 0))=w3 at q hF f ⊢;have O:=kh hF 0;have R:=kh hF 1;simp at O R;have s1:w.heap.size≤w1.heap.size:=g.size;have s2:w1.heap.size≤w2.heap.size:=h.size;have S:Hid (_):=fun a r s u x y z A=>Ub (old:=w.heap.size) (w0:=w) (B:=w3.heap.size) m (by omega) (fun a w' v r s u x y z A U V=>D.out a w' v sp w3.heap.size r s u x y z A U V) n 0 (by omega) a w3 (.slice none 0 0) r s u x y z A (dD _) (hS.keep (fun b hb=>.inr (f b hb)) (by omega) fun b hb=>.inl (by
  rcases hb with hb|hb
  ·show b<w1.heap.size;omega
  ·cases hb)) (ju _ _ _ _) (fun b hb=>(f b (by omega)).trans ((h.block b (by show b<w1.heap.size;omega)).trans (g.block b hb)))
 clear D hS p g h f hF s1 s2;walk_nrm;refine GX.kT ?_;refine GX.seq ?_;refine GX.seq ?_
 ((refine GX.region ?_);walk_nrm)
 iterate 7 ((refine GX.vz w3 ?_);walk_nrm)
 refine GX.kT ?_;refine GX.cond (t:=false) (by kernel_rfl) rfl ?_;simp only[dL,dp];refine GX.pd ?_;refine GX.seq ?_
 ((refine GX.region ?_);walk_nrm)
 iterate 1 ((refine GX.vz w3 ?_);walk_nrm)
 refine GX.kT ?_;refine GX.seq ?_;refine GX.seq ?_
 ((refine GX.region ?_);walk_nrm)
 ((refine GX.vz w3 ?_);walk_nrm);refine GX.kT ?_;refine GX.block ?_;refine GX.loop ?_;have d:=S.out;unfold wu pF at d;simp only[Tryz.f14]at d;exact d _ rfl rfl rfl rfl rfl rfl rfl
theorem Up(m:tC n hd)(o:c=bc.at ac (.inRegion ops (i::l)::kk))(d:0≤lm)(k:∀w' sp,oQ w' sp n hd ⟨3,hd,0,0,[]⟩ (fun b=>b<w.heap.size)→w.heap.size≤w'.heap.size→(∀b,b<w.heap.size→w'.heap[b]?=w.heap[b]?)→GX cs Q (c.finish (.pointer (some ⟨sp,0,none⟩))) x2 w'):GX cs Q ((base 14).at { tmps:=#[.int .i64 (n:Int),.int .i64 hd,.int .i64 lm,.int .i64 0]++Array.replicate 79 undef,defers:=[] } [.code (Tryz.f14.body.getD .skip)]) (c::x2) w:=by
 refine Uo m d fun a w1 v sp B p q r s t u hS x e=>?_
 refine Uc m p q r s t u hS x (fun b hb=>.inr hb) fun a w2 nb nc b1 b2 y z A C D hN f g=>?_
 refine Un o m.n8 n 0 (by omega) a w2 ⟨b1,b2,y,z,A,C,D⟩ hN f fun w3 hB=>?_
 have hsz:w.heap.size≤w3.heap.size:=by
  refine Nat.le_of_not_lt fun d=>?_
  have h:=e w3.heap.size d;have j:=g w3.heap.size (.inl d);have G:=hB.size;rw[dw d]at h;rw[h]at j;have:=(dv.1 j).1;omega
 have hold:∀b,b<w.heap.size→w3.heap[b]?=w.heap[b]?:=fun b hb=>by
  have h:=e b hb;have j:=g b (.inl hb);have E:b<w1.heap.size:=(dv.1 (h.trans (dw hb))).1;have F:b<w2.heap.size:=(dv.1 (j.trans (dw E))).1;exact(hB.block b F).trans (j.trans h)
 exact k w3 sp (f.keep (fun b hb=>.inr (hB.block b hb)) hB.size fun b hb=>.inl (.inl hb)) hsz hold
theorem GX.Uq{b:Frame}{k:List Item}{o:Oper}(r:ops[i]?=some o)(hw:Region.wanted o (yielded ops a.tmps)=true){x y z u:Operand}{f:Array TypeId}(g:o.op=.call { callee:=.value (.func 14),args:=#[x,y,z,u],argTypes:=f })(d:(#[x,y,z,u]:Array Operand).all (@lN j9)=true){v0 v1 v2 v3:Value}(j:a.eval x=v0)(m:a.eval y=v1)(p:a.eval z=v2)(q:a.eval u=v3)(h:GX cs Q ((base 14).at { tmps:=#[v0,v1,v2,v3]++Array.replicate 79 undef,defers:=[] } [.code (Tryz.f14.body.getD .skip)]) (b.at a (.inRegion ops (i::l)::k)::xs) w)(m0:lu v0=false:=by rfl)(s:lu v1=false:=by rfl)(m2:lu v2=false:=by rfl)(t:lu v3=false:=by rfl):GX cs Q (b.at a (.inRegion ops (i::l)::k)) xs w:=by
 have hma:mR #[x,y,z,u] a.eval=true:=by simp[mR,j,m,p,q,m0,s,m2,t]
 refine GX.wO (hma:=hma) r hw g d Tryz.func14 rfl rfl ?_;have e:(#[x,y,z,u]:Array Operand).map a.eval=#[v0,v1,v2,v3]:=by simp[j,m,p,q]
 rw[e];exact h
theorem Ur(f:Nat→Value):((List.range 152).map f).toArray=#[f 0,f 1,f 2,f 3,f 4,f 5,f 6,f 7,f 8,f 9,f 10,f 11,f 12,f 13,f 14,f 15,f 16,f 17,f 18,f 19,f 20,f 21,f 22,f 23,f 24,f 25,f 26,f 27,f 28,f 29,f 30,f 31,f 32,f 33,f 34,f 35,f 36,f 37,f 38,f 39,f 40,f 41,f 42,f 43,f 44,f 45,f 46,f 47,f 48,f 49,f 50,f 51,f 52,f 53,f 54,f 55,f 56,f 57,f 58,f 59,f 60,f 61,f 62,f 63,f 64,f 65,f 66,f 67,f 68,f 69,f 70,f 71,f 72,f 73,f 74,f 75,f 76,f 77,f 78,f 79,f 80,f 81,f 82,f 83,f 84,f 85,f 86,f 87,f 88,f 89,f 90,f 91,f 92,f 93,f 94,f 95,f 96,f 97,f 98,f 99,f 100,f 101,f 102,f 103,f 104,f 105,f 106,f 107,f 108,f 109,f 110,f 111,f 112,f 113,f 114,f 115,f 116,f 117,f 118,f 119,f 120,f 121,f 122,f 123,f 124,f 125,f 126,f 127,f 128,f 129,f 130,f 131,f 132,f 133,f 134,f 135,f 136,f 137,f 138,f 139,f 140,f 141,f 142,f 143,f 144,f 145,f 146,f 147,f 148,f 149,f 150,f 151]:=by kernel_rfl
theorem sT{C:Array Value}(h:C.size=152):∃f:Nat→Value,C=#[f 0,f 1,f 2,f 3,f 4,f 5,f 6,f 7,f 8,f 9,f 10,f 11,f 12,f 13,f 14,f 15,f 16,f 17,f 18,f 19,f 20,f 21,f 22,f 23,f 24,f 25,f 26,f 27,f 28,f 29,f 30,f 31,f 32,f 33,f 34,f 35,f 36,f 37,f 38,f 39,f 40,f 41,f 42,f 43,f 44,f 45,f 46,f 47,f 48,f 49,f 50,f 51,f 52,f 53,f 54,f 55,f 56,f 57,f 58,f 59,f 60,f 61,f 62,f 63,f 64,f 65,f 66,f 67,f 68,f 69,f 70,f 71,f 72,f 73,f 74,f 75,f 76,f 77,f 78,f 79,f 80,f 81,f 82,f 83,f 84,f 85,f 86,f 87,f 88,f 89,f 90,f 91,f 92,f 93,f 94,f 95,f 96,f 97,f 98,f 99,f 100,f 101,f 102,f 103,f 104,f 105,f 106,f 107,f 108,f 109,f 110,f 111,f 112,f 113,f 114,f 115,f 116,f 117,f 118,f 119,f 120,f 121,f 122,f 123,f 124,f 125,f 126,f 127,f 128,f 129,f 130,f 131,f 132,f 133,f 134,f 135,f 136,f 137,f 138,f 139,f 140,f 141,f 142,f 143,f 144,f 145,f 146,f 147,f 148,f 149,f 150,f 151]:=⟨fun i=>C.getD i undef,(Qa h).trans (Ur _)⟩
variable {w':World} {au id:Int} {P:Nat→Pr}
theorem Gq{sv:Value}(hB:Below w.heap.size w w')(m:w.heap.size≤sp)(kp:w'.heap[sp]?=some (.cells #[.int .i64 0,sv] 91 (0,0)))(hN:(n=0∧sv=.slice none 0 0)∨∃(xb xc:Nat)(Z:List Value)(pz:Nat→Pz),0<n∧sv=.slice (some ⟨xb,0,none⟩) n xc∧w.heap.size≤xb∧sp≠xb∧n7 w' xb n Z au id (fun i=>oo (pz i))∧(∀i,i<n→(pz i).au=(P i).au∧(pz i).hold=(P i).hold)∧∀i,i<n→∀b,pW (pz i) b→w.heap.size≤b∧b≠sp):∃d,om w' sp n 0 au id d (fun b=>b<w.heap.size)∧∀i,i<n→d i=oo (d i).p∧(d i).p.au=(P i).au∧(d i).p.hold=(P i).hold:=by
 have s:=hB.size;have t:=(dv.1 kp).1;rcases hN with⟨rfl,rfl⟩|⟨xb,xc,Z,pz,o,rfl,q,h,r,f,g⟩
 ·exact⟨fun i=>oo ⟨0,0,0,0,0,none,0,0,none,0,0⟩,⟨fun b hb=>⟨by omega,by omega⟩,.inl ⟨rfl,kp⟩⟩,fun i e=>absurd e (ik _)⟩
 ·exact⟨fun i=>oo (pz i),⟨fun b hb=>⟨by omega,by omega⟩,.inr ⟨o,xb,xc,Z,⟨kp,r,h,fun i e hb=>(g i e sp (vm hb)).2 rfl⟩,fun b hb=>⟨by omega,fun i e j=>by have:=(g i e b (vm j)).1;omega⟩⟩⟩,fun i e=>⟨rfl,(f i e).1,(f i e).2⟩⟩
structure oA (w0 w:World) (N Nb:Nat→Prop) (kL kM n:Nat) (na nb au id:Int) (da db:Nat→SD):Prop where
 old:∀b,b<w0.heap.size→w.heap[b]?=w0.heap[b]?
 le:w0.heap.size≤w.heap.size
 st:∃Ka Kb,om w kL n na au id da Ka∧om w kM n nb au id db Kb∧(∀b,b<w.heap.size→Ka b∨Kb b)∧(∀b,b<w0.heap.size∨N b→Ka b∧Kb b)∧∀b,Nb b→Kb b
variable {w0:World} {Nb:Nat→Prop} {kL kM:Nat} {na:Int} {da db:Nat→SD}
theorem oA.grow{N':Nat→Prop}{nb:Int}(h:oA w0 w (fun _=>False) Nb kL kM n na nb au id da db)(hB:∀b,b<w.heap.size→w'.heap[b]?=w.heap[b]?)(e:w.heap.size≤w'.heap.size)(hN:∀b,N' b→w.heap.size≤b∧b<w'.heap.size):oA w0 w' N' (fun _=>False) kL kM n na nb au id da db:=by
 obtain⟨Ka,Kb,g,hb,j,f,_⟩:=h.st;refine⟨fun b hb=>(hB b (by have:=h.le;omega)).trans (h.old b hb),dE h.le e,fun b=>Ka b∨(w.heap.size≤b∧b<w'.heap.size),fun b=>Kb b∨(w.heap.size≤b∧b<w'.heap.size),g.keep (fun b hb=>⟨fun _=>.inr (hB b hb),fun _=>hB b hb⟩) e fun b hb=>hb,hb.keep (fun b d=>⟨fun _=>.inr (hB b d),fun _=>hB b d⟩) e fun b hb=>hb,fun b hb=>?_,fun b hb=>?_,fun b hb=>hb.elim⟩
 ·by_cases m:b<w.heap.size
  ·rcases j b m with k|k
   ·exact .inl (.inl k)
   ·exact .inr (.inl k)
  ·exact .inl (.inr ⟨by omega,hb⟩)
 ·rcases hb with k|k
  ·exact⟨.inl (f b (.inl k)).1,.inl (f b (.inl k)).2⟩
  ·exact⟨.inr (hN b k),.inr (hN b k)⟩
variable {N:Nat→Prop}
theorem oA.heq{nb:Int}(h:oA w0 w N Nb kL kM n na nb au id da db)(e:w'.heap=w.heap):oA w0 w' N Nb kL kM n na nb au id da db:=by
 have d:∀b:Nat,w'.heap[b]?=w.heap[b]?:=fun b=>by rw[e]
 have f:w.heap.size≤w'.heap.size:=by rw[e];exact dD _
 obtain⟨Ka,Kb,g,hb,j,m,o⟩:=h.st;exact⟨fun b hb=>(d b).trans (h.old b hb),dE h.le f,Ka,Kb,g.keep (fun b hb=>⟨fun _=>.inr (d b),fun _=>d b⟩) f fun b hb=>.inl hb,hb.keep (fun b hb=>⟨fun _=>.inr (d b),fun _=>d b⟩) f fun b hb=>.inl hb,fun b hb=>j b (by rw[e]at hb;exact hb),m,o⟩
variable {Ka Kb:Nat→Prop}
theorem oA.first{Nb:Nat→Prop}{na d nb:Int}{da f:Nat→SD}(hw:(∀b,b<w0.heap.size→w.heap[b]?=w0.heap[b]?)∧w0.heap.size≤w.heap.size)(hb:om w kM n nb au id db Kb)(j:∀b,b<w.heap.size→Ka b∨Kb b)(m:∀b,b<w0.heap.size∨N b→Ka b∧Kb b)(o:om w' kL n d au id f Ka)(p:w.heap.size≤w'.heap.size)(hB:∀b,Ka b→w'.heap[b]?=w.heap[b]?):oA w0 w' N (fun b=>w.heap.size≤b∧b<w'.heap.size) kL kM n d nb au id f db:=by
 refine⟨fun b hb=>(hB b (m b (.inl hb)).1).trans (hw.1 b hb),dE hw.2 p,Ka,fun b=>Kb b∨(w.heap.size≤b∧b<w'.heap.size),o,hb.keep (fun b g=>⟨fun _=>?_,fun e=>?_⟩) p fun b hb=>hb,fun b g=>?_,fun b h=>⟨(m b h).1,.inl (m b h).2⟩,fun b h=>.inr h⟩
 ·rcases j b g with k|k
  ·exact .inr (hB b k)
  ·exact .inl k
 ·rcases j b g with k|k
  ·exact hB b k
  ·exact absurd e (hb.1 b k).2
 ·by_cases h:b<w.heap.size
  ·rcases j b h with k|k
   ·exact .inl k
   ·exact .inr (.inl k)
  ·exact .inr (.inr ⟨by omega,g⟩)
theorem oA.second{nb d:Int}{db f:Nat→SD}(hw:(∀b,b<w0.heap.size→w.heap[b]?=w0.heap[b]?)∧w0.heap.size≤w.heap.size)(p:om w kL n na au id da Ka)(j:∀b,b<w.heap.size→Ka b∨Kb b)(m:∀b,b<w0.heap.size∨N b→Ka b∧Kb b)(o:om w' kM n d au id f Kb)(q:w.heap.size≤w'.heap.size)(hB:∀b,Kb b→w'.heap[b]?=w.heap[b]?):oA w0 w' (fun _=>False) (fun _=>False) kL kM n na d au id da f:=by
 refine⟨fun b hb=>(hB b (m b (.inl hb)).2).trans (hw.1 b hb),dE hw.2 q,fun b=>Ka b∨(w.heap.size≤b∧b<w'.heap.size),Kb,p.keep (fun b g=>⟨fun _=>?_,fun e=>?_⟩) q fun b hb=>hb,o,fun b g=>?_,fun b h=>?_,fun b h=>h.elim⟩
 ·rcases j b g with k|k
  ·exact .inl k
  ·exact .inr (hB b k)
 ·rcases j b g with k|k
  ·exact absurd e (p.1 b k).2
  ·exact hB b k
 ·by_cases h:b<w.heap.size
  ·rcases j b h with k|k
   ·exact .inl (.inl k)
   ·exact .inr k
  ·exact .inl (.inr ⟨by omega,g⟩)
 ·rcases h with h|h
  ·exact⟨.inl (m b (.inl h)).1,(m b (.inl h)).2⟩
  ·exact h.elim
theorem GX.BS{fr:Frame}(h:Q fr xs w):GX cs Q fr xs w:=by letI:Scope:=j9;exact ku.done h
theorem Gr{v:Value}(h:nI w v n P)(d:w.heap.size≤w'.heap.size)(k:∀b,b<w.heap.size→w'.heap[b]?=w.heap[b]?):nI w' v n P:=by
 have hB:Below w.heap.size w { w with heap:=w'.heap }:=⟨rfl,rfl,rfl,d,k⟩;have e:=h.cell hB;exact e
def qu (pL:World→Prop):Frame→List Frame→World→Prop:=zX 6 8 (.bool true) pL
noncomputable def mO:Code:=match Tryz.f6.body with|some (.seq _ (.seq _ (.seq _ (.seq _ (.seq _ (.seq _ r))))))=>r|_=>.skip
noncomputable def lY:Code:=match mO with | .seq (.seq _ (.block _ (.loop c))) _=>c|_=>.skip
noncomputable def nT:Code:=match mO with | .seq _ c=>c|_=>.skip
noncomputable def mf:List Item:=[.inLoop lY,.inBlock 0,.code nT]
structure mH (a:Act) (tv iv:Value) (at_:Int) (kL kM:Nat) (i:Int):Prop where
 d:a.defers=[]
 z:a.tmps.size=152
 f1:a.tmps[1]?=some tv
 f2:a.tmps[2]?=some iv
 f3:a.tmps[3]?=some (.int .i64 at_)
 f10:a.tmps[10]?=some (.pointer (some ⟨kL,0,none⟩))
 f12:a.tmps[12]?=some (.pointer (some ⟨kM,0,none⟩))
 f14:a.tmps[14]?=some (.int .i64 i)
theorem Us{m:World→Prop}{nh:Int}{ao:Option Addr}{cap:Nat}{tv iv:Value}{at_:Int}(hP:nI w (.slice ao n cap) n P)(aA:lu tv=false)(aB:lu iv=false)(R:∀w',(∀b,b<w.heap.size→w'.heap[b]?=w.heap[b]?)→m w')(hk:∀(a:Act)(w':World)(kL kM:Nat)(da db:Nat→SD),(mE au id n P).1=0→mH a tv iv at_ kL kM 0→oA w w' (fun _=>False) (fun _=>False) kL kM n 0 0 au id da db→(∀i,i<n→(da i=oo (da i).p∧(da i).p.au=(P i).au∧(da i).p.hold=(P i).hold)∧db i=oo (db i).p∧(db i).p.au=(P i).au∧(db i).p.hold=(P i).hold) →
   GX [] (qu m) ((base 6).at a (.code lY::mf)) [] w'):GX [] (qu m) ((base 6).at { tmps:=#[.agg #[.int .i64 au,.int .u32 id,.int .u32 nh,.slice ao n cap],tv,iv,.int .i64 at_]++Array.replicate 148 undef,defers:=[] } [.code (Tryz.f6.body.getD .skip)]) [] w:=by
 have HK:Hid (_):=hk;have HP:Hid (_):=hP;have ad:Hid (_):=R;clear hk hP R
 (have aC:=nF;have aD:=ow;have aE:=nZ;have aF:=m7;have aG:=nG;have aH:=nH);simp only[Tryz.f6,eE];walk_nrm;refine GX.seq ?_
 ((refine GX.region ?_);walk_nrm);refine GX.vz (w.alloc (.cells #[.int .i64 au,.int .u32 id,.int .u32 nh,.slice ao n cap] 25)) ?_;have U:=jL w (.cells #[.int .i64 au,.int .u32 id,.int .u32 nh,.slice ao n cap] 25);have V:∀b,b<w.heap.size→(w.alloc (.cells #[.int .i64 au,.int .u32 id,.int .u32 nh,.slice ao n cap] 25)).heap[b]?=w.heap[b]?:=fun b hb=>Go.heap_alloc_old w _ hb
 have ae:(w.alloc (.cells #[.int .i64 au,.int .u32 id,.int .u32 nh,.slice ao n cap] 25)).heap.size=w.heap.size+1:=by simp
 generalize(w.alloc (.cells #[.int .i64 au,.int .u32 id,.int .u32 nh,.slice ao n cap] 25))=w1 at U V ae ⊢;walk_nrm
 ((refine GX.vz w1 ?_);walk_nrm);refine GX.kT ?_;refine GX.seq ?_
 ((refine GX.region ?_);walk_nrm);refine GX.Uq (v0:=.int .i64 2) (v1:=.int .i64 9) (v2:=.int .i64 1) (v3:=.int .i64 0) rfl rfl rfl (by kernel_rfl) rfl rfl rfl rfl ?_;refine Up tC.two rfl (lm:=1) (by decide) (fun w2 aI _ aj W=>?_);rw[yF rfl];have x:w2.heap[w.heap.size]?=some (.cells #[.int .i64 au,.int .u32 id,.int .u32 nh,.slice ao n cap] 25 (0,0)):=(W _ (by omega)).trans U;have X:∀b,b<w.heap.size→w2.heap[b]?=w.heap[b]?:=fun b hb=>(W b (by omega)).trans (V b hb)
 have ak:w.heap.size+1≤w2.heap.size:=by omega
 clear W aj U V ae;walk_nrm
 ((refine GX.vz w2 ?_);walk_nrm);refine GX.kT ?_;refine GX.seq ?_;have c0:=kh x 0;have c1:=kh x 1;have c2:=kh x 2;have c3:=kh x 3;simp at c0 c1 c2 c3
 ((refine GX.region ?_);walk_nrm)
 ((refine GX.vz w2 ?_);walk_nrm);refine GX.c rfl rfl (by kernel_rfl) (fun T K hK=>?_);unfold execOp;go_simp;refine hK _ _ _ (fun Z=>?_);clear hK K;refine jP (BK au id nh ao n cap P (again w2 Z) (Gr (w':=again w2 Z) HP.out (by show w.heap.size≤w2.heap.size;omega) X)) ?_;rintro e w3 ⟨p,rfl,G,hN⟩;refine⟨_,rfl,?_⟩;obtain⟨j,y⟩:∃q,(mE au id n P).1=q:=⟨_,rfl⟩;obtain⟨o,H⟩:∃q,(mE au id n P).2=q:=⟨_,rfl⟩;rw[y,H]at hN;rw[y,H];clear c0 c1 c2 c3;walk_nrm
 iterate 3 ((refine GX.vz w3 ?_);walk_nrm)
 iterate 2 ((refine GX.vz (w3.alloc (.cells #[.int .i64 0,.int .i64 0] 50)) ?_);walk_nrm)
 refine GX.uz (((w3.alloc (.cells #[.int .i64 0,.int .i64 0] 50)).setCell ⟨w3.heap.size,0,none⟩ (.int .i64 j)).setCell ⟨w3.heap.size,1,none⟩ (.int .i64 o)) ?_;have af:(((w3.alloc (.cells #[.int .i64 0,.int .i64 0] 50)).setCell ⟨w3.heap.size,0,none⟩ (.int .i64 j)).setCell ⟨w3.heap.size,1,none⟩ (.int .i64 o)).heap.size=w3.heap.size+1:=by simp
 have hF:(((w3.alloc (.cells #[.int .i64 0,.int .i64 0] 50)).setCell ⟨w3.heap.size,0,none⟩ (.int .i64 j)).setCell ⟨w3.heap.size,1,none⟩ (.int .i64 o)).heap[w3.heap.size]?=some (.cells #[.int .i64 j,.int .i64 o] 50 (0,0)):=by
  rw[lp (lp (jL w3 _) 0 _) 1 _];rfl
 have z:∀b,b<w3.heap.size→(((w3.alloc (.cells #[.int .i64 0,.int .i64 0] 50)).setCell ⟨w3.heap.size,0,none⟩ (.int .i64 j)).setCell ⟨w3.heap.size,1,none⟩ (.int .i64 o)).heap[b]?=w3.heap[b]?:=fun b hb=>by
  rw[kA (by omega) 1 _,kA (by omega) 0 _];exact Go.heap_alloc_old w3 _ hb
 generalize(((w3.alloc (.cells #[.int .i64 0,.int .i64 0] 50)).setCell ⟨w3.heap.size,0,none⟩ (.int .i64 j)).setCell ⟨w3.heap.size,1,none⟩ (.int .i64 o))=w4 at af hF z ⊢;have al:w2.heap.size≤w3.heap.size:=G.size;have aa:∀b,b<w2.heap.size→w3.heap[b]?=w2.heap[b]?:=fun b hb=>G.block b hb
 have A:w4.heap[w.heap.size]?=some (.cells #[.int .i64 au,.int .u32 id,.int .u32 nh,.slice ao n cap] 25 (0,0)):=(z _ (by omega)).trans ((aa _ (by omega)).trans x);have B:∀b,b<w.heap.size→w4.heap[b]?=w.heap[b]?:=fun b hb=>(z b (by omega)).trans ((aa b (by omega)).trans (X b hb))
 have r:∃Y:Prop,Y∧(Y→(j≠0∧p=none)∨∃kL d,j=0∧o=0∧p=some ⟨kL,0,none⟩∧om w3 kL n 0 au id d (fun b=>b<w2.heap.size)∧∀i,i<n→d i=oo (d i).p∧(d i).p.au=(P i).au∧(d i).p.hold=(P i).hold):=by
  refine⟨True,trivial,fun _=>?_⟩;rcases hN with⟨g,rfl⟩|⟨g,C,sp,sv,rfl,D,kp,hN⟩
  ·exact .inl ⟨g,rfl⟩
  ·obtain⟨d,r1,r2⟩:=Gq (w:=again w2 Z) G D kp hN;exact .inr ⟨sp,d,g,C,rfl,r1,r2⟩
 obtain⟨Y,hY,r⟩:=r;have am:=r hY;clear r hY hN G x;have c0:=kh A 0;have c1:=kh A 1;have c2:=kh A 2;have c3:=kh A 3;simp at c0 c1 c2 c3;walk_nrm;refine GX.kT ?_;refine GX.seq ?_
 ((refine GX.region ?_);walk_nrm)
 ((refine GX.vz w4 ?_);walk_nrm);refine GX.c rfl rfl (by kernel_rfl) (fun T K hK=>?_);unfold execOp;go_simp;refine hK _ _ _ (fun Z=>?_);clear hK K;refine jP (BK au id nh ao n cap P (again w4 Z) (Gr (w':=again w4 Z) HP.out (by show w.heap.size≤w4.heap.size;omega) B)) ?_;rintro e f ⟨p',rfl,I,hN⟩;refine⟨_,rfl,?_⟩;rw[y,H]at hN;rw[y,H];have r:(j≠0∧p'=none)∨∃kM d,j=0∧o=0∧p'=some ⟨kM,0,none⟩∧om f kM n 0 au id d (fun b=>b<w4.heap.size)∧∀i,i<n→d i=oo (d i).p∧(d i).p.au=(P i).au∧(d i).p.hold=(P i).hold:=by
  rcases hN with⟨g,rfl⟩|⟨g,C,sp,sv,rfl,D,kp,hN⟩
  ·exact .inl ⟨g,rfl⟩
  ·obtain⟨d,r1,r2⟩:=Gq (w:=again w4 Z) I D kp hN;exact .inr ⟨sp,d,g,C,rfl,r1,r2⟩
 clear hN;have an:w4.heap.size≤f.heap.size:=I.size;have J:∀b,b<w4.heap.size→f.heap[b]?=w4.heap[b]?:=fun b hb=>I.block b hb
 clear I c0 c1 c2 c3;walk_nrm
 iterate 3 ((refine GX.vz f ?_);walk_nrm)
 iterate 2 ((refine GX.vz (f.alloc (.cells #[.int .i64 0,.int .i64 0] 50)) ?_);walk_nrm)
 refine GX.uz (((f.alloc (.cells #[.int .i64 0,.int .i64 0] 50)).setCell ⟨f.heap.size,0,none⟩ (.int .i64 j)).setCell ⟨f.heap.size,1,none⟩ (.int .i64 o)) ?_;have ag:(((f.alloc (.cells #[.int .i64 0,.int .i64 0] 50)).setCell ⟨f.heap.size,0,none⟩ (.int .i64 j)).setCell ⟨f.heap.size,1,none⟩ (.int .i64 o)).heap.size=f.heap.size+1:=by simp
 have L:(((f.alloc (.cells #[.int .i64 0,.int .i64 0] 50)).setCell ⟨f.heap.size,0,none⟩ (.int .i64 j)).setCell ⟨f.heap.size,1,none⟩ (.int .i64 o)).heap[f.heap.size]?=some (.cells #[.int .i64 j,.int .i64 o] 50 (0,0)):=by
  rw[lp (lp (jL f _) 0 _) 1 _];rfl
 have E:∀b,b<f.heap.size→(((f.alloc (.cells #[.int .i64 0,.int .i64 0] 50)).setCell ⟨f.heap.size,0,none⟩ (.int .i64 j)).setCell ⟨f.heap.size,1,none⟩ (.int .i64 o)).heap[b]?=f.heap[b]?:=fun b hb=>by
  rw[kA (by omega) 1 _,kA (by omega) 0 _];exact Go.heap_alloc_old f _ hb
 generalize(((f.alloc (.cells #[.int .i64 0,.int .i64 0] 50)).setCell ⟨f.heap.size,0,none⟩ (.int .i64 j)).setCell ⟨f.heap.size,1,none⟩ (.int .i64 o))=s at ag L E ⊢;have ab:s.heap[w3.heap.size]?=some (.cells #[.int .i64 j,.int .i64 o] 50 (0,0)):=(E _ (by omega)).trans ((J _ (by omega)).trans hF);have ap:=kh ab 0;have aq:=kh ab 1;have ar:=kh L 0;have av:=kh L 1;simp at ap aq ar av;have S:∀b,b<w.heap.size→s.heap[b]?=w.heap[b]?:=fun b hb=>(E b (by omega)).trans ((J b (by omega)).trans (B b hb))
 have HW:Hid (_):=And.intro S (And.intro E (And.intro J (And.intro z (And.intro ak (And.intro al (And.intro af (And.intro an ag)))))));clear hF L ab A S E J z B aa X;walk_nrm;refine GX.kT ?_;refine GX.seq ?_;refine GX.seq ?_;rcases am with⟨g,rfl⟩|⟨kL,da,g,C,rfl,M,ah⟩
 ·rcases r with⟨_,rfl⟩|⟨kM,db,F,_⟩
  ·((refine GX.region ?_);walk_nrm)
   iterate 14 ((refine GX.vz s ?_);walk_nrm)
   refine GX.kT ?_;refine GX.cond (t:=false) (by kernel_rfl) rfl ?_;simp only[dL,dp];refine GX.pd ?_;refine GX.seq ?_;refine GX.seq ?_
   ((refine GX.region ?_);walk_nrm)
   iterate 2 ((refine GX.vz s ?_);walk_nrm)
   refine GX.kT ?_;refine GX.cond (t:=true) (by kernel_rfl) rfl ?_;simp only[dn];have aJ:decide (j=0)=false:=by simpa using g
   refine GX.seq ?_
   ((refine GX.region ?_);walk_nrm)
   iterate 4 ((refine GX.vz s ?_);walk_nrm)
   refine GX.kT ?_;refine GX.ret ?_;exact GX.BS ⟨rfl,rfl,rfl,rfl,ad.out s HW.out.1⟩
  ·exact absurd F g
 ·rcases r with⟨F,_⟩|⟨kM,db,_,_,rfl,O,ai⟩
  ·exact absurd g F
  ·subst g C;have aw:Hid (_):=M;have ax:Hid (_):=O;have HD:Hid (_):=fun i hi=>And.intro (ah i hi) (ai i hi)
   clear M O ah ai
   ((refine GX.region ?_);walk_nrm)
   iterate 14 ((refine GX.vz s ?_);walk_nrm)
   refine GX.kT ?_;refine GX.cond (t:=false) (by kernel_rfl) rfl ?_;simp only[dL,dp];refine GX.pd ?_;refine GX.seq ?_;refine GX.seq ?_
   ((refine GX.region ?_);walk_nrm)
   iterate 2 ((refine GX.vz s ?_);walk_nrm)
   refine GX.kT ?_;refine GX.cond (t:=false) (by kernel_rfl) rfl ?_;simp only[dL,dp];refine GX.pd ?_;refine GX.seq ?_;refine GX.seq ?_
   ((refine GX.region ?_);walk_nrm)
   ((refine GX.vz s ?_);walk_nrm);refine GX.kT ?_;refine GX.block ?_;refine GX.loop ?_;have u:=HK.out;unfold mf lY nT at u;unfold mO at u;simp only[Tryz.f6]at u;obtain⟨g0,g6,g5,g4,z2,z3,z4,z5,z6⟩:=HW.out;have M:om w3 kL n 0 au id da (fun b=>b<w2.heap.size):=aw.out;have O:om f kM n 0 au id db (fun b=>b<w4.heap.size):=ax.out;have ay:om s kL n 0 au id da (fun b=>b<w2.heap.size∨(w3.heap.size≤b∧b<s.heap.size)):=M.keep (fun b hb=>have e:=(g6 b (by omega)).trans ((g5 b (by omega)).trans (g4 b hb));⟨fun _=>.inr e,fun _=>e⟩) (by omega) fun b hb=>hb
   have az:om s kM n 0 au id db (fun b=>b<w4.heap.size∨(f.heap.size≤b∧b<s.heap.size)):=O.keep (fun b hb=>⟨fun _=>.inr (g6 b hb),fun _=>g6 b hb⟩) (by omega) fun b hb=>hb
   exact u _ s kL kM da db y ⟨rfl,rfl,rfl,rfl,rfl,rfl,rfl,rfl⟩ ⟨g0,by omega,_,_,ay,az,fun b hb=>by omega,fun b hb=>by
    have hb:b<w.heap.size:=hb.resolve_right fun h=>h
    exact⟨.inl (by omega),.inl (by omega)⟩,fun b h=>h.elim⟩ HD.out
end
end Go.Proofs.YtjnkcibpkkjniaaGreat.kN
namespace Go.Proofs.YtjnkcibpkkjniaaGreat
variable {l l':List ky}
theorem ny.app{m d:List ky}(h:ny l l')(e:ny m d):ny (l++m) (l'++d):=by
 induction h with
 |nil=>exact e
 |same x _ b=>exact .same x b
 |cut pe d1 d2 _ b=>exact .cut pe d1 d2 b
theorem ny.len(h:ny l l'):l'.length≤2*l.length:=by
 induction h with
 |nil=>exact dD _
 |same x _ b=>simp only[gG];omega
 |cut pe d1 d2 _ b=>simp only[gG];omega
theorem ny.each{Q:List Int→Prop}(j:∀d1 d2,Q (d1++d2)→Q d1∧Q d2)(h:ny l l'):(∀x∈l,Q x.d)→∀x∈l',Q x.d:=by
 induction h with
 |nil=>intro h;exact h
 |same x _ f =>
  intro h y b;rcases fN.1 b with rfl|b
  ·exact h _ (by simp)
  ·exact f (fun z g=>h z (by simp[g])) y b
 |cut pe d1 d2 _ f =>
  intro h y b;have e:=j d1 d2 (h ⟨pe,2,d1++d2⟩ (by simp));rcases fN.1 b with rfl|b
  ·exact e.1
  ·rcases fN.1 b with rfl|b
   ·exact e.2
   ·exact f (fun z g=>h z (by simp[g])) y b
end Go.Proofs.YtjnkcibpkkjniaaGreat
namespace Go.Proofs.YtjnkcibpkkjniaaGreat.kN
open Go Go.Conc Go.RowKit Go.Proofs.YtjnkcibpkkjniaaGreat.kx
noncomputable def nA:Code:=match lY with | .seq _ (.seq (.block _ b) _)=>b|_=>.skip
noncomputable def nB:Code:=match lY with | .seq _ (.seq _ n)=>n|_=>.skip
noncomputable def pH:Code:=match nA with | .seq _ (.seq (.seq _ (.block _ (.loop c))) _)=>c|_=>.skip
noncomputable def mP:Code:=match nA with | .seq _ (.seq _ t)=>t|_=>.skip
noncomputable def wC:Code:=match pH with | .seq _ (.seq (.block _ b) _)=>b|_=>.skip
noncomputable def wD:Code:=match pH with | .seq _ (.seq _ n)=>n|_=>.skip
noncomputable def pI:List Item:=.inLoop pH::.inBlock 2::.code mP::.inBlock 1::.code nB::mf
structure Ut (a:Act) (w1 w:World) (B:Nat) (ins:List ky) (k:Nat) (v:Value) (pl:List ky):Prop where
 f15:a.tmps[15]?=some v
 f16:a.tmps[16]?=some (.int .i64 (k:Int))
 row:w.ownsRow B 43 3 v pl.length (lU pl)
 zh:ny (ins.take k) pl
 old:∀b,b<w1.heap.size→w.heap[b]?=w1.heap[b]?
 le:w1.heap.size≤w.heap.size
end Go.Proofs.YtjnkcibpkkjniaaGreat.kN
