import Derived.Test.YtjnkcibpkkjniaaGreatA00
import Derived.Test.YtjnkcibpkkjniaaGreatA31
set_option linter.all false
set_option maxHeartbeats 2000000
set_option maxRecDepth 20000
namespace Go.Proofs.YtjnkcibpkkjniaaGreat.kj
section
open Go Go.Conc Go.RowKit Go.Proofs.YtjnkcibpkkjniaaGreat.j7
noncomputable def xh:Code:=match pd with | .seq _ (.seq (.block _ (.seq _ (.seq _ c))) _)=>c|_=>.skip
noncomputable def xi:Code:=match pd with | .seq _ (.seq _ c)=>c|_=>.skip
variable {cs:List Frame} {Q:Frame→List Frame→World→Prop} {w:World} {a:Act} {sp:Nat}
theorem SF{c:Frame}{f:List Frame}{h:Frame}{ac:Act}{ops:Array Oper}{i:Nat}{l:List Nat}{kk:List Item}(d:c=h.at ac (.inRegion ops (i::l)::kk))(e:a.defers=[])(hsz:a.tmps.size=83)(f0:a.tmps[0]?=some (.int .i64 1))(f9:a.tmps[9]?=some (.pointer (some ⟨sp,0,none⟩)))(f14:a.tmps[14]?=some (.int .i64 0))(f81:a.tmps[81]?=some (.bool false))(g:GX cs Q (c.finish (.pointer (some ⟨sp,0,none⟩))) f w):GX cs Q ((base 14).at a [.code xh,.inBlock 3,.code xi,.inLoop pd,.inBlock 2,.code sF]) (c::f) w:=by
 have j:Hid (_):=g;have k:Hid (_):=d;clear g d;obtain⟨tm,df⟩:=a;simp only at e hsz f0 f9 f14 f81;subst e;obtain⟨k0,k1,k2,k3,k4,k5,k6,k7,k8,k9,m,n,o,p,q,r,s,u,x,y,z,A,B,C,D,E,F,G,H,I,J,L,M,N,O,P,R,S,U,V,W,X,Y,Z,aa,ab,ad,ae,af,ag,ah,ai,aj,ak,al,am,an,ao,ap,aq,ar,au,av,aw,ax,ay,az,aA,aB,aC,aD,aE,aF,aG,aH,aI,aJ,aK,aL,aM,aN,aO,aP,rfl⟩:=Aa hsz;simp only[fR,gx,fS,dR]at f0 f9 f14 f81;subst f0 f9 f14 f81;clear hsz
 (have aQ:=nL;have aR:=oX;have aS:=oi;have aT:=nv;have aU:=nM;have aV:=nN);unfold xh xi pd sF qF;simp only[Tryz.f14];refine GX.cond (t:=false) (by kernel_rfl) rfl ?_;simp only[dG,dh];refine GX.pj ?_;refine GX.inBlock ?_
 ((refine GX.region ?_);walk_nrm)
 iterate 3 ((refine GX.v rfl rfl (by kernel_rfl) (fun T K b=>?_));unfold execOp;go_simp;(refine b _ _ ?_);clear b K;(refine GX.jZ (v:=w) ?_ rfl rfl);clear T;walk_nrm)
 refine GX.kE ?_;refine GX.inLoop ?_;refine GX.seq ?_;refine GX.seq ?_
 ((refine GX.region ?_);walk_nrm)
 iterate 3 ((refine GX.v rfl rfl (by kernel_rfl) (fun T K b=>?_));unfold execOp;go_simp;(refine b _ _ ?_);clear b K;(refine GX.jZ (v:=w) ?_ rfl rfl);clear T;walk_nrm)
 refine GX.kE ?_;refine GX.cond (t:=false) (by kernel_rfl) rfl ?_;simp only[dG,dh];refine GX.exit rfl ?_;refine GX.seq ?_
 ((refine GX.region ?_);walk_nrm)
 iterate 2 ((refine GX.v rfl rfl (by kernel_rfl) (fun T K b=>?_));unfold execOp;go_simp;(refine b _ _ ?_);clear b K;(refine GX.jZ (v:=w) ?_ rfl rfl);clear T;walk_nrm)
 refine GX.kE ?_;refine GX.ret ?_;exact GX.leave (tr:=8) rfl Tryz.func14 (by rfl) k.out j.out
theorem SG{xs:List Frame}{nb nc:Nat}{K:Nat→Prop}(j:a.defers=[])(hsz:a.tmps.size=83)(f0:a.tmps[0]?=some (.int .i64 1))(f1:a.tmps[1]?=some (.int .i64 9))(f9:a.tmps[9]?=some (.pointer (some ⟨sp,0,none⟩)))(f13:a.tmps[13]?=some (.slice (some ⟨nb,0,none⟩) 1 nc))(f14:a.tmps[14]?=some (.int .i64 0))(c0:w.cell? ⟨nb,0,none⟩=some (.int .i64 0))(c1:w.cell? ⟨nb,1,none⟩=some (.string (strOfNums ri)))(c2:w.cell? ⟨nb,2,none⟩=some (.bool false))(hS:qE w sp ⟨3,9,0,0,[]⟩ K)(hk:∀(a:Act)(w':World),a.defers=[]→a.tmps.size=83→a.tmps[0]?=some (.int .i64 1)→a.tmps[9]?=some (.pointer (some ⟨sp,0,none⟩))→a.tmps[14]?=some (.int .i64 0)→a.tmps[81]?=some (.bool false)→Below w.heap.size w w' →
   GX cs Q ((base 14).at a [.code xh,.inBlock 3,.code xi,.inLoop pd,.inBlock 2,.code sF]) xs w'):GX cs Q ((base 14).at a [.code pd,.inLoop pd,.inBlock 2,.code sF]) xs w:=by
 have p:nb<w.heap.size:=by
  rcases fC nb w.heap.size with h|h
  ·exact h
  ·simp[World.cell?,fD h]at c0
 have HK:Hid (_):=hk;have m:Hid (w.cell? ⟨nb,0,none⟩=some (.int .i64 0)∧w.cell? ⟨nb,1,none⟩=some (.string (strOfNums ri))∧w.cell? ⟨nb,2,none⟩=some (.bool false)):=⟨c0,c1,c2⟩;have HQ:Hid (∀T,Calls Tryz.prog 18 #[.pointer (some ⟨sp,0,none⟩),.int .i64 0] (again w T) fun e w'=>e=.returned (.int .i64 3)∧w'=again w T):=hS.state;clear hk c0 c1 c2 hS;obtain⟨tm,df⟩:=a;simp only at j hsz f0 f1 f9 f13 f14;subst j;obtain⟨k0,k1,k2,k3,k4,k5,k6,k7,k8,k9,q,r,s,aN,aO,aP,u,y,z,A,B,C,E,F,G,H,I,J,L,M,N,O,P,R,S,U,V,W,X,Y,Z,aa,ab,ad,ae,af,ag,ah,ai,aj,ak,al,am,an,ao,ap,aq,ar,au,aQ,aR,aS,av,aw,aT,aU,aV,ax,ay,az,aA,aB,aC,aD,aE,aF,aG,aH,aI,aJ,aK,aL,aM,rfl⟩:=Aa hsz;simp only[fR,gx,fS,dR]at f0 f1 f9 f13 f14;subst f0 f1 f9 f13 f14;clear hsz
 (have aW:=nL;have aX:=oX;have aY:=oi;have aZ:=nv;have a0:=nM;have a1:=nN);have e1:GX cs Q ((base 14).at ⟨#[.int .i64 1,.int .i64 9,k2,k3,k4,k5,k6,k7,k8,.pointer (some ⟨sp,0,none⟩),q,r,s,.slice (some ⟨nb,0,none⟩) 1 nc,.int .i64 0,.int .i64 3,u,y,z,A,B,C,E,F,G,H,I,J,L,M,N,O,P,R,S,U,V,W,X,Y,Z,aa,ab,ad,ae,af,ag,ah,ai,aj,ak,al,am,an,ao,ap,aq,ar,au,.int .i64 0,.int .i64 1,.bool true,av,aw,.pointer (some ⟨sp,0,none⟩),.int .i64 0,.int .i64 3,ax,ay,az,aA,aB,aC,aD,aE,aF,aG,aH,aI,aJ,aK,aL,aM],[]⟩ [.code (.region 16 pf true),.code xh,.inBlock 3,.code xi,.inLoop pd,.inBlock 2,.code sF]) xs w:=by
  refine GX.lb (D:=[]) (T:=83) (n:=14) (w0:=w) (val:=na nb nc) (fix:=[(0,.int .i64 1),(1,.int .i64 9),(9,.pointer (some ⟨sp,0,none⟩)),(13,.slice (some ⟨nb,0,none⟩) 1 nc),(14,.int .i64 0),(15,.int .i64 3)]) (Post:=fun a w'=>a.tmps[81]?=some (.bool false)∧Below w.heap.size w w') (by kernel_rfl) Sx Sy Sz Sw
   (fun i o a k l hi ho b f hs d=>SB p m.out.1 m.out.2.1 m.out.2.2 i o a k l hi ho (b (1,_) (by simp)) (b (13,_) (by simp)) (b (14,_) (by simp)) (b (15,_) (by simp)) f hs d)
   (fun o a k l ho b f hs hsz d=>SE o a k l ho f hs hsz d)
   (fun a k h1 h2 b hP=>HK.out a k h1 h2 (b (0,_) (by simp)) (b (9,_) (by simp)) (b (14,_) (by simp)) hP.1 hP.2) rfl rfl ?_ (iD _ _)
  intro x hx;simp at hx;rcases hx with rfl|rfl|rfl|rfl|rfl|rfl<;>rfl
 have HE:Hid (_):=e1;clear e1 HK m;unfold pd sF qF;simp only[Tryz.f14];refine GX.seq ?_;refine GX.seq ?_
 ((refine GX.region ?_);walk_nrm)
 iterate 3 ((refine GX.v rfl rfl (by kernel_rfl) (fun T K d=>?_));unfold execOp;go_simp;(refine d _ _ ?_);clear d K;(refine GX.jZ (v:=w) ?_ rfl rfl);clear T;walk_nrm)
 refine GX.kE ?_;refine GX.cond (t:=true) (by kernel_rfl) rfl ?_;simp only[dg];refine GX.pj ?_;refine GX.seq ?_;refine GX.block ?_;refine GX.seq ?_
 ((refine GX.region ?_);walk_nrm)
 iterate 2 ((refine GX.v rfl rfl (by kernel_rfl) (fun T K d=>?_));unfold execOp;go_simp;(refine d _ _ ?_);clear d K;(refine GX.jZ (v:=w) ?_ rfl rfl);clear T;walk_nrm)
 refine GX.c rfl rfl (by kernel_rfl) (fun T K d=>?_);unfold execOp;go_simp;refine d _ _ _ (fun T'=>?_);clear d K;refine js (HQ.out T') ?_;rintro e w' ⟨rfl,rfl⟩;refine⟨_,rfl,GX.jZ (v:=w) ?_ rfl rfl⟩;clear T';walk_nrm
 ((refine GX.v rfl rfl (by kernel_rfl) (fun T K d=>?_));unfold execOp;go_simp;(refine d _ _ ?_);clear d K;(refine GX.jZ (v:=w) ?_ rfl rfl);clear T;walk_nrm);refine GX.kE ?_;refine GX.seq ?_;have g:=HE.out;unfold pf xh xi pd sF qF at g;simp only[Tryz.f14]at g;exact g
end
end Go.Proofs.YtjnkcibpkkjniaaGreat.kj
