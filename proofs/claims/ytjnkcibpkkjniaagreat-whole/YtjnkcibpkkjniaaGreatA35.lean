import Derived.Test.YtjnkcibpkkjniaaGreatA00
import Derived.Test.YtjnkcibpkkjniaaGreatA33
import Derived.Test.YtjnkcibpkkjniaaGreatA34
set_option linter.all false
set_option maxHeartbeats 2000000
set_option maxRecDepth 20000
namespace Go.Proofs.YtjnkcibpkkjniaaGreat.kj
section
open Go Go.Conc Go.RowKit Go.Proofs.YtjnkcibpkkjniaaGreat.j7
theorem GX.done{cs:List Frame}{Q:Frame→List Frame→World→Prop}{fr:Frame}{xs:List Frame}{w:World}(h:Q fr xs w):GX cs Q fr xs w:=by letI:Scope:=jT;exact j6.done h
def xj (zo:World→Prop):Frame→List Frame→World→Prop:=zn 9 6 (.bool true) zo
noncomputable def mj:Code:=match Tryz.f9.body with|some (.seq _ (.seq _ (.seq _ (.seq _ (.seq _ (.seq _ r))))))=>r|_=>.skip
noncomputable def lE:Code:=match mj with | .seq (.seq _ (.block _ (.loop c))) _=>c|_=>.skip
noncomputable def ny:Code:=match mj with | .seq _ c=>c|_=>.skip
noncomputable def mL:List Item:=[.inLoop lE,.inBlock 0,.code ny]
structure ml (a:Act) (tv iv:Value) (bC sp bB:Nat) (i:Int):Prop where
 d:a.defers=[]
 z:a.tmps.size=126
 f1:a.tmps[1]?=some tv
 f2:a.tmps[2]?=some iv
 f3:a.tmps[3]?=some (.pointer (some ⟨bC,0,none⟩))
 f8:a.tmps[8]?=some (.pointer (some ⟨sp,0,none⟩))
 f10:a.tmps[10]?=some (.pointer (some ⟨bB,0,none⟩))
 f11:a.tmps[11]?=some (.int .i64 i)
def KW (w0:World) (bC bB:Nat) (b:Nat):Prop:=b<w0.heap.size∨b=bC∨b=bB
structure oJ (w0 w:World) (bC bB sp n:Nat) (now au id nh:Int) (ao:Option Addr) (cap:Nat) (d:Nat→SD) (bg:Nat→Bool):Prop where
 old:∀b,b<w0.heap.size→w.heap[b]?=w0.heap[b]?
 hC:w.heap[bC]?=some (.cells #[.int .i64 au,.int .u32 id,.int .u32 nh,.slice ao n cap] 25 (0,0))
 hB:∃C ty,w.heap[bB]?=some (.cells C ty (0,0))∧ty≠41∧C.size=8∧∀j,j<8→C[j]?=some (.bool (bg j))
 st:rf w sp n now au id d (KW w0 bC bB)
 ne:bC≠bB∧w0.heap.size≤bC∧w0.heap.size≤bB
variable {w:World} {n:Nat} {P:Nat→Pr}
theorem SK{w':World}{v:Value}(h:ot w v n P)(k:∀b,b<w.heap.size→w'.heap[b]?=w.heap[b]?):ot w' v n P:=by
 have hB:Below w.heap.size w { w with heap:=w'.heap }:=⟨rfl,rfl,rfl,A5 k,k⟩;have c:=h.cell hB;exact c
variable {au id nh:Int} {ao:Option Addr} {cap:Nat}
theorem SL{o:World→Prop}{tv iv:Value}(hP:ot w (.slice ao n cap) n P)(av:kT tv=false)(aw:kT iv=false)(E:∀w',(∀b,b<w.heap.size→w'.heap[b]?=w.heap[b]?)→o w')(hk:∀(a:Act)(w':World)(bC sp bB:Nat)(d:Nat→SD),(mR au id n P).1=0→ml a tv iv bC sp bB 0→oJ w w' bC bB sp n 0 au id nh ao cap d (fun _=>false)→(∀i,i<n→d i=pb (d i).p∧(d i).p.au=(P i).au∧(d i).p.hold=(P i).hold) →
   GX [] (xj o) ((base 9).at a (.code lE::mL)) [] w'):GX [] (xj o) ((base 9).at { tmps:=#[.agg #[.int .i64 au,.int .u32 id,.int .u32 nh,.slice ao n cap],tv,iv]++Array.replicate 123 undef,defers:=[] } [.code (Tryz.f9.body.getD .skip)]) [] w:=by
 have HK:Hid (_):=hk;have HP:Hid (_):=hP;have W:Hid (_):=E;clear hk hP E
 (have ax:=nL;have ay:=oX;have az:=oi;have aA:=nv;have aB:=nM;have aC:=nN);simp only[Tryz.f9,ez];walk_nrm;refine GX.seq ?_
 ((refine GX.region ?_);walk_nrm);refine GX.v rfl rfl (by kernel_rfl) (fun T K f=>?_);unfold execOp;go_simp;refine f _ _ ?_;clear f K;refine GX.jZ (v:=(w.alloc (.cells #[.int .i64 au,.int .u32 id,.int .u32 nh,.slice ao n cap] 25))) ?_ rfl rfl;clear T;have J:=jl w (.cells #[.int .i64 au,.int .u32 id,.int .u32 nh,.slice ao n cap] 25);have M:∀b,b<w.heap.size→(w.alloc (.cells #[.int .i64 au,.int .u32 id,.int .u32 nh,.slice ao n cap] 25)).heap[b]?=w.heap[b]?:=fun b hb=>Go.heap_alloc_old w _ hb
 have X:(w.alloc (.cells #[.int .i64 au,.int .u32 id,.int .u32 nh,.slice ao n cap] 25)).heap.size=w.heap.size+1:=by simp
 generalize(w.alloc (.cells #[.int .i64 au,.int .u32 id,.int .u32 nh,.slice ao n cap] 25))=w1 at J M X ⊢;walk_nrm
 ((refine GX.v rfl rfl (by kernel_rfl) (fun T K f=>?_));unfold execOp;go_simp;(refine f _ _ ?_);clear f K;(refine GX.jZ (v:=w1) ?_ rfl rfl);clear T;walk_nrm);refine GX.kE ?_;refine GX.seq ?_
 ((refine GX.region ?_);walk_nrm);refine GX.SJ (v0:=.int .i64 1) (v1:=.int .i64 9) (v2:=.int .i64 1) (v3:=.int .i64 0) rfl rfl rfl (by kernel_rfl) rfl rfl rfl rfl ?_;refine SH rfl (fun w2 aD am N=>?_);rw[zZ rfl];have z:w2.heap[w.heap.size]?=some (.cells #[.int .i64 au,.int .u32 id,.int .u32 nh,.slice ao n cap] 25 (0,0)):=(N _ (by omega)).trans J;have Y:∀b,b<w.heap.size→w2.heap[b]?=w.heap[b]?:=fun b hb=>(N b (by omega)).trans (M b hb)
 have aE:w.heap.size+1≤w2.heap.size:=by omega
 clear N am J M X;walk_nrm
 ((refine GX.v rfl rfl (by kernel_rfl) (fun T K f=>?_));unfold execOp;go_simp;(refine f _ _ ?_);clear f K;(refine GX.jZ (v:=w2) ?_ rfl rfl);clear T;walk_nrm);refine GX.kE ?_;refine GX.seq ?_;have c0:=jV z 0;have c1:=jV z 1;have c2:=jV z 2;have c3:=jV z 3;simp at c0 c1 c2 c3
 ((refine GX.region ?_);walk_nrm)
 ((refine GX.v rfl rfl (by kernel_rfl) (fun T K f=>?_));unfold execOp;go_simp;(refine f _ _ ?_);clear f K;(refine GX.jZ (v:=w2) ?_ rfl rfl);clear T;walk_nrm);refine GX.c rfl rfl (by kernel_rfl) (fun T K f=>?_);unfold execOp;go_simp;refine f _ _ _ (fun T'=>?_);clear f K;refine js (Fq au id nh ao n cap P (again w2 T') (SK (w':=again w2 T') HP.out Y)) ?_;rintro e w3 ⟨p,rfl,aa,hN⟩;refine⟨_,rfl,?_⟩;obtain⟨O,A⟩:∃q,(mR au id n P).1=q:=⟨_,rfl⟩;obtain⟨V,ab⟩:∃q,(mR au id n P).2=q:=⟨_,rfl⟩;rw[A,ab]at hN;rw[A,ab];walk_nrm
 iterate 3 ((refine GX.v rfl rfl (by kernel_rfl) (fun T K f=>?_));unfold execOp;go_simp;(refine f _ _ ?_);clear f K;(refine GX.jZ (v:=w3) ?_ rfl rfl);clear T;walk_nrm)
 iterate 2 ((refine GX.v rfl rfl (by kernel_rfl) (fun T K f=>?_));unfold execOp;go_simp;(refine f _ _ ?_);clear f K;(refine GX.jZ (v:=(w3.alloc (.cells #[.int .i64 0,.int .i64 0] 50))) ?_ rfl rfl);clear T;walk_nrm)
 refine GX.u rfl rfl (by kernel_rfl) (fun T K f=>?_);unfold execOp;go_simp;refine f _ ?_;clear f K;refine GX.jZ (v:=(((w3.alloc (.cells #[.int .i64 0,.int .i64 0] 50)).setCell ⟨w3.heap.size,0,none⟩ (.int .i64 O)).setCell ⟨w3.heap.size,1,none⟩ (.int .i64 V))) ?_ rfl rfl;clear T;have ad:(((w3.alloc (.cells #[.int .i64 0,.int .i64 0] 50)).setCell ⟨w3.heap.size,0,none⟩ (.int .i64 O)).setCell ⟨w3.heap.size,1,none⟩ (.int .i64 V)).heap.size=w3.heap.size+1:=by simp
 have hF:(((w3.alloc (.cells #[.int .i64 0,.int .i64 0] 50)).setCell ⟨w3.heap.size,0,none⟩ (.int .i64 O)).setCell ⟨w3.heap.size,1,none⟩ (.int .i64 V)).heap[w3.heap.size]?=some (.cells #[.int .i64 O,.int .i64 V] 50 (0,0)):=by
  rw[lj (lj (jl w3 _) 0 _) 1 _];rfl
 have R:∀b,b<w3.heap.size→(((w3.alloc (.cells #[.int .i64 0,.int .i64 0] 50)).setCell ⟨w3.heap.size,0,none⟩ (.int .i64 O)).setCell ⟨w3.heap.size,1,none⟩ (.int .i64 V)).heap[b]?=w3.heap[b]?:=fun b hb=>by
  rw[kn (by omega) 1 _,kn (by omega) 0 _];exact Go.heap_alloc_old w3 _ hb
 generalize(((w3.alloc (.cells #[.int .i64 0,.int .i64 0] 50)).setCell ⟨w3.heap.size,0,none⟩ (.int .i64 O)).setCell ⟨w3.heap.size,1,none⟩ (.int .i64 V))=w4 at ad hF R ⊢;have y0:=jV hF 0;have y1:=jV hF 1;simp at y0 y1;have aF:w2.heap.size≤w3.heap.size:=aa.size;have ae:∀b,b<w2.heap.size→w3.heap[b]?=w2.heap[b]?:=fun b hb=>aa.block b hb
 have F:∀b,b<w.heap.size→w4.heap[b]?=w.heap[b]?:=fun b hb=>(R b (by omega)).trans ((ae b (by omega)).trans (Y b hb))
 walk_nrm;refine GX.kE ?_;refine GX.seq ?_;refine GX.seq ?_
 ((refine GX.region ?_);walk_nrm)
 iterate 2 ((refine GX.v rfl rfl (by kernel_rfl) (fun T K f=>?_));unfold execOp;go_simp;(refine f _ _ ?_);clear f K;(refine GX.jZ (v:=w4) ?_ rfl rfl);clear T;walk_nrm)
 refine GX.kE ?_;refine GX.cond (t:=false) (by kernel_rfl) rfl ?_;simp only[dG,dh];refine GX.pj ?_;refine GX.seq ?_;refine GX.seq ?_
 ((refine GX.region ?_);walk_nrm);rcases hN with⟨B,rfl⟩|⟨B,aG,sp,sv,rfl,G,j3,hN⟩
 ·iterate 2 ((refine GX.v rfl rfl (by kernel_rfl) (fun T K f=>?_));unfold execOp;go_simp;(refine f _ _ ?_);clear f K;(refine GX.jZ (v:=w4) ?_ rfl rfl);clear T;walk_nrm)
  refine GX.kE ?_;refine GX.cond (t:=true) (by kernel_rfl) rfl ?_;simp only[dg];have aH:decide (O=0)=false:=by simpa using B
  refine GX.seq ?_
  ((refine GX.region ?_);walk_nrm)
  iterate 4 ((refine GX.v rfl rfl (by kernel_rfl) (fun T K f=>?_));unfold execOp;go_simp;(refine f _ _ ?_);clear f K;(refine GX.jZ (v:=w4) ?_ rfl rfl);clear T;walk_nrm)
  refine GX.kE ?_;refine GX.ret ?_;exact GX.done ⟨rfl,rfl,rfl,rfl,W.out w4 F⟩
 ·iterate 2 ((refine GX.v rfl rfl (by kernel_rfl) (fun T K f=>?_));unfold execOp;go_simp;(refine f _ _ ?_);clear f K;(refine GX.jZ (v:=w4) ?_ rfl rfl);clear T;walk_nrm)
  refine GX.kE ?_;refine GX.cond (t:=false) (by kernel_rfl) rfl ?_;simp only[dG,dh];refine GX.pj ?_;refine GX.seq ?_
  ((refine GX.region ?_);walk_nrm);refine GX.v rfl rfl (by kernel_rfl) (fun T K f=>?_);unfold execOp;go_simp;refine f _ _ ?_;clear f K;refine GX.jZ (v:=(w4.alloc (.cells #[.bool false,.bool false,.bool false,.bool false,.bool false,.bool false,.bool false,.bool false] 64))) ?_ rfl rfl;clear T;have D:=jl w4 (.cells #[.bool false,.bool false,.bool false,.bool false,.bool false,.bool false,.bool false,.bool false] 64);have S:∀b,b<w4.heap.size→(w4.alloc (.cells #[.bool false,.bool false,.bool false,.bool false,.bool false,.bool false,.bool false,.bool false] 64)).heap[b]?=w4.heap[b]?:=fun b hb=>Go.heap_alloc_old w4 _ hb
  have an:(w4.alloc (.cells #[.bool false,.bool false,.bool false,.bool false,.bool false,.bool false,.bool false,.bool false] 64)).heap.size=w4.heap.size+1:=by simp
  generalize(w4.alloc (.cells #[.bool false,.bool false,.bool false,.bool false,.bool false,.bool false,.bool false,.bool false] 64))=U at D S an ⊢;walk_nrm;refine GX.kE ?_;refine GX.seq ?_;refine GX.seq ?_
  ((refine GX.region ?_);walk_nrm)
  ((refine GX.v rfl rfl (by kernel_rfl) (fun T K f=>?_));unfold execOp;go_simp;(refine f _ _ ?_);clear f K;(refine GX.jZ (v:=U) ?_ rfl rfl);clear T;walk_nrm);refine GX.kE ?_;refine GX.block ?_;refine GX.loop ?_;have m:=HK.out;unfold mL lE ny at m;unfold mj at m;simp only[Tryz.f9]at m;rw[ad]at D;have s:∀b,b<w3.heap.size→U.heap[b]?=w3.heap[b]?:=fun b hb=>(S b (by omega)).trans (R b hb)
  have G:w2.heap.size≤sp:=G;have af:sp<w3.heap.size:=(dp.1 j3).1;have hold:∀b,b<w.heap.size→U.heap[b]?=w.heap[b]?:=fun b hb=>(S b (by omega)).trans (F b hb)
  have ag:U.heap[w.heap.size]?=some (.cells #[.int .i64 au,.int .u32 id,.int .u32 nh,.slice ao n cap] 25 (0,0)):=(s _ (by omega)).trans ((ae _ (by omega)).trans z);have ah:∀b,KW w w.heap.size (w3.heap.size+1) b→b<U.heap.size∧b≠sp:=fun b hb=>by
   rcases hb with h|rfl|rfl<;>omega
  have ai:∀j,j<8→(#[.bool false,.bool false,.bool false,.bool false,.bool false,.bool false,.bool false,.bool false]:Array Value)[j]?=some (.bool false):=fun j hj=>by
   have:j=0∨j=1∨j=2∨j=3∨j=4∨j=5∨j=6∨j=7:=by omega
   rcases this with rfl|rfl|rfl|rfl|rfl|rfl|rfl|rfl<;>rfl
  have H:=(s sp af).trans j3;rcases hN with⟨rfl,rfl⟩|⟨xb,xc,Z,pz,hn,rfl,aj,ap,hM,ak,aq⟩
  ·exact m _ U w.heap.size sp (w3.heap.size+1) (fun i=>pb ⟨0,0,0,0,0,none,0,0,none,0,0⟩) (A.trans B) ⟨rfl,rfl,rfl,rfl,rfl,rfl,rfl,rfl⟩ ⟨hold,ag,⟨_,_,D,by decide,rfl,ai⟩,⟨ah,.inl ⟨rfl,H⟩⟩,by omega,by omega,by omega⟩ (fun i r=>absurd r (g8 _))
  ·have aj:w2.heap.size≤xb:=aj;have ar:xb<w3.heap.size:=hM.lt;have al:∀i,i<n→∀b,(pb (pz i)).nm b→b<w3.heap.size:=fun i r b hb=>by obtain⟨cur,ty,fr,q,_⟩:=(hM.rows i r b hb).2;exact(dp.1 q).1
   have I:∀i,i<n→∀b,(pb (pz i)).nm b→w2.heap.size≤b∧b≠sp:=fun i r b hb=>aq i r b (vu hb)
   refine m _ U w.heap.size sp (w3.heap.size+1) (fun i=>pb (pz i)) (A.trans B) ⟨rfl,rfl,rfl,rfl,rfl,rfl,rfl,rfl⟩ ⟨hold,ag,⟨_,_,D,by decide,rfl,ai⟩,⟨ah,.inr ⟨hn,xb,xc,Z,⟨H,hM.keep fun b hb=>?_,ap,fun i r hb=>(I i r sp hb).2 rfl⟩,fun b hb=>?_⟩⟩,by omega,by omega,by omega⟩ (fun i r=>⟨rfl,(ak i r).1,(ak i r).2⟩)
   ·rcases hb with rfl|⟨i,r,hb⟩
    ·exact s _ ar
    ·exact s _ (al i r b hb)
   ·refine⟨by rcases hb with h|rfl|rfl<;>omega,fun i r hn=>?_⟩;have h1:=al i r b hn;have h2:=(I i r b hn).1;rcases hb with h|rfl|rfl<;>omega
noncomputable def nd:Code:=match lE with | .seq _ (.seq (.block _ b) _)=>b|_=>.skip
noncomputable def ng:Code:=match lE with | .seq _ (.seq _ n)=>n|_=>.skip
noncomputable def nz:Code:=match nd with | .seq _ t=>t|_=>.skip
noncomputable def sG:Array Oper:=match nd with | .seq (.region _ ops _) _=>ops|_=>#[]
theorem SO:kH (strip sG) [1,2,3,8,10,11] 126=true:=by kernel_rfl
theorem SP:lf (strip sG)=true:=by kernel_rfl
theorem SS:sG.size=11:=by kernel_rfl
def rj (sp tb to nt tc jb jo ni ic i:Nat) (t:Int) (kM:Value) (R:Value→World→Prop):Nat→Value→World→Prop
 |0,v,_=>v=.pointer (some ⟨sp,0,none⟩)
 |1,v,_=>v=.slice (some ⟨tb,to,none⟩) nt tc
 |2,v,_=>v=.int .i64 (i:Int)
 |3,v,_=>v=.pointer (some ⟨tb,to+i,none⟩)
 |4,v,_=>v=.int .i64 t
 |5,v,_=>v=.slice (some ⟨jb,jo,none⟩) ni ic
 |6,v,_=>v=.int .i64 (i:Int)
 |7,v,_=>v=.pointer (some ⟨jb,jo+i,none⟩)
 |8,v,_=>v=kM
 |9,v,w=>R v w
 |_,_,_=>True
def vv (w0:World) (bC bB sp n:Nat) (now au id nh:Int) (ao:Option Addr) (cap:Nat) (bg:Nat→Bool) (d0:Nat→SD) (ins:List kC) (v:Value) (w:World):Prop :=
 ∃d',oJ w0 w bC bB sp n now au id nh ao cap d' bg∧(∀i,i<n→(d' i).s=(mA au id now d0 (fun i=>kU i ins) i).1∧(d' i).p.au=(d0 i).p.au∧(d' i).p.hold=(d0 i).p.hold∧((mA au id now d0 (fun i=>kU i ins) i).1.st=0→(d' i).v=.slice none 0 0))∧uG n (mA au id now d0 (fun i=>kU i ins)) v w
theorem SU{Q:Frame→List Frame→World→Prop}{k:List Item}{w0:World}{a:Act}{bC bB sp:Nat}{now:Int}{d:Nat→SD}{bg:Nat→Bool}{tb to W tc N R ni ic i:Nat}{t:Int}{J:Value}{ins:List kC}(U:ml a (.slice (some ⟨tb,to,none⟩) W tc) (.slice (some ⟨N,R,none⟩) ni ic) bC sp bB (i:Int))(hW:oJ w0 w bC bB sp n now au id nh ao cap d bg)(hn:n≤8)(hid:0≤id)(O:0≤now∧now≤1099511627776)(ad:∀i,i<n→lV (d i).s∧((d i).s.st=0→(d i).v=.slice none 0 0)∧0≤(d i).p.hold∧(d i).p.hold≤65535)(am:i<W)(an:i<ni)(ae:tb<w0.heap.size)(af:N<w0.heap.size)(ht:w0.cell? ⟨tb,to+i,none⟩=some (.int .i64 t))(hj:w0.cell? ⟨N,R+i,none⟩=some J)(hV:xg w0 J ins fun b=>b<w0.heap.size)(hlen:ins.length≤4398046511103)(hb:∀x∈ins,Bytes x.d∧x.d.length≤1152921504606846976)(hk:∀a' w' v,ml a' (.slice (some ⟨tb,to,none⟩) W tc) (.slice (some ⟨N,R,none⟩) ni ic) bC sp bB (i:Int)→a'.tmps[12]?=some v→vv w0 bC bB sp n (mh now t) au id nh ao cap bg d ins v w'→GX [] Q ((base 9).at a' k) [] w'):GX [] Q ((base 9).at a (.code (.region 11 sG true)::k)) [] w:=by
 have ag:kT J=false:=by
  obtain⟨ja,X,Y,jc,rfl,_⟩:=hV
  cases ja<;>rfl
 have ap:=nL;have aq:=nv;have ar:=nM;have av:=nN;have aw:(0:Int)≤(i:Int):=by omega
 have ax:(i:Int)<(W:Int):=by omega
 have ay:(i:Int)<(ni:Int):=by omega
 refine GX.Ob (c:=9) (D:=[]) (T:=126) (n:=10) (w0:=w) (S:=fun I=>∀b:Nat,b<w0.heap.size→I.heap[b]?=w0.heap[b]?)
  (val:=rj sp tb to W tc N R ni ic i t J (vv w0 bC bB sp n (mh now t) au id nh ao cap bg d ins))
  (fix:=[(1,.slice (some ⟨tb,to,none⟩) W tc),(2,.slice (some ⟨N,R,none⟩) ni ic),(3,.pointer (some ⟨bC,0,none⟩)),(8,.pointer (some ⟨sp,0,none⟩)),(10,.pointer (some ⟨bB,0,none⟩)),(11,.int .i64 (i:Int))])
  (Post:=fun a w'=>∃v,a.tmps[12]?=some v∧vv w0 bC bB sp n (mh now t) au id nh ao cap bg d ins v w')
  (by kernel_rfl) SO SP SS (by decide) ?_ ?_ ?_ ?_ ?_ ?_ ?_ U.d U.z ?_ hW.old rfl
 ·intro w w' j u hj h;unfold rj at h ⊢;split at h<;>first|exact h|exact absurd rfl hj
 ·intro w w' u e h;show vv _ _ _ _ _ _ _ _ _ _ _ _ _ _ _ w';have h:vv w0 bC bB sp n (mh now t) au id nh ao cap bg d ins u w:=h;obtain⟨d',M,Z,B,q3⟩:=h;have G:∀b:Nat,w'.heap[b]?=w.heap[b]?:=fun b=>by rw[e]
  refine⟨d',⟨fun b hb=>(G b).trans (M.old b hb),(G _).trans M.hC,by rw[G];exact M.hB,M.st.keep (fun b hb=>⟨fun _=>.inr (G b),fun _=>G b⟩) (by rw[e];exact dx _) (fun b hb=>.inl hb),M.ne⟩,Z,B,lL q3 fun j hj=>G j⟩
 ·intro w w' e h b hb;rw[e];exact h b hb
 ·intro i' o a I l az aA E r m hs H;have F:=E;have f1:=r (1,.slice (some ⟨tb,to,none⟩) W tc) (by simp);have f2:=r (2,.slice (some ⟨N,R,none⟩) ni ic) (by simp);have f8:=r (8,.pointer (some ⟨sp,0,none⟩)) (by simp);have f11:=r (11,.int .i64 (i:Int)) (by simp);simp only at f1 f2 f8 f11;have e1:I.cell? ⟨tb,to+i,none⟩=some (.int .i64 t):=(jx (a:=⟨tb,to+i,none⟩) (hs tb ae)).trans ht;have e2:I.cell? ⟨N,R+i,none⟩=some J:=(jx (a:=⟨N,R+i,none⟩) (hs N af)).trans hj;clear r;obtain rfl|rfl|rfl|rfl|rfl|rfl|rfl|rfl|rfl:i'=0∨i'=1∨i'=2∨i'=3∨i'=4∨i'=5∨i'=6∨i'=7∨i'=8:=by omega
  all_goals
   simp only[sG,nd,lE,mj,Tryz.f9]at E;simp at E;subst E
  ·refine GX.v F rfl (by kernel_rfl) (fun T K f=>?_);unfold execOp;simp only[Act.eval,du,f8,ez];go_simp;exact f _ _ (GX.jZ (H _ _ rfl rfl) rfl rfl)
  ·refine GX.v F rfl (by kernel_rfl) (fun T K f=>?_);unfold execOp;simp only[Act.eval,du,f1,ez];go_simp;exact f _ _ (GX.jZ (H _ _ rfl rfl) rfl rfl)
  ·refine GX.v F rfl (by kernel_rfl) (fun T K f=>?_);unfold execOp;simp only[Act.eval,du,f11,ez];go_simp;exact f _ _ (GX.jZ (H _ _ rfl rfl) rfl rfl)
  ·obtain⟨u0,O,A⟩:=m 1 _ _ rfl rfl ⟨⟨1,.data⟩,by simp,rfl,rfl⟩;simp only[rj]at A;subst A;obtain⟨u1,h1,V⟩:=m 2 _ _ rfl rfl ⟨⟨2,.data⟩,by simp,rfl,rfl⟩;simp only[rj]at V;subst V;refine GX.v F rfl (by kernel_rfl) (fun T K f=>?_);unfold execOp;simp only[Act.eval,du,O,h1,ez];go_simp;exact f _ _ (GX.jZ (H _ _ rfl rfl) rfl rfl)
  ·obtain⟨u0,O,A⟩:=m 3 _ _ rfl rfl ⟨⟨3,.data⟩,by simp,rfl,rfl⟩;simp only[rj]at A;subst A;refine GX.v F rfl (by kernel_rfl) (fun T K f=>?_);unfold execOp;simp only[Act.eval,du,O,ez];go_simp;exact f _ _ (GX.jZ (H _ _ rfl rfl) rfl rfl)
  ·refine GX.v F rfl (by kernel_rfl) (fun T K f=>?_);unfold execOp;simp only[Act.eval,du,f2,ez];go_simp;exact f _ _ (GX.jZ (H _ _ rfl rfl) rfl rfl)
  ·refine GX.v F rfl (by kernel_rfl) (fun T K f=>?_);unfold execOp;simp only[Act.eval,du,f11,ez];go_simp;exact f _ _ (GX.jZ (H _ _ rfl rfl) rfl rfl)
  ·obtain⟨u0,O,A⟩:=m 5 _ _ rfl rfl ⟨⟨5,.data⟩,by simp,rfl,rfl⟩;simp only[rj]at A;subst A;obtain⟨u1,h1,V⟩:=m 6 _ _ rfl rfl ⟨⟨6,.data⟩,by simp,rfl,rfl⟩;simp only[rj]at V;subst V;refine GX.v F rfl (by kernel_rfl) (fun T K f=>?_);unfold execOp;simp only[Act.eval,du,O,h1,ez];go_simp;exact f _ _ (GX.jZ (H _ _ rfl rfl) rfl rfl)
  ·obtain⟨u0,O,A⟩:=m 7 _ _ rfl rfl ⟨⟨7,.data⟩,by simp,rfl,rfl⟩;simp only[rj]at A;subst A;obtain⟨ja,X,Y,jc,rfl,_⟩:=hV;refine GX.v F rfl (by kernel_rfl) (fun T K f=>?_);unfold execOp;simp only[Act.eval,du,O,ez];go_simp;exact f _ _ (GX.jZ (H _ _ rfl rfl) rfl rfl)
 ·intro o a I l E r m hw H;have F:=E;simp only[sG,nd,lE,mj,Tryz.f9]at E;simp at E;subst E;obtain⟨u0,aa,A⟩:=m 0 _ _ rfl rfl ⟨⟨0,.data⟩,by simp,rfl,rfl⟩;simp only[rj]at A;subst A;obtain⟨u1,ah,V⟩:=m 4 _ _ rfl rfl ⟨⟨4,.data⟩,by simp,rfl,rfl⟩;simp only[rj]at V;subst V;obtain⟨u2,ai,p2⟩:=m 8 _ _ rfl rfl ⟨⟨8,.data⟩,by simp,rfl,rfl⟩;simp only[rj]at p2;subst p2;refine GX.Db (v0:=.pointer (some ⟨sp,0,none⟩)) (v1:=.int .i64 t) (v2:=u2) F rfl rfl (by kernel_rfl) (by simp only[Act.eval,du,aa,ez]) (by simp only[Act.eval,du,ah,ez]) (by simp only[Act.eval,du,ai,ez]) ?_ rfl rfl ag;have G:∀b:Nat,I.heap[b]?=w.heap[b]?:=fun b=>by rw[hw]
  have aj:rf I sp n now au id d (KW w0 bC bB):=hW.st.keep (fun b hb=>⟨fun _=>.inr (G b),fun _=>G b⟩) (by rw[hw];exact dx _) (fun b hb=>.inl hb);have ak:xg I u2 ins (KW w0 bC bB):=by
   obtain⟨ja,X,Y,jc,M,Z,q3,q4⟩:=hV;refine⟨ja,X,Y,jc,M,Z,fun h=>.inl (q3 h),?_⟩
   by_cases h:ins=[]
   ·subst h;intro j x hx;simp at hx
   ·exact q4.keep ((G _).trans (hW.old _ (q3 h)))
  refine E8 rfl aj (by omega) hid O ad ak hlen hb (fun w' ab d' M Z q3 q4=>?_);rw[zZ F];have hold:∀b,b<w0.heap.size→w'.heap[b]?=w0.heap[b]?:=fun b hb=>(q4 b (.inl hb)).trans ((G b).trans (hW.old b hb))
  refine H ab w' ⟨d',⟨hold,(q4 _ (.inr (.inl rfl))).trans ((G _).trans hW.hC),?_,M,hW.ne⟩,Z,q3⟩ hold;obtain⟨C,ty,r1,r2⟩:=hW.hB;exact⟨C,ty,(q4 _ (.inr (.inr rfl))).trans ((G _).trans r1),r2⟩
 ·intro o a I l E r m hs hsz H;have F:=E;have HZ:Hid (_):=hsz;clear hsz;simp only[sG,nd,lE,mj,Tryz.f9]at E;simp at E;subst E;obtain⟨u0,aa,A⟩:=m 9 _ _ rfl rfl ⟨⟨9,.data⟩,by simp,rfl,rfl⟩;have A:vv w0 bC bB sp n (mh now t) au id nh ao cap bg d ins u0 I:=A;have al:∃a l c,u0=.slice a l c:=by
   obtain⟨d',_,_,B,q⟩:=A;obtain⟨ao,cp,rfl,_⟩:=p6 q;exact⟨_,_,_,rfl⟩
  obtain⟨a1,l1,c1,rfl⟩:=al;refine GX.v F rfl (by kernel_rfl) (fun T K f=>?_);unfold execOp;simp only[Act.eval,du,aa,ez];go_simp;refine f _ _ (GX.jZ (H _ _ ⟨.slice a1 l1 c1,?_,A⟩) rfl rfl);simp[Act.put,HZ.out]
 ·intro a I h1 h2 r hP;obtain⟨v,M,Z⟩:=hP;exact hk a I v ⟨h1,h2,r (1,_) (by simp),r (2,_) (by simp),r (3,_) (by simp),r (8,_) (by simp),r (10,_) (by simp),r (11,_) (by simp)⟩ M Z
 ·intro x hx;simp at hx;rcases hx with rfl|rfl|rfl|rfl|rfl|rfl
  ·exact U.f1
  ·exact U.f2
  ·exact U.f3
  ·exact U.f8
  ·exact U.f10
  ·exact U.f11
end
section
open Go
variable {C:Array Value}
theorem SX{n:Nat}(h:C.size=n):C=((List.range n).map fun i=>C.getD i undef).toArray:=by
 apply Array.ext
 ·simp[h]
 ·intro i b c;simp[b]
theorem SY(f:Nat→Value):((List.range 126).map f).toArray=#[f 0,f 1,f 2,f 3,f 4,f 5,f 6,f 7,f 8,f 9,f 10,f 11,f 12,f 13,f 14,f 15,f 16,f 17,f 18,f 19,f 20,f 21,f 22,f 23,f 24,f 25,f 26,f 27,f 28,f 29,f 30,f 31,f 32,f 33,f 34,f 35,f 36,f 37,f 38,f 39,f 40,f 41,f 42,f 43,f 44,f 45,f 46,f 47,f 48,f 49,f 50,f 51,f 52,f 53,f 54,f 55,f 56,f 57,f 58,f 59,f 60,f 61,f 62,f 63,f 64,f 65,f 66,f 67,f 68,f 69,f 70,f 71,f 72,f 73,f 74,f 75,f 76,f 77,f 78,f 79,f 80,f 81,f 82,f 83,f 84,f 85,f 86,f 87,f 88,f 89,f 90,f 91,f 92,f 93,f 94,f 95,f 96,f 97,f 98,f 99,f 100,f 101,f 102,f 103,f 104,f 105,f 106,f 107,f 108,f 109,f 110,f 111,f 112,f 113,f 114,f 115,f 116,f 117,f 118,f 119,f 120,f 121,f 122,f 123,f 124,f 125]:=by kernel_rfl
theorem sH(h:C.size=126):∃f:Nat→Value,C=#[f 0,f 1,f 2,f 3,f 4,f 5,f 6,f 7,f 8,f 9,f 10,f 11,f 12,f 13,f 14,f 15,f 16,f 17,f 18,f 19,f 20,f 21,f 22,f 23,f 24,f 25,f 26,f 27,f 28,f 29,f 30,f 31,f 32,f 33,f 34,f 35,f 36,f 37,f 38,f 39,f 40,f 41,f 42,f 43,f 44,f 45,f 46,f 47,f 48,f 49,f 50,f 51,f 52,f 53,f 54,f 55,f 56,f 57,f 58,f 59,f 60,f 61,f 62,f 63,f 64,f 65,f 66,f 67,f 68,f 69,f 70,f 71,f 72,f 73,f 74,f 75,f 76,f 77,f 78,f 79,f 80,f 81,f 82,f 83,f 84,f 85,f 86,f 87,f 88,f 89,f 90,f 91,f 92,f 93,f 94,f 95,f 96,f 97,f 98,f 99,f 100,f 101,f 102,f 103,f 104,f 105,f 106,f 107,f 108,f 109,f 110,f 111,f 112,f 113,f 114,f 115,f 116,f 117,f 118,f 119,f 120,f 121,f 122,f 123,f 124,f 125]:=⟨fun i=>C.getD i undef,(SX h).trans (SY _)⟩
end
section
open Go Go.Conc Go.RowKit Go.Proofs.YtjnkcibpkkjniaaGreat.j7
noncomputable def oK:Code:=match nz with | .seq (.seq _ (.block _ (.loop c))) _=>c|_=>.skip
noncomputable def n8:Code:=match nz with | .seq _ t=>t|_=>.skip
noncomputable def qi:List Item:=[.inLoop oK,.inBlock 2,.code n8,.inBlock 1,.code ng,.inLoop lE,.inBlock 0,.code ny]
noncomputable def vw:Code:=match oK with | .seq _ (.seq (.block _ b) _)=>b|_=>.skip
noncomputable def yz:Code:=match oK with | .seq _ (.seq _ n)=>n|_=>.skip
noncomputable def rV:Code:=match vw with | .seq _ (.seq _ (.seq _ t))=>t|_=>.skip
noncomputable def xk:List Item:=.inBlock 3::.code yz::qi
variable {w:World} {sp n p:Nat} {now au id:Int} {d:Nat→SD}
theorem Ft{K:Nat→Prop}(h:rf w sp n now au id d K)(hp:p<n):Calls Tryz.prog 18 #[.pointer (some ⟨sp,0,none⟩),.int .i64 (p:Int)] w fun e w'=>e=.returned (.int .i64 (d p).s.st)∧w'=w:=by
 rcases h.2 with⟨rfl,_⟩|⟨b,xb,xc,Z,hS,_⟩
 ·omega
 ·obtain⟨C,hC,hF⟩:=hS.ss.blk;refine Es w sp xb n xc p (d p).s.st (jV hS.j3 1) hp ?_;rw[jV hC,show p*14+9=14*p+9 by omega,hF.at_ p hp 9 (by decide)];rfl
variable {Q:Frame→List Frame→World→Prop} {w0:World} {a:Act} {bC bB cap g oc k:Nat} {nh i:Int} {ao oa:Option Addr} {tv iv l:Value} {x:Nat→List Int×Bool}
theorem SZ{bg:Nat→Bool}(I:ml a tv iv bC sp bB i)(hW:oJ w0 w bC bB sp n now au id nh ao cap d bg)(hn:n≤8)(m:uH n x l w g oc oa)(hp:(kV x n)[k]?=some p)(f12:a.tmps[12]?=some l)(f13:a.tmps[13]?=some (.int .i64 (k:Int)))(G:∀a',ml a' tv iv bC sp bB i→a'.tmps[12]?=some l→a'.tmps[13]?=some (.int .i64 (k:Int))→a'.tmps[14]?=some (.int .i64 (p:Int))→a'.tmps[15]?=some (.int .i64 (d p).s.st)→GX [] Q ((base 9).at a' (.code rV::xk)) [] w):GX [] Q ((base 9).at a (.code oK::qi)) [] w:=by
 have B:p<n:=xf x n p (gn hp);have o:k<(kV x n).length:=(je.1 hp).1;have D:kV x n≠[]:=fun e=>by rw[e]at hp;simp at hp
 obtain rfl:=m.a D;obtain rfl:=m.v;have J:w.cell? ⟨g,k*3,none⟩=some (.int .i64 (p:Int)):=by
  have:=m.at_ k p hp 0 _ rfl;rw[dT k 3];exact this
 have M:0<k→∃q,q<p∧w.cell? ⟨g,(k-1)*3,none⟩=some (.int .i64 (q:Int)):=fun h0=>by
  have r:k-1<(kV x n).length:=by omega
  refine⟨(kV x n)[k-1],?_,?_⟩
  ·have:=List.pairwise_iff_getElem.1 (yv x n) (k-1) k r o (by omega);rw[(je.1 hp).2]at this;exact this
  ·have:=m.at_ (k-1) _ (jf r) 0 _ rfl;rw[dT (k-1) 3];exact this
 have c3:=jV hW.hC 3;simp at c3;have H:Hid (∀T,Calls Tryz.prog 18 #[.pointer (some ⟨sp,0,none⟩),.int .i64 (p:Int)] (again w T) fun e w'=>e=.returned (.int .i64 (d p).s.st)∧w'=again w T):=fun T=>Ft (w:=again w T) (hW.st.keep (fun b hb=>⟨fun _=>.inr rfl,fun _=>rfl⟩) (dx _) (fun b hb=>.inl hb)) B
 have E:Hid (_):=G;clear G m hW;obtain⟨u,hsz,f1,f2,f3,f8,f10,f11⟩:=I;obtain⟨tm,df⟩:=a;simp only at u hsz f1 f2 f3 f8 f10 f11 f12 f13;subst u;obtain⟨f,rfl⟩:=sH hsz;simp only[fR,gx,fS,dR]at f1 f2 f3 f8 f10 f11 f12 f13;simp only[f1,f2,f3,f8,f10,f11,f12,f13];clear hsz f1 f2 f3 f8 f10 f11 f12 f13
 (have N:=nL;have O:=oX;have R:=oi;have S:=nv;have U:=nM;have V:=nN);have F:(kV x n).length≤8:=by rw[yu];have:=yr x n;omega
 generalize(kV x n).length=L at o F E ⊢;have m1:(0:Int)≤(k:Int):=by omega
 have m2:(k:Int)<(L:Int):=by omega
 have m3:¬((p:Int)<0):=by omega
 have m4:¬((n:Int)≤(p:Int)):=by omega
 have m5:¬(8≤(p:Int)):=by omega
 unfold qi oK n8 ng nz nd;unfold lE ny;unfold mj;simp only[Tryz.f9];refine GX.seq ?_;refine GX.seq ?_
 ((refine GX.region ?_);walk_nrm)
 iterate 4 ((refine GX.v rfl rfl (by kernel_rfl) (fun T K h=>?_));unfold execOp;go_simp;(refine h _ _ ?_);clear h K;(refine GX.jZ (v:=w) ?_ rfl rfl);clear T;walk_nrm)
 refine GX.kE ?_;refine GX.cond (t:=true) (by kernel_rfl) rfl ?_;simp only[dg];refine GX.pj ?_;refine GX.seq ?_;refine GX.block ?_;refine GX.seq ?_
 ((refine GX.region ?_);walk_nrm)
 iterate 6 ((refine GX.v rfl rfl (by kernel_rfl) (fun T K h=>?_));unfold execOp;go_simp;(refine h _ _ ?_);clear h K;(refine GX.jZ (v:=w) ?_ rfl rfl);clear T;walk_nrm)
 refine GX.kE ?_;refine GX.seq ?_;refine GX.seq ?_
 ((refine GX.region ?_);walk_nrm)
 iterate 15 ((refine GX.v rfl rfl (by kernel_rfl) (fun T K h=>?_));unfold execOp;go_simp;(refine h _ _ ?_);clear h K;(refine GX.jZ (v:=w) ?_ rfl rfl);clear T;walk_nrm)
 rcases eT k with z|z
 ·have W:¬((0:Int)<(k:Int)):=by omega
  iterate 2 ((refine GX.v rfl rfl (by kernel_rfl) (fun T K h=>?_));unfold execOp;go_simp;(refine h _ _ ?_);clear h K;(refine GX.jZ (v:=w) ?_ rfl rfl);clear T;walk_nrm)
  iterate 8 ((refine GX.skip rfl (by rfl) ?_);walk_nrm)
  iterate 2 ((refine GX.v rfl rfl (by kernel_rfl) (fun T K h=>?_));unfold execOp;go_simp;(refine h _ _ ?_);clear h K;(refine GX.jZ (v:=w) ?_ rfl rfl);clear T;walk_nrm)
  ((refine GX.kE ?_);(refine GX.cond (t:=false) (by kernel_rfl) rfl ?_);simp only[dG,dh];(refine GX.pj ?_);(refine GX.seq ?_);((refine GX.region ?_);walk_nrm);(iterate 2 ((refine GX.v rfl rfl (by kernel_rfl) (fun T K h=>?_));unfold execOp;go_simp;(refine h _ _ ?_);clear h K;(refine GX.jZ (v:=w) ?_ rfl rfl);clear T;walk_nrm));(refine GX.c rfl rfl (by kernel_rfl) (fun T K h=>?_));unfold execOp;go_simp;(refine h _ _ _ (fun A=>?_));clear h K;(refine js (H.out A) ?_);(rintro e w' ⟨rfl,rfl⟩);(refine⟨_,rfl,GX.jZ (v:=w) ?_ rfl rfl⟩);clear A;walk_nrm;((refine GX.v rfl rfl (by kernel_rfl) (fun T K h=>?_));unfold execOp;go_simp;(refine h _ _ ?_);clear h K;(refine GX.jZ (v:=w) ?_ rfl rfl);clear T;walk_nrm);(refine GX.kE ?_);(have j:=E.out);unfold rV xk qi yz vw oK n8 ng nz nd at j;unfold lE ny at j;unfold mj at j;simp only[Tryz.f9]at j;exact j _ ⟨rfl,rfl,rfl,rfl,rfl,rfl,rfl,rfl⟩ rfl rfl rfl rfl)
 ·obtain⟨q,X,Y⟩:=M z;have W:(0:Int)<(k:Int):=by omega
  have m7:IntKind.i64.wrap ((k:Int)-1)=((k-1:Nat):Int):=by rw[iw]<;>omega
  have m8:(0:Int)≤((k-1:Nat):Int):=by omega
  have m9:((k-1:Nat):Int)<(L:Int):=by omega
  have Z:¬((p:Int)≤(q:Int)):=by omega
  iterate 2 ((refine GX.v rfl rfl (by kernel_rfl) (fun T K h=>?_));unfold execOp;go_simp;(refine h _ _ ?_);clear h K;(refine GX.jZ (v:=w) ?_ rfl rfl);clear T;walk_nrm)
  iterate 8 ((refine GX.v rfl rfl (by kernel_rfl) (fun T K h=>?_));unfold execOp;go_simp;(refine h _ _ ?_);clear h K;(refine GX.jZ (v:=w) ?_ rfl rfl);clear T;walk_nrm)
  iterate 2 ((refine GX.v rfl rfl (by kernel_rfl) (fun T K h=>?_));unfold execOp;go_simp;(refine h _ _ ?_);clear h K;(refine GX.jZ (v:=w) ?_ rfl rfl);clear T;walk_nrm)
  ((refine GX.kE ?_);(refine GX.cond (t:=false) (by kernel_rfl) rfl ?_);simp only[dG,dh];(refine GX.pj ?_);(refine GX.seq ?_);((refine GX.region ?_);walk_nrm);(iterate 2 ((refine GX.v rfl rfl (by kernel_rfl) (fun T K h=>?_));unfold execOp;go_simp;(refine h _ _ ?_);clear h K;(refine GX.jZ (v:=w) ?_ rfl rfl);clear T;walk_nrm));(refine GX.c rfl rfl (by kernel_rfl) (fun T K h=>?_));unfold execOp;go_simp;(refine h _ _ _ (fun A=>?_));clear h K;(refine js (H.out A) ?_);(rintro e w' ⟨rfl,rfl⟩);(refine⟨_,rfl,GX.jZ (v:=w) ?_ rfl rfl⟩);clear A;walk_nrm;((refine GX.v rfl rfl (by kernel_rfl) (fun T K h=>?_));unfold execOp;go_simp;(refine h _ _ ?_);clear h K;(refine GX.jZ (v:=w) ?_ rfl rfl);clear T;walk_nrm);(refine GX.kE ?_);(have j:=E.out);unfold rV xk qi yz vw oK n8 ng nz nd at j;unfold lE ny at j;unfold mj at j;simp only[Tryz.f9]at j;exact j _ ⟨rfl,rfl,rfl,rfl,rfl,rfl,rfl,rfl⟩ rfl rfl rfl rfl)
noncomputable def yA:Code:=match rV with | .seq _ t=>t|_=>.skip
noncomputable def vx:Array Oper:=match rV with | .seq (.region _ ops _) _=>ops|_=>#[]
theorem S3:kH (strip vx) [1,2,3,8,10,11,12,13,14,15] 126=true:=by kernel_rfl
theorem S4:lf (strip vx)=true:=by kernel_rfl
theorem S5:vx.size=10:=by kernel_rfl
def qj (g L oc k p bB:Nat) (y:List Int×Bool) (b0:Bool) (st:Int):Nat→Value→World→Prop
 |0,v,_=>v=.slice (some ⟨g,0,none⟩) L oc
 |1,v,_=>v=.int .i64 (k:Int)
 |2,v,_=>v=.pointer (some ⟨g,k*3,none⟩)
 |3,v,_=>v=.agg #[.int .i64 (p:Int),.string (strOfNums y.1),.bool y.2]
 |4,v,_=>v=.int .i64 (p:Int)
 |5,v,_=>v=.pointer (some ⟨bB,p,none⟩)
 |6,v,_=>v=.bool b0
 |7,v,_=>v=.int .i64 st
 |8,v,_=>v=.bool true
 |_,_,_=>True
variable {L:Nat} {y:List Int×Bool} {b0:Bool} {st:Int}
theorem S6(w w':World)(i:Nat)(u:Value)(hB:Below w.heap.size w w')(h:qj g L oc k p bB y b0 st i u w):qj g L oc k p bB y b0 st i u w':=by
 unfold qj at h ⊢;split at h<;>exact h
variable {C:Array Value} {ty:TypeId}
theorem S7{kk:List Item}{ms:List (Int×List Int)}(B:ml a tv iv bC sp bB i)(hB:w.heap[bB]?=some (.cells C ty (0,0)))(J:C[p]?=some (.bool b0))(hp:p<8)(Y:k<L)(r:∀j u,(#[.int .i64 (p:Int),.string (strOfNums y.1),.bool y.2]:Array Value)[j]?=some u→w.cell? ⟨g,3*k+j,none⟩=some u)(Z:y.1=kN ms)(O:okW y.2 st b0 ms)(f12:a.tmps[12]?=some (.slice (some ⟨g,0,none⟩) L oc))(f13:a.tmps[13]?=some (.int .i64 (k:Int)))(f14:a.tmps[14]?=some (.int .i64 (p:Int)))(f15:a.tmps[15]?=some (.int .i64 st))(hk:∀a' w',ml a' tv iv bC sp bB i→a'.tmps[12]?=some (.slice (some ⟨g,0,none⟩) L oc)→a'.tmps[13]?=some (.int .i64 (k:Int))→a'.tmps[14]?=some (.int .i64 (p:Int))→a'.tmps[16]?=some (.bool true)→Below w.heap.size w w'→GX [] Q ((base 9).at a' (.code yA::kk)) [] w'):GX [] Q ((base 9).at a (.code rV::kk)) [] w:=by
 obtain⟨y1,R⟩:=y;obtain rfl:y1=kN ms:=Z;simp only at r O;have E:g<w.heap.size:=ju _ _ (r 0 _ rfl);have M:bB<w.heap.size:=(dp.1 hB).1;have S:=r 0 _ rfl;have U:=r 1 _ rfl;have V:=r 2 _ rfl;rw[dT 3 k]at S U V;have qb:w.cell? ⟨bB,p,none⟩=some (.bool b0):=(jV hB p).trans J;have i1:(0:Int)≤(k:Int):=by omega
 have i2:(k:Int)<(L:Int):=by omega
 have i3:(0:Int)≤(p:Int):=by omega
 have i4:(p:Int)<8:=by omega
 have aa:=nL;have ab:=oi;have ad:=nv;have ae:=nM;have af:=nN;have e3:rV=.seq (.region 19 vx true) yA:=by kernel_rfl
 rw[e3];refine GX.seq ?_;refine GX.lb (D:=[]) (T:=126) (n:=9) (w0:=w) (val:=qj g L oc k p bB (kN ms,R) b0 st)
  (fix:=[(1,tv),(2,iv),(3,.pointer (some ⟨bC,0,none⟩)),(8,.pointer (some ⟨sp,0,none⟩)),(10,.pointer (some ⟨bB,0,none⟩)),(11,.int .i64 i),(12,.slice (some ⟨g,0,none⟩) L oc),(13,.int .i64 (k:Int)),(14,.int .i64 (p:Int)),(15,.int .i64 st)])
  (Post:=fun a w'=>a.tmps[16]?=some (.bool true)∧Below w.heap.size w w') (by kernel_rfl) S3 S4 S5 S6 ?_ ?_ ?_ B.d B.z ?_ (iD _ _)
 ·intro i' o a N l ag m f h F s;have t:=m;have f12:=f (12,.slice (some ⟨g,0,none⟩) L oc) (by simp);have f13:=f (13,.int .i64 (k:Int)) (by simp);have f14:=f (14,.int .i64 (p:Int)) (by simp);have f15:=f (15,.int .i64 st) (by simp);have f10:=f (10,.pointer (some ⟨bB,0,none⟩)) (by simp);simp only at f10 f12 f13 f14 f15;have e0:=(F.cell (p:=⟨g,k*3,none⟩) E).trans S;have e1:=(F.cell (p:=⟨g,k*3+1,none⟩) E).trans U;have e2:=(F.cell (p:=⟨g,k*3+2,none⟩) E).trans V;have eb:=(F.cell (p:=⟨bB,p,none⟩) M).trans qb;clear f;obtain rfl|rfl|rfl|rfl|rfl|rfl|rfl|rfl|rfl:i'=0∨i'=1∨i'=2∨i'=3∨i'=4∨i'=5∨i'=6∨i'=7∨i'=8:=by omega
  all_goals
   simp only[vx,rV,vw,oK,nz,nd,lE,mj,Tryz.f9]at m;simp at m;subst m
  ·refine GX.v t rfl (by kernel_rfl) (fun T K b=>?_);unfold execOp;simp only[Act.eval,du,f12,ez];go_simp;exact b _ _ (GX.jZ (s _ _ rfl (iD _ _)) rfl rfl)
  ·refine GX.v t rfl (by kernel_rfl) (fun T K b=>?_);unfold execOp;simp only[Act.eval,du,f13,ez];go_simp;exact b _ _ (GX.jZ (s _ _ rfl (iD _ _)) rfl rfl)
  ·obtain⟨G,A,q⟩:=h 0 _ _ rfl rfl ⟨⟨0,.data⟩,by simp,rfl,rfl⟩;simp only[qj]at q;subst q;obtain⟨u1,I,H⟩:=h 1 _ _ rfl rfl ⟨⟨1,.data⟩,by simp,rfl,rfl⟩;simp only[qj]at H;subst H;refine GX.v t rfl (by kernel_rfl) (fun T K b=>?_);unfold execOp;simp only[Act.eval,du,A,I,ez];go_simp;exact b _ _ (GX.jZ (s _ _ rfl (iD _ _)) rfl rfl)
  ·obtain⟨G,A,q⟩:=h 2 _ _ rfl rfl ⟨⟨2,.data⟩,by simp,rfl,rfl⟩;simp only[qj]at q;subst q;refine GX.v t rfl (by kernel_rfl) (fun T K b=>?_);unfold execOp;simp only[Act.eval,du,A,ez];go_simp;exact b _ _ (GX.jZ (s _ _ rfl (iD _ _)) rfl rfl)
  ·refine GX.v t rfl (by kernel_rfl) (fun T K b=>?_);unfold execOp;simp only[Act.eval,du,f14,ez];go_simp;exact b _ _ (GX.jZ (s _ _ rfl (iD _ _)) rfl rfl)
  ·obtain⟨G,A,q⟩:=h 4 _ _ rfl rfl ⟨⟨4,.data⟩,by simp,rfl,rfl⟩;simp only[qj]at q;subst q;refine GX.v t rfl (by kernel_rfl) (fun T K b=>?_);unfold execOp;simp only[Act.eval,du,A,f10,ez];go_simp;exact b _ _ (GX.jZ (s _ _ rfl (iD _ _)) rfl rfl)
  ·obtain⟨G,A,q⟩:=h 5 _ _ rfl rfl ⟨⟨5,.data⟩,by simp,rfl,rfl⟩;simp only[qj]at q;subst q;refine GX.v t rfl (by kernel_rfl) (fun T K b=>?_);unfold execOp;simp only[Act.eval,du,A,ez];go_simp;exact b _ _ (GX.jZ (s _ _ rfl (iD _ _)) rfl rfl)
  ·refine GX.v t rfl (by kernel_rfl) (fun T K b=>?_);unfold execOp;simp only[Act.eval,du,f15,ez];go_simp;exact b _ _ (GX.jZ (s _ _ rfl (iD _ _)) rfl rfl)
  ·obtain⟨G,A,q⟩:=h 3 _ _ rfl rfl ⟨⟨3,.data⟩,by simp,rfl,rfl⟩;simp only[qj]at q;subst q;obtain⟨u1,I,H⟩:=h 6 _ _ rfl rfl ⟨⟨6,.data⟩,by simp,rfl,rfl⟩;simp only[qj]at H;subst H;obtain⟨u2,W,p2⟩:=h 7 _ _ rfl rfl ⟨⟨7,.data⟩,by simp,rfl,rfl⟩;simp only[qj]at p2;subst p2;refine GX.c t rfl (by kernel_rfl) (fun T K b=>?_);unfold execOp;simp only[];go_simp;refine b _ _ _ (fun T'=>js (QE (p:Int) R st ms b0 O _) ?_);rintro e w' ⟨rfl,hB⟩;exact⟨_,rfl,GX.jZ (s _ _ rfl (A4 hB)) rfl hB.os.symm⟩
 ·intro o a N l m f h F hsz s;have t:=m;have HZ:Hid (_):=hsz;clear hsz;simp only[vx,rV,vw,oK,nz,nd,lE,mj,Tryz.f9]at m;simp at m;subst m;obtain⟨G,A,q⟩:=h 8 _ _ rfl rfl ⟨⟨8,.data⟩,by simp,rfl,rfl⟩;simp only[qj]at q;subst q;refine GX.v t rfl (by kernel_rfl) (fun T K b=>?_);unfold execOp;simp only[Act.eval,du,A,ez];go_simp;refine b _ _ (GX.jZ (s (.bool true) _ ⟨?_,F⟩) rfl rfl);simp[Act.put,HZ.out]
 ·intro a N I W f X;exact hk a N ⟨I,W,f (1,_) (by simp),f (2,_) (by simp),f (3,_) (by simp),f (8,_) (by simp),f (10,_) (by simp),f (11,_) (by simp)⟩ (f (12,_) (by simp)) (f (13,_) (by simp)) (f (14,_) (by simp)) X.1 X.2
 ·intro x hx;simp at hx;rcases hx with rfl|rfl|rfl|rfl|rfl|rfl|rfl|rfl|rfl|rfl
  ·exact B.f1
  ·exact B.f2
  ·exact B.f3
  ·exact B.f8
  ·exact B.f10
  ·exact B.f11
  ·exact f12
  ·exact f13
  ·exact f14
  ·exact f15
theorem S8{u:Bool}(j:ml a tv iv bC sp bB i)(hB:w.heap[bB]?=some (.cells C ty (0,0)))(hu:C[p]?=some (.bool u))(hp:p<8)(m:k<8)(f12:a.tmps[12]?=some l)(f13:a.tmps[13]?=some (.int .i64 (k:Int)))(f14:a.tmps[14]?=some (.int .i64 (p:Int)))(f16:a.tmps[16]?=some (.bool true))(h:∀a',ml a' tv iv bC sp bB i→a'.tmps[12]?=some l→a'.tmps[13]?=some (.int .i64 ((k+1:Nat):Int))→GX [] Q ((base 9).at a' (.code oK::qi)) [] (w.setCell ⟨bB,p,none⟩ (.bool true))):GX [] Q ((base 9).at a (.code yA::xk)) [] w:=by
 have E:w.cell? ⟨bB,p,none⟩=some (.bool u):=(jV hB p).trans hu;have F:w.frozen? ⟨bB,p,none⟩=false:=kK hB p;have i3:(0:Int)≤(p:Int):=by omega
 have i4:(p:Int)<8:=by omega
 have o:IntKind.i64.wrap ((k:Int)+1)=((k+1:Nat):Int):=by rw[iw]<;>omega
 have q:Hid (_):=h;clear h hB hu;obtain⟨e,hsz,f1,f2,f3,f8,f10,f11⟩:=j;obtain⟨G,H⟩:=a;simp only at e hsz f1 f2 f3 f8 f10 f11 f12 f13 f14 f16;subst e;obtain⟨f,rfl⟩:=sH hsz;simp only[fR,gx,fS,dR]at f1 f2 f3 f8 f10 f11 f12 f13 f14 f16;simp only[f1,f2,f3,f8,f10,f11,f12,f13,f14,f16];clear hsz f1 f2 f3 f8 f10 f11 f12 f13 f14 f16
 (have r:=nL;have s:=oX;have z:=oi;have A:=nv;have B:=nM;have D:=nN);unfold yA rV xk qi yz vw oK n8 ng nz nd;unfold lE ny;unfold mj;simp only[Tryz.f9];refine GX.seq ?_;refine GX.seq ?_
 ((refine GX.region ?_);walk_nrm)
 iterate 2 ((refine GX.v rfl rfl (by kernel_rfl) (fun T K c=>?_));unfold execOp;go_simp;(refine c _ _ ?_);clear c K;(refine GX.jZ (v:=w) ?_ rfl rfl);clear T;walk_nrm)
 refine GX.kE ?_;refine GX.cond (t:=false) (by kernel_rfl) rfl ?_;simp only[dG,dh];refine GX.pj ?_
 ((refine GX.region ?_);walk_nrm)
 iterate 2 ((refine GX.v rfl rfl (by kernel_rfl) (fun T K c=>?_));unfold execOp;go_simp;(refine c _ _ ?_);clear c K;(refine GX.jZ (v:=w) ?_ rfl rfl);clear T;walk_nrm)
 refine GX.u rfl rfl (by kernel_rfl) (fun T K c=>?_);unfold execOp;go_simp;refine c _ ?_;clear c K;refine GX.jZ (v:=w.setCell ⟨bB,p,none⟩ (.bool true)) ?_ rfl rfl;clear T;walk_nrm;refine GX.kE ?_;refine GX.inBlock ?_
 ((refine GX.region ?_);walk_nrm)
 iterate 3 ((refine GX.v rfl rfl (by kernel_rfl) (fun T K c=>?_));unfold execOp;go_simp;(refine c _ _ ?_);clear c K;(refine GX.jZ (v:=w.setCell ⟨bB,p,none⟩ (.bool true)) ?_ rfl rfl);clear T;walk_nrm)
 refine GX.kE ?_;refine GX.inLoop ?_;have b:=q.out;unfold qi oK n8 ng nz nd at b;unfold lE ny at b;unfold mj at b;simp only[Tryz.f9]at b;exact b _ ⟨rfl,rfl,rfl,rfl,rfl,rfl,rfl,rfl⟩ rfl rfl
theorem Fu(j:ml a tv iv bC sp bB i)(f12:a.tmps[12]?=some (.slice oa L oc))(f13:a.tmps[13]?=some (.int .i64 (L:Int)))(e:∀a',ml a' tv iv bC sp bB i→GX [] Q ((base 9).at a' (.code n8::.inBlock 1::.code ng::mL)) [] w):GX [] Q ((base 9).at a (.code oK::qi)) [] w:=by
 have i1:¬((L:Int)<(L:Int)):=by omega
 have m:Hid (_):=e;clear e;obtain⟨c,hsz,f1,f2,f3,f8,f10,f11⟩:=j;obtain⟨A,B⟩:=a;simp only at c hsz f1 f2 f3 f8 f10 f11 f12 f13;subst c;obtain⟨f,rfl⟩:=sH hsz;simp only[fR,gx,fS,dR]at f1 f2 f3 f8 f10 f11 f12 f13;simp only[f1,f2,f3,f8,f10,f11,f12,f13];clear hsz f1 f2 f3 f8 f10 f11 f12 f13
 (have o:=nL;have q:=oX;have r:=oi;have s:=nv;have u:=nM;have z:=nN);unfold qi oK n8 ng nz nd;unfold lE ny;unfold mj;simp only[Tryz.f9];refine GX.seq ?_;refine GX.seq ?_
 ((refine GX.region ?_);walk_nrm)
 iterate 4 ((refine GX.v rfl rfl (by kernel_rfl) (fun T K h=>?_));unfold execOp;go_simp;(refine h _ _ ?_);clear h K;(refine GX.jZ (v:=w) ?_ rfl rfl);clear T;walk_nrm)
 refine GX.kE ?_;refine GX.cond (t:=false) (by kernel_rfl) rfl ?_;simp only[dG,dh];refine GX.exit rfl ?_;have b:=m.out;unfold mL n8 ng nz nd at b;unfold lE ny at b;unfold mj at b;simp only[Tryz.f9]at b;exact b _ ⟨rfl,rfl,rfl,rfl,rfl,rfl,rfl,rfl⟩
section
variable {w0 w:World} {bC bB sp n:Nat} {now au id nh:Int} {ao:Option Addr} {cap:Nat} {d:Nat→SD} {bg:Nat→Bool}
theorem oJ.kept(h:oJ w0 w bC bB sp n now au id nh ao cap d bg){w':World}(e:w.heap.size≤w'.heap.size)(k:∀b,b<w.heap.size→w'.heap[b]?=w.heap[b]?):oJ w0 w' bC bB sp n now au id nh ao cap d bg:=by
 have c:∀b,KW w0 bC bB b→w'.heap[b]?=w.heap[b]?:=fun b hb=>k b (h.st.1 b hb).1
 refine⟨fun b hb=>(c b (.inl hb)).trans (h.old b hb),(c _ (.inr (.inl rfl))).trans h.hC,by rw[c _ (.inr (.inr rfl))];exact h.hB,h.st.keep (fun b hb=>⟨fun _=>.inr (k b hb),fun _=>k b hb⟩) e (fun b hb=>.inl hb),h.ne⟩
theorem oJ.set(h:oJ w0 w bC bB sp n now au id nh ao cap d bg){p:Nat}(hp:p<8)(v:Bool):oJ w0 (w.setCell ⟨bB,p,none⟩ (.bool v)) bC bB sp n now au id nh ao cap d (fun j=>if j=p then v else bg j):=by
 obtain⟨C,ty,m,o,f,q⟩:=h.hB;have c:∀b:Nat,b≠bB→(w.setCell ⟨bB,p,none⟩ (.bool v)).heap[b]?=w.heap[b]?:=fun b hb=>kn (dE hb) p _
 have r:(w.setCell ⟨bB,p,none⟩ (.bool v)).heap.size=w.heap.size:=by simp
 refine⟨fun b hb=>(c b (by have:=h.ne.2.2;omega)).trans (h.old b hb),(c _ h.ne.1).trans h.hC,⟨C.setIfInBounds p (.bool v),ty,lj m p _,o,by simpa using f,fun j s=>?_⟩,h.st.keep (fun b hb=>⟨fun _=>?_,fun e=>c b ?_⟩) (by rw[r];exact dx _) (fun b hb=>.inl hb),h.ne⟩
 ·rw[dr]
  by_cases e:p=j
  ·subst e;simp[f,hp]
  ·rw[dk e,dk (fun h=>e h.symm)];exact q j s
 ·by_cases e:b=bB
  ·exact .inl (.inr (.inr e))
  ·exact .inr (c b e)
 ·have:=(h.st.1 bB (.inr (.inr rfl))).2;rw[e];exact dE this
end
theorem S9{b0:Nat→Bool}(hn:n≤8)(hx:∀p,p<n→∃ms,(x p).1=kN ms∧okW (x p).2 (d p).s.st (b0 p) ms)(hk:∀a' w' z,ml a' tv iv bC sp bB i→oJ w0 w' bC bB sp n now au id nh ao cap d z→(∀j,n≤j→z j=b0 j)→GX [] Q ((base 9).at a' (.code n8::.inBlock 1::.code ng::mL)) [] w'):∀(m k:Nat)(a:Act)(w:World)(bg:Nat→Bool),(kV x n).length≤k+m→k≤(kV x n).length→ml a tv iv bC sp bB i→a.tmps[12]?=some l→a.tmps[13]?=some (.int .i64 (k:Int))→oJ w0 w bC bB sp n now au id nh ao cap d bg→uH n x l w g oc oa→(∀j,n≤j→bg j=b0 j)→(∀(j p:Nat),k≤j→(kV x n)[j]?=some p→bg p=b0 p) →
   GX [] Q ((base 9).at a (.code oK::qi)) [] w:=by
 intro m
 induction m with
 |zero =>
  intro k a w bg hm G E f12 f13 hW c f r;obtain rfl:k=(kV x n).length:=by omega
  rw[c.v]at f12;exact Fu E f12 f13 fun a' t=>hk a' w bg t hW f
 |succ m ih =>
  intro k a w bg hm G E f12 f13 hW c f r
  by_cases h:(kV x n).length≤k
  ·obtain rfl:k=(kV x n).length:=by omega
   rw[c.v]at f12;exact Fu E f12 f13 fun a' t=>hk a' w bg t hW f
  have h:k<(kV x n).length:=by omega
  have hp:(kV x n)[k]?=some (kV x n)[k]:=jf h;generalize(kV x n)[k]=p at hp;have H:p<n:=xf x n p (gn hp);have A:kV x n≠[]:=fun e=>by rw[e]at hp;simp at hp
  have af:(kV x n).length≤8:=by rw[yu];have:=yr x n;omega
  have hl:l=.slice (some ⟨g,0,none⟩) (kV x n).length oc:=by rw[c.v,c.a A]
  obtain⟨C,ty,hB,I,ag,B⟩:=hW.hB;obtain⟨cur,fr,J⟩:=c.b A;have K:g≠bB:=fun e=>by
   rw[e,hB]at J
   cases J
   exact I rfl
  have M:g<w.heap.size:=(dp.1 J).1;have N:bB<w.heap.size:=(dp.1 hB).1;obtain⟨ms,hy,ho⟩:=hx p H;refine SZ E hW hn c hp f12 f13 fun a1 O D R S T=>?_
  rw[hl]at D;refine S7 (p:=p) (y:=x p) (b0:=b0 p) (ms:=ms) O hB (by rw[B p (by omega),r k p (dx _) hp]) (by omega) h (fun j u F=>c.at_ k p hp j u (by unfold qC;simpa using F)) hy ho D R S T fun a2 w2 U V W X Y o=>?_
  have Z:w2.heap[bB]?=some (.cells C ty (0,0)):=(o.block _ N).trans hB;refine S8 (u:=bg p) U Z (B p (by omega)) (by omega) (by omega) V W X Y fun a3 aa d12 d13=>?_
  have ab:=(hW.kept o.size fun b hb=>o.block b hb).set (p:=p) (by omega) true;have ad:uH n x l (w2.setCell ⟨bB,p,none⟩ (.bool true)) g oc oa:=c.keep ((kn (dE K) p _).trans (o.block _ M));refine ih (k+1) a3 _ _ (by omega) (by omega) aa (by rw[hl];exact d12) d13 ab ad (fun j F=>?_) (fun j q F hq=>?_)
  ·show(if j=p then true else bg j)=b0 j;rw[dk (by omega)];exact f j F
  ·show(if q=p then true else bg q)=b0 q;have ah:p<q:=by
    have ae:j<(kV x n).length:=(je.1 hq).1;have:=List.pairwise_iff_getElem.1 (yv x n) k j h ae (by omega);rw[(je.1 hp).2,(je.1 hq).2]at this;exact this
   rw[dk (by omega)];exact r j q (by omega) hq
end
end Go.Proofs.YtjnkcibpkkjniaaGreat.kj
