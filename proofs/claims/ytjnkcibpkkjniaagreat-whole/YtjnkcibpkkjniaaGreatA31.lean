import Derived.Test.YtjnkcibpkkjniaaGreatA00
import Derived.Test.YtjnkcibpkkjniaaGreatA29
import Derived.Test.YtjnkcibpkkjniaaGreatA30
set_option linter.all false
set_option maxHeartbeats 2000000
set_option maxRecDepth 20000
namespace Go.Proofs.YtjnkcibpkkjniaaGreat.kj
section
open Go Go.Conc Go.RowKit Go.Proofs.YtjnkcibpkkjniaaGreat.j7
def yy:List Int:=j9 1 (pP 100 9 [0,0,0,IntKind.u8.wrap 1,0])++j9 4 []
def ri:List Int:=j9 1 (pP 65000 9 [0,0,0,IntKind.u8.wrap 200,0])++j9 4 []
def uJ:List kC:=[⟨0,1,[]⟩,⟨0,2,yy⟩]
theorem Sq:p9 100 9 65000 200 0 nH uJ=(⟨3,9,0,0,[]⟩,ri,false):=by rfl
def qE (w:World) (sp:Nat) (s:SV) (K:Nat→Prop):Prop:=∃d,rf w sp 1 0 65000 200 d K∧(d 0).s=s∧(d 0).p.au=100∧(d 0).p.hold=9∧(s.st=0→(d 0).v=.slice none 0 0)
theorem qE.keep{w w':World}{sp:Nat}{s:SV}{K a:Nat→Prop}(h:qE w sp s K)(hB:∀b,b<w.heap.size→w'.heap[b]?=w.heap[b]?)(c:w.heap.size≤w'.heap.size)(e:∀b,a b→K b∨(w.heap.size≤b∧b<w'.heap.size)):qE w' sp s a:=by
 obtain⟨d,f,g⟩:=h;exact⟨d,f.keep (fun b hb=>⟨fun _=>.inr (hB b hb),fun _=>hB b hb⟩) c e,g⟩
variable {w:World} {sp:Nat} {K:Nat→Prop}
theorem qE.state{s:SV}(h:qE w sp s K)(T:Tape):Calls Tryz.prog 18 #[.pointer (some ⟨sp,0,none⟩),.int .i64 0] (again w T) fun e w'=>e=.returned (.int .i64 s.st)∧w'=again w T:=by
 obtain⟨d,⟨_,h|⟨_,xb,xc,Z,a,_⟩⟩,c,_⟩:=h
 ·exact absurd h.1 (by decide)
 ·obtain⟨C,hC,hF⟩:=a.ss.blk;refine Es (again w T) sp xb 1 xc 0 s.st ((nv w T _).trans (jV a.j3 1)) (by decide) ((nv w T _).trans ((jV hC _).trans ((hF.at_ 0 (by decide) 9 (by decide)).trans ?_)));rw[←c];rfl
theorem Sr{B q qc g1 g2:Nat}(a:oI w B q qc g1 g2 9 1 0):Calls Tryz.prog 20 #[.agg #[.int .i64 65000,.int .u32 200,.int .u32 168430090,.slice (some ⟨q,0,none⟩) 1 qc]] w fun e w'=>∃sp,e=.returned (.tuple #[.pointer (some ⟨sp,0,none⟩),.agg #[.int .i64 0,.int .i64 0]])∧Below w.heap.size w w'∧qE w' sp nH (fun b=>b<w.heap.size):=by
 have hr:∀g,o9 w g→mc w (.slice (some ⟨g,0,none⟩) 1 1) 1 fun _=>⟨true,0,0,0,32⟩:=fun g j=>⟨⟨_,_,rfl,dx _,by decide,fun _=>⟨g,0,rfl,fun i c k u hu=>by
  obtain rfl:i=0:=by omega
  simp only[eo,dB];rw[jI _ _ _ _ _ _ j];exact(fR ..).trans hu⟩⟩,fun _ _=>⟨Int.le_refl 0,by show(0:Int)<4294967296;decide⟩⟩
 refine(Fq 65000 200 168430090 (some ⟨q,0,none⟩) 1 qc (fun _=>⟨100,9,1,100,0,.slice (some ⟨g1,0,none⟩) 1 1,1,fun _=>⟨true,0,0,0,32⟩,.slice (some ⟨g2,0,none⟩) 1 1,1,fun _=>⟨true,0,0,0,32⟩⟩) w ⟨⟨_,_,rfl,a.c1,a.c2,fun _=>⟨q,0,rfl,fun i c k u hu=>by
  obtain rfl:i=0:=by omega
  simp only[eo,dB];exact a.cell k u hu⟩⟩,fun _ _=>⟨hr g1 a.r1,hr g2 a.r2⟩⟩).mono ?_
 rintro e w' ⟨p,rfl,hB,h⟩;have l:mR 65000 200 1 (fun _=>(⟨100,9,1,100,0,.slice (some ⟨g1,0,none⟩) 1 1,1,fun _=>⟨true,0,0,0,32⟩,.slice (some ⟨g2,0,none⟩) 1 1,1,fun _=>⟨true,0,0,0,32⟩⟩:Pr))=(0,0):=by rfl
 rw[l]at h ⊢;rcases h with⟨h,_⟩|⟨_,_,sp,sv,rfl,j3,hb,⟨h,_⟩|⟨xb,xc,Z,pz,_,rfl,hx,d,m,hp,f⟩⟩
 ·exact absurd rfl h
 ·exact absurd h (by decide)
 have o:=hB.size;exact⟨sp,rfl,hB,fun i=>pb (pz i),⟨fun b n=>⟨by omega,by omega⟩,.inr ⟨by decide,xb,xc,Z,⟨hb,m,d,fun i c h=>(f i c sp (vu h)).2 rfl⟩,fun b n=>⟨by omega,fun i c h=>by have:=(f i c b (vu h)).1;omega⟩⟩⟩,rfl,(hp 0 (by decide)).1,(hp 0 (by decide)).2,fun _=>rfl⟩
variable {cs:List Frame} {Q:Frame→List Frame→World→Prop} {jb jc:Nat}
theorem Ss{c:Frame}{o:List Frame}{D:Frame}{ac:Act}{ops:Array Oper}{i:Nat}{l:List Nat}{kk:List Item}(m:c=D.at ac (.inRegion ops (i::l)::kk))(hS:qE w sp nH K)(n:K jb)(i0:pI w jb 0 0 1 [])(i1:pI w jb (0+3) 0 2 yy)(k:∀w' nb nc,qE w' sp ⟨3,9,0,0,[]⟩ K→w'.cell? ⟨nb,0,none⟩=some (.int .i64 0)→w'.cell? ⟨nb,1,none⟩=some (.string (strOfNums ri))→w'.cell? ⟨nb,2,none⟩=some (.bool false)→(∀b,K b→w'.heap[b]?=w.heap[b]?)→GX cs Q (c.finish (.slice (some ⟨nb,0,none⟩) 1 nc)) o w'):GX cs Q ((base 17).at { tmps:=#[.pointer (some ⟨sp,0,none⟩),.int .i64 0,.slice (some ⟨jb,0,none⟩) 2 jc]++Array.replicate 19 undef,defers:=[] } [.code (Tryz.f17.body.getD .skip)]) (c::o) w:=by
 obtain⟨d,E,p,q,f,F⟩:=hS;have z:∀{i:Nat},i<1→i=0:=fun h=>by omega
 have r:mA 65000 200 (mh 0 0) d (fun i=>kU i uJ) 0=(⟨3,9,0,0,[]⟩,ri,false):=by
  unfold mA;rw[p,q,f];exact Sq
 refine E8 m E (by decide) (by decide) (t:=0) (by decide) (fun i G=>?_) (ins:=uJ) ⟨some ⟨jb,0,none⟩,jb,0,jc,rfl,fun _=>rfl,fun _=>n,fun j x hx=>?_⟩ (by decide) (fun x hx=>?_) (fun w' s d' H I J L=>?_)
 ·obtain rfl:=z G;exact⟨p▸wW,fun _=>F rfl,by rw[f];decide,by rw[f];decide⟩
 ·match j,hx with
  |0,hx=>cases hx;exact i0
  |1,hx=>cases hx;exact i1
  |j+2,hx=>simp[uJ]at hx
 ·have h:∀x∈uJ,(∀y∈x.d,0≤y∧y<256)∧x.d.length≤1152921504606846976:=by decide
  exact h x hx
 obtain⟨A,M,N,_⟩:=I 0 (by decide);obtain⟨g,cap,ao,B,C,hb,a⟩:=E5 J;have hp:kV (fun i=>(mA 65000 200 (mh 0 0) d (fun i=>kU i uJ) i).2) 1=[0]:=by
  simp only[kV,r];rfl
 rw[hp]at B C a;obtain rfl:=C (by simp);obtain rfl:=B;have e:∀j u,(qC (fun i=>(mA 65000 200 (mh 0 0) d (fun i=>kU i uJ) i).2) 0)[j]?=some u→w'.cell? ⟨g,j,none⟩=some u:=fun j u h=>by have:=a 0 0 rfl j u h;rwa[Nat.mul_zero,dB]at this
 unfold qC at e;simp only[r]at e A;exact k w' g cap ⟨d',H,A,M.trans q,N.trans f,fun h=>absurd h (by decide)⟩ (e 0 _ rfl) (e 1 _ rfl) (e 2 _ rfl) L
noncomputable def qF:Code:=match Tryz.f14.body with|some (.seq _ (.seq _ (.seq _ (.seq _ (.seq _ r)))))=>r|_=>.skip
variable {xs:List Frame}
theorem Su(E:∀(a:Act)(w':World)(sp jb jc:Nat)(K:Nat→Prop),a.defers=[]→a.tmps.size=83→a.tmps[0]?=some (.int .i64 1)→a.tmps[1]?=some (.int .i64 9)→a.tmps[9]?=some (.pointer (some ⟨sp,0,none⟩))→a.tmps[11]?=some (.slice (some ⟨jb,0,none⟩) 2 jc)→qE w' sp nH K→K jb→pI w' jb 0 0 1 []→pI w' jb (0+3) 0 2 yy→(∀b,b<w.heap.size→K b∧w'.heap[b]?=w.heap[b]?) →
   GX cs Q ((base 14).at a [.code qF]) xs w'):GX cs Q ((base 14).at { tmps:=#[.int .i64 1,.int .i64 9,.int .i64 1,.int .i64 0]++Array.replicate 79 undef,defers:=[] } [.code (Tryz.f14.body.getD .skip)]) xs w:=by
 have G:Hid (_):=E;clear E
 (have H:=nL;have I:=oX;have J:=oi;have L:=nv;have M:=nM;have N:=nN);simp only[Tryz.f14,ez];walk_nrm;refine GX.seq ?_
 ((refine GX.region ?_);walk_nrm)
 ((refine GX.v rfl rfl (by kernel_rfl) (fun T K d=>?_));unfold execOp;go_simp;(refine d _ _ ?_);clear d K;(refine GX.jZ (v:=w) ?_ rfl rfl);clear T;walk_nrm);refine GX.kE ?_;refine GX.seq ?_
 ((refine GX.region ?_);walk_nrm)
 iterate 4 ((refine GX.v rfl rfl (by kernel_rfl) (fun T K d=>?_));unfold execOp;go_simp;(refine d _ _ ?_);clear d K;(refine GX.jZ (v:=w) ?_ rfl rfl);clear T;walk_nrm)
 refine GX.c rfl rfl (by kernel_rfl) (fun T K d=>?_);unfold execOp;go_simp;refine d _ _ _ (fun z=>?_);clear d K;refine js (RP _ 9 1 0) ?_;rintro e w1 ⟨q,qc,g1,g2,rfl,O,o⟩;refine⟨_,rfl,?_⟩;walk_nrm;refine GX.c rfl rfl (by kernel_rfl) (fun T K d=>?_);unfold execOp;go_simp;refine d _ _ _ (fun z=>?_);clear d K;refine js (Sr (B:=w.heap.size) (w:=again w1 z) (O.keep fun b _ _=>rfl)) ?_;rintro e w2 ⟨sp,rfl,p,hS⟩;refine⟨_,rfl,?_⟩;walk_nrm
 iterate 3 ((refine GX.v rfl rfl (by kernel_rfl) (fun T K d=>?_));unfold execOp;go_simp;(refine d _ _ ?_);clear d K;(refine GX.jZ (v:=w2) ?_ rfl rfl);clear T;walk_nrm)
 iterate 2 ((refine GX.v rfl rfl (by kernel_rfl) (fun T K d=>?_));unfold execOp;go_simp;(refine d _ _ ?_);clear d K;(refine GX.jZ (v:=(w2.alloc (.cells #[.int .i64 0,.int .i64 0] 50))) ?_ rfl rfl);clear T;walk_nrm)
 refine GX.u rfl rfl (by kernel_rfl) (fun T K d=>?_);unfold execOp;go_simp;refine d _ ?_;clear d K;refine GX.jZ (v:=(((w2.alloc (.cells #[.int .i64 0,.int .i64 0] 50)).setCell ⟨w2.heap.size,0,none⟩ (.int .i64 0)).setCell ⟨w2.heap.size,1,none⟩ (.int .i64 0))) ?_ rfl rfl;clear T;have D:(((w2.alloc (.cells #[.int .i64 0,.int .i64 0] 50)).setCell ⟨w2.heap.size,0,none⟩ (.int .i64 0)).setCell ⟨w2.heap.size,1,none⟩ (.int .i64 0)).heap.size=w2.heap.size+1:=by simp
 have hF:(((w2.alloc (.cells #[.int .i64 0,.int .i64 0] 50)).setCell ⟨w2.heap.size,0,none⟩ (.int .i64 0)).setCell ⟨w2.heap.size,1,none⟩ (.int .i64 0)).heap[w2.heap.size]?=some (.cells #[.int .i64 0,.int .i64 0] 50 (0,0)):=by
  rw[lj (lj (jl w2 _) 0 _) 1 _];rfl
 have r:∀b,b<w2.heap.size→(((w2.alloc (.cells #[.int .i64 0,.int .i64 0] 50)).setCell ⟨w2.heap.size,0,none⟩ (.int .i64 0)).setCell ⟨w2.heap.size,1,none⟩ (.int .i64 0)).heap[b]?=w2.heap[b]?:=fun b hb=>by
  rw[kn (by omega) 1 _,kn (by omega) 0 _];exact Go.heap_alloc_old w2 _ hb
 generalize(((w2.alloc (.cells #[.int .i64 0,.int .i64 0] 50)).setCell ⟨w2.heap.size,0,none⟩ (.int .i64 0)).setCell ⟨w2.heap.size,1,none⟩ (.int .i64 0))=w3 at D hF r ⊢;have R:=jV hF 0;have S:=jV hF 1;simp at R S;walk_nrm;refine GX.kE ?_;refine GX.seq ?_;refine GX.seq ?_
 ((refine GX.region ?_);walk_nrm)
 iterate 7 ((refine GX.v rfl rfl (by kernel_rfl) (fun T K d=>?_));unfold execOp;go_simp;(refine d _ _ ?_);clear d K;(refine GX.jZ (v:=w3) ?_ rfl rfl);clear T;walk_nrm)
 refine GX.kE ?_;refine GX.cond (t:=false) (by kernel_rfl) rfl ?_;simp only[dG,dh];refine GX.pj ?_;refine GX.seq ?_
 ((refine GX.region ?_);walk_nrm)
 iterate 1 ((refine GX.v rfl rfl (by kernel_rfl) (fun T K d=>?_));unfold execOp;go_simp;(refine d _ _ ?_);clear d K;(refine GX.jZ (v:=w3) ?_ rfl rfl);clear T;walk_nrm)
 refine GX.kE ?_;refine GX.seq ?_;refine GX.seq ?_
 ((refine GX.region ?_);walk_nrm)
 ((refine GX.v rfl rfl (by kernel_rfl) (fun T K d=>?_));unfold execOp;go_simp;(refine d _ _ ?_);clear d K;(refine GX.jZ (v:=w3) ?_ rfl rfl);clear T;walk_nrm);refine GX.kE ?_;refine GX.block ?_;refine GX.loop ?_;refine GX.seq ?_;refine GX.seq ?_
 ((refine GX.region ?_);walk_nrm)
 iterate 3 ((refine GX.v rfl rfl (by kernel_rfl) (fun T K d=>?_));unfold execOp;go_simp;(refine d _ _ ?_);clear d K;(refine GX.jZ (v:=w3) ?_ rfl rfl);clear T;walk_nrm)
 refine GX.kE ?_;refine GX.cond (t:=true) (by kernel_rfl) rfl ?_;simp only[dg];refine GX.pj ?_;refine GX.seq ?_;refine GX.block ?_
 ((refine GX.region ?_);walk_nrm)
 iterate 9 ((refine GX.v rfl rfl (by kernel_rfl) (fun T K d=>?_));unfold execOp;go_simp;(refine d _ _ ?_);clear d K;(refine GX.jZ (v:=w3) ?_ rfl rfl);clear T;walk_nrm)
 rw[show IntKind.i64.wrap 100=100 from rfl,show IntKind.i64.wrap 1=1 from rfl];refine GX.c rfl rfl (by kernel_rfl) (fun T K d=>?_);unfold execOp;go_simp;refine d _ _ _ (fun z=>?_);clear d K;refine js (Fs 100 9 1 _) ?_;rintro e w4 ⟨rfl,s⟩;refine⟨_,rfl,?_⟩;walk_nrm;refine GX.c rfl rfl (by kernel_rfl) (fun T K d=>?_);unfold execOp;go_simp;refine d _ _ _ (fun z=>?_);clear d K;refine js (Dq _) ?_;rintro e g ⟨rfl,x⟩;refine⟨_,rfl,?_⟩;walk_nrm;have V:=qW
 iterate 2 ((refine GX.v rfl rfl (by kernel_rfl) (fun T K d=>?_));unfold execOp;go_simp;(refine d _ _ ?_);clear d K;(refine GX.jZ (v:=g) ?_ rfl rfl);clear T;walk_nrm)
 refine GX.v rfl rfl (by kernel_rfl) (fun T K d=>?_);unfold execOp;go_simp;refine d _ _ ?_;clear d K;refine GX.jZ (v:=(g.alloc (.cells #[.int .i64 0,.int .i64 1,.string ⟨#[]⟩,.int .i64 0,.int .i64 2,.string (strOfNums (j9 1 (pP 100 9 [0,0,0,IntKind.u8.wrap 1,0])++j9 4 []))] 43))) ?_ rfl rfl;clear T;have hI:(g.alloc (.cells #[.int .i64 0,.int .i64 1,.string ⟨#[]⟩,.int .i64 0,.int .i64 2,.string (strOfNums (j9 1 (pP 100 9 [0,0,0,IntKind.u8.wrap 1,0])++j9 4 []))] 43)).heap[g.heap.size]?=some (.cells #[.int .i64 0,.int .i64 1,.string ⟨#[]⟩,.int .i64 0,.int .i64 2,.string (strOfNums (j9 1 (pP 100 9 [0,0,0,IntKind.u8.wrap 1,0])++j9 4 []))] 43 (0,0)):=jl g _;have l:Below g.heap.size g (g.alloc (.cells #[.int .i64 0,.int .i64 1,.string ⟨#[]⟩,.int .i64 0,.int .i64 2,.string (strOfNums (j9 1 (pP 100 9 [0,0,0,IntKind.u8.wrap 1,0])++j9 4 []))] 43)):=(iD _ _).alloc (dx _) _;generalize(g.alloc (.cells #[.int .i64 0,.int .i64 1,.string ⟨#[]⟩,.int .i64 0,.int .i64 2,.string (strOfNums (j9 1 (pP 100 9 [0,0,0,IntKind.u8.wrap 1,0])++j9 4 []))] 43))=f at hI l ⊢;walk_nrm;obtain⟨i2,z2,A,W⟩:=Ep;have i:=fun T:Tape=>run_append_nil (P:=Tryz.prog) (w:=again f T) 44 44 43 i2 z2 Tryz.underlying44 A.info A.zero ⟨g.heap.size,0,none⟩ 2 2 (#[.int .i64 0,.int .i64 1,.string ⟨#[]⟩,.int .i64 0,.int .i64 2,.string (strOfNums (j9 1 (pP 100 9 [0,0,0,IntKind.u8.wrap 1,0])++j9 4 []))]).toList (by rw[A.size];rfl) (fun j u hu=>by
  rw[show(⟨g.heap.size,0,none⟩:Addr).add j=⟨g.heap.size,j,none⟩ from by simp[iS]];exact(jV (w:=again f T) hI j).trans (by simpa using hu)) (by decide) (by decide) (by rw[A.bytes];decide)
 refine GX.append rfl rfl (by kernel_rfl) (.tmp 37) (.tmp 50) 44 rfl rfl rfl (fun T=>⟨_,_,i T,?_⟩);clear i;have C:((again f T).drew.alloc (.cells ((#[.int .i64 0,.int .i64 1,.string ⟨#[]⟩,.int .i64 0,.int .i64 2,.string (strOfNums (j9 1 (pP 100 9 [0,0,0,IntKind.u8.wrap 1,0])++j9 4 []))]:Array Value).toList.toArray++Builtin.zeroCells z2.cells (grownCap (again f T) 2 0 43-2)) 43)).heap[f.heap.size]?=some (.cells _ 43 (0,0)):=jl (again f T).drew _;have m:Old f ((again f T).drew.alloc (.cells ((#[.int .i64 0,.int .i64 1,.string ⟨#[]⟩,.int .i64 0,.int .i64 2,.string (strOfNums (j9 1 (pP 100 9 [0,0,0,IntKind.u8.wrap 1,0])++j9 4 []))]:Array Value).toList.toArray++Builtin.zeroCells z2.cells (grownCap (again f T) 2 0 43-2)) 43)):=⟨rfl,by rw[iI];exact dM _,fun b hb=>Go.heap_alloc_old (again f T).drew _ hb⟩;generalize((again f T).drew.alloc (.cells ((#[.int .i64 0,.int .i64 1,.string ⟨#[]⟩,.int .i64 0,.int .i64 2,.string (strOfNums (j9 1 (pP 100 9 [0,0,0,IntKind.u8.wrap 1,0])++j9 4 []))]:Array Value).toList.toArray++Builtin.zeroCells z2.cells (grownCap (again f T) 2 0 43-2)) 43))=y at C m ⊢;rw[show(again f T).heap.size=f.heap.size from rfl];generalize grownCap (again f T) 2 0 43=jc at C ⊢;walk_nrm
 ((refine GX.v rfl rfl (by kernel_rfl) (fun T K d=>?_));unfold execOp;go_simp;(refine d _ _ ?_);clear d K;(refine GX.jZ (v:=y) ?_ rfl rfl);clear T;walk_nrm);refine GX.kE ?_;refine GX.inBlock ?_
 ((refine GX.region ?_);walk_nrm)
 iterate 3 ((refine GX.v rfl rfl (by kernel_rfl) (fun T K d=>?_));unfold execOp;go_simp;(refine d _ _ ?_);clear d K;(refine GX.jZ (v:=y) ?_ rfl rfl);clear T;walk_nrm)
 refine GX.kE ?_;refine GX.inLoop ?_;refine GX.seq ?_;refine GX.seq ?_
 ((refine GX.region ?_);walk_nrm)
 iterate 3 ((refine GX.v rfl rfl (by kernel_rfl) (fun T K d=>?_));unfold execOp;go_simp;(refine d _ _ ?_);clear d K;(refine GX.jZ (v:=y) ?_ rfl rfl);clear T;walk_nrm)
 refine GX.kE ?_;refine GX.cond (t:=false) (by kernel_rfl) rfl ?_;simp only[dG,dh];refine GX.exit rfl ?_;have s1:w.heap.size≤w1.heap.size:=o.size;have s2:w1.heap.size≤w2.heap.size:=p.size;have X:w3.heap.size≤w4.heap.size:=s.size;have Y:w4.heap.size≤g.heap.size:=x.size;have Z:=l.size;have s7:=m.size;have F:∀b,b<w2.heap.size→y.heap[b]?=w2.heap[b]?:=fun b hb=>(m.block b (by omega)).trans ((l.block b (by omega)).trans ((x.block b (by show b<w4.heap.size;omega)).trans ((s.block b (by show b<w3.heap.size;omega)).trans (r b hb))))
 have lJ:=(dp.1 C).1;have n:∀j,j<6→y.cell? ⟨f.heap.size,j,none⟩=(#[.int .i64 0,.int .i64 1,.string ⟨#[]⟩,.int .i64 0,.int .i64 2,.string (strOfNums (j9 1 (pP 100 9 [0,0,0,IntKind.u8.wrap 1,0])++j9 4 []))]:Array Value)[j]?:=fun j U=>(jV C j).trans (gE (by simpa using U))
 have h:=G.out;unfold qF at h;simp only[Tryz.f14]at h;refine h _ _ sp f.heap.size jc (fun b=>b<w1.heap.size∨b=f.heap.size) rfl rfl rfl rfl rfl rfl (hS.keep F (by omega) fun b hb=>hb.imp_right fun e=>?_) (.inr rfl) ⟨n 0 (by decide),n 1 (by decide),n 2 (by decide)⟩ ⟨n 3 (by decide),n 4 (by decide),n 5 (by decide)⟩ fun b hb=>⟨.inl (by omega),(F b (by omega)).trans ((p.block b (by show b<w1.heap.size;omega)).trans (o.block b hb))⟩
 omega
noncomputable def pd:Code:=match qF with | .seq _ (.seq _ (.seq (.seq _ (.block _ (.loop c))) _))=>c|_=>.skip
noncomputable def sF:Code:=match qF with | .seq _ (.seq _ (.seq _ r))=>r|_=>.skip
theorem Sv{a:Act}(e:a.defers=[])(hsz:a.tmps.size=83)(f0:a.tmps[0]?=some (.int .i64 1))(f1:a.tmps[1]?=some (.int .i64 9))(f9:a.tmps[9]?=some (.pointer (some ⟨sp,0,none⟩)))(f11:a.tmps[11]?=some (.slice (some ⟨jb,0,none⟩) 2 jc))(hS:qE w sp nH K)(f:K jb)(i0:pI w jb 0 0 1 [])(i1:pI w jb (0+3) 0 2 yy)(j:∀(a:Act)(w':World) nb nc,a.defers=[]→a.tmps.size=83→a.tmps[0]?=some (.int .i64 1)→a.tmps[1]?=some (.int .i64 9)→a.tmps[9]?=some (.pointer (some ⟨sp,0,none⟩))→a.tmps[13]?=some (.slice (some ⟨nb,0,none⟩) 1 nc)→a.tmps[14]?=some (.int .i64 0)→w'.cell? ⟨nb,0,none⟩=some (.int .i64 0)→w'.cell? ⟨nb,1,none⟩=some (.string (strOfNums ri))→w'.cell? ⟨nb,2,none⟩=some (.bool false)→qE w' sp ⟨3,9,0,0,[]⟩ K→(∀b,K b→w'.heap[b]?=w.heap[b]?) →
   GX cs Q ((base 14).at a [.code pd,.inLoop pd,.inBlock 2,.code sF]) xs w'):GX cs Q ((base 14).at a [.code qF]) xs w:=by
 have l:Hid (_):=j;have m:Hid (_):=hS;have n:Hid (_):=f;have g:Hid (_):=i0;have h:Hid (_):=i1;clear j hS f i0 i1;obtain⟨tm,df⟩:=a;simp only at e hsz f0 f1 f9 f11;subst e;obtain⟨k0,k1,k2,k3,k4,k5,k6,k7,k8,k9,u,x,y,z,A,B,C,D,E,F,G,H,I,J,L,M,N,O,P,R,S,U,V,W,X,Y,Z,aa,ab,ad,ae,af,ag,ah,ai,aj,ak,al,am,an,ao,ap,aq,ar,au,av,aw,ax,ay,az,aA,aB,aC,aD,aE,aF,aG,aH,aI,aJ,aK,aL,aM,aN,aO,aP,aQ,aR,aS,aT,aU,aV,aW,rfl⟩:=Aa hsz;simp only[fR,gx,fS,dR]at f0 f1 f9 f11;subst f0 f1 f9 f11;clear hsz
 (have aX:=nL;have aY:=oX;have aZ:=oi;have a0:=nv;have a1:=nM;have a2:=nN);have c:=l.out;clear l;have HF:Hid (_):=c;clear c;unfold qF;simp only[Tryz.f14];refine GX.seq ?_
 ((refine GX.region ?_);walk_nrm)
 iterate 2 ((refine GX.v rfl rfl (by kernel_rfl) (fun T K d=>?_));unfold execOp;go_simp;(refine d _ _ ?_);clear d K;(refine GX.jZ (v:=w) ?_ rfl rfl);clear T;walk_nrm)
 refine GX.Db rfl rfl rfl (by kernel_rfl) rfl rfl rfl ?_;refine Ss rfl m.out n.out g.out h.out (fun w2 nb nc o p q r s=>?_);rw[zZ rfl];clear m n g h;have H1:Hid (_):=o;have H4:Hid (_):=s;have i:Hid (w2.cell? ⟨nb,0,none⟩=some (.int .i64 0)∧w2.cell? ⟨nb,1,none⟩=some (.string (strOfNums ri))∧w2.cell? ⟨nb,2,none⟩=some (.bool false)):=⟨p,q,r⟩;clear o s p q r;walk_nrm
 ((refine GX.v rfl rfl (by kernel_rfl) (fun T K d=>?_));unfold execOp;go_simp;(refine d _ _ ?_);clear d K;(refine GX.jZ (v:=w2) ?_ rfl rfl);clear T;walk_nrm);refine GX.kE ?_;refine GX.seq ?_;refine GX.seq ?_
 ((refine GX.region ?_);walk_nrm)
 iterate 4 ((refine GX.v rfl rfl (by kernel_rfl) (fun T K d=>?_));unfold execOp;go_simp;(refine d _ _ ?_);clear d K;(refine GX.jZ (v:=w2) ?_ rfl rfl);clear T;walk_nrm)
 refine GX.kE ?_;refine GX.cond (t:=false) (by kernel_rfl) rfl ?_;simp only[dG,dh];refine GX.pj ?_;refine GX.seq ?_;refine GX.seq ?_
 ((refine GX.region ?_);walk_nrm)
 ((refine GX.v rfl rfl (by kernel_rfl) (fun T K d=>?_));unfold execOp;go_simp;(refine d _ _ ?_);clear d K;(refine GX.jZ (v:=w2) ?_ rfl rfl);clear T;walk_nrm);refine GX.kE ?_;refine GX.block ?_;refine GX.loop ?_;have c:=HF.out;unfold pd sF qF at c;simp only[Tryz.f14]at c;exact c _ w2 nb nc rfl rfl rfl rfl rfl rfl rfl i.out.1 i.out.2.1 i.out.2.2 H1.out H4.out
theorem A4{w1 w':World}(hB:Below w1.heap.size w1 w')(e:w1.heap=w.heap:=by rfl):Below w.heap.size w { w with heap:=w'.heap }:=⟨rfl,rfl,rfl,by rw[←e];exact hB.size,fun k a=>by rw[←e]at a ⊢;exact hB.block k a⟩
noncomputable def pf:Array Oper:=match pd with | .seq _ (.seq (.block _ (.seq _ (.seq (.region _ ops _) _))) _)=>ops|_=>#[]
def na (nb nc:Nat):Nat→Value→World→Prop
 |0,v,_=>v=.slice (some ⟨nb,0,none⟩) 1 nc
 |1,v,_=>v=.int .i64 0
 |2,v,_=>v=.pointer (some ⟨nb,0,none⟩)
 |3,v,_=>v=.agg #[.int .i64 0,.string (strOfNums ri),.bool false]
 |4,v,_=>v=.int .i64 0
 |5,v,_=>v=.int .i64 9
 |6,v,_=>v=.string (strOfNums (j9 1 (pP 65000 9 [0,0,0,IntKind.u8.wrap 200,0])))
 |7,v,_=>v=.string (strOfNums (j9 4 []))
 |8,v,_=>v=.string (strOfNums ri)
 |9,v,_=>v=.agg #[.int .i64 0,.string (strOfNums ri),.bool false]
 |10,v,_=>v=.bool false
 |11,v,_=>v=.bool false
 |12,v,_=>v=.int .i64 3
 |13,v,_=>v=.bool false
 |_,_,_=>True
variable {nb nc:Nat}
theorem Sw(w w':World)(i:Nat)(u:Value)(hB:Below w.heap.size w w')(h:na nb nc i u w):na nb nc i u w':=by
 unfold na at h ⊢;split at h<;>exact h
theorem Sx:kH (strip pf) [0,1,9,13,14,15] 83=true:=by kernel_rfl
theorem Sy:lf (strip pf)=true:=by kernel_rfl
theorem Sz:pf.size=15:=by kernel_rfl
theorem SA:(pf[11]?).bind (·.dst)=some 78:=by kernel_rfl
variable {b:Frame} {k:List Item} {w0:World}
theorem SB(s:nb<w0.heap.size)(c0:w0.cell? ⟨nb,0,none⟩=some (.int .i64 0))(c1:w0.cell? ⟨nb,1,none⟩=some (.string (strOfNums ri)))(c2:w0.cell? ⟨nb,2,none⟩=some (.bool false))(i:Nat)(o:Oper)(a:Act)(w:World)(l:List Nat)(L:i<14)(z:pf[i]?=some o)(f1:a.tmps[1]?=some (.int .i64 9))(f13:a.tmps[13]?=some (.slice (some ⟨nb,0,none⟩) 1 nc))(f14:a.tmps[14]?=some (.int .i64 0))(f15:a.tmps[15]?=some (.int .i64 3))(g:∀(j:Nat)(o':Oper)(d:Nat),pf[j]?=some o'→o'.dst=some d→(∃e∈o.after,e.on=j∧Region.binds .any e=true)→∃v,a.tmps[d]?=some v∧na nb nc j v w)(A:Below w0.heap.size w0 w)(m:∀v w',na nb nc i v w'→Below w.heap.size w w'→GX cs Q (b.at (a.put o.dst v) (.inRegion pf l::k)) xs w'):GX cs Q (b.at a (.inRegion pf (i::l)::k)) xs w:=by
 have n:=z;have M:=(A.cell (p:=⟨nb,0,none⟩) s).trans c0;have N:=(A.cell (p:=⟨nb,1,none⟩) s).trans c1;have O:=(A.cell (p:=⟨nb,2,none⟩) s).trans c2;have x:=SA;have D:=nL;have E:=oi;have F:=nv;have G:=nM;have H:=nN;have P:=qW;clear c0 c1 c2;obtain rfl|rfl|rfl|rfl|rfl|rfl|rfl|rfl|rfl|rfl|rfl|rfl|rfl|rfl:i=0∨i=1∨i=2∨i=3∨i=4∨i=5∨i=6∨i=7∨i=8∨i=9∨i=10∨i=11∨i=12∨i=13:=by omega
 all_goals
  simp only[pf,pd,qF,Tryz.f14]at z;simp at z;subst z
 ·refine GX.v n rfl (by kernel_rfl) (fun T K f=>?_);unfold execOp;simp only[Act.eval,du,f13,ez];go_simp;exact f _ _ (GX.jZ (m _ _ rfl (iD _ _)) rfl rfl)
 ·refine GX.v n rfl (by kernel_rfl) (fun T K f=>?_);unfold execOp;simp only[Act.eval,du,f14,ez];go_simp;exact f _ _ (GX.jZ (m _ _ rfl (iD _ _)) rfl rfl)
 ·obtain⟨t,q,h⟩:=g 0 _ _ rfl rfl ⟨⟨0,.data⟩,by simp,rfl,rfl⟩;simp only[na]at h
  try subst h
  obtain⟨B,u,r⟩:=g 1 _ _ rfl rfl ⟨⟨1,.data⟩,by simp,rfl,rfl⟩;simp only[na]at r
  try subst r
  refine GX.v n rfl (by kernel_rfl) (fun T K f=>?_);unfold execOp;simp only[Act.eval,du,q,u,ez];go_simp;exact f _ _ (GX.jZ (m _ _ rfl (iD _ _)) rfl rfl)
 ·obtain⟨t,q,h⟩:=g 2 _ _ rfl rfl ⟨⟨2,.data⟩,by simp,rfl,rfl⟩;simp only[na]at h
  try subst h
  refine GX.v n rfl (by kernel_rfl) (fun T K f=>?_);unfold execOp;simp only[Act.eval,du,q,ez];go_simp;exact f _ _ (GX.jZ (m _ _ rfl (iD _ _)) rfl rfl)
 ·refine GX.v n rfl (by kernel_rfl) (fun T K f=>?_);unfold execOp;simp only[Act.eval,du,f14,ez];go_simp;exact f _ _ (GX.jZ (m _ _ rfl (iD _ _)) rfl rfl)
 ·refine GX.v n rfl (by kernel_rfl) (fun T K f=>?_);unfold execOp;simp only[Act.eval,du,f1,ez];go_simp;exact f _ _ (GX.jZ (m _ _ rfl (iD _ _)) rfl rfl)
 ·obtain⟨t,q,h⟩:=g 5 _ _ rfl rfl ⟨⟨5,.data⟩,by simp,rfl,rfl⟩;simp only[na]at h
  try subst h
  refine GX.c n rfl (by kernel_rfl) (fun T K f=>?_);unfold execOp;simp only[];go_simp;refine f _ _ _ (fun I=>js (Fs 65000 9 200 _) ?_);rintro e w' ⟨rfl,hB⟩;exact⟨_,rfl,GX.jZ (m _ _ rfl (A4 hB)) rfl hB.os.symm⟩
 ·refine GX.c n rfl (by kernel_rfl) (fun T K f=>?_);unfold execOp;go_simp;refine f _ _ _ (fun I=>js (Dq _) ?_);rintro e w' ⟨rfl,hB⟩;exact⟨_,rfl,GX.jZ (m _ _ rfl (A4 hB)) rfl hB.os.symm⟩
 ·obtain⟨t,q,h⟩:=g 6 _ _ rfl rfl ⟨⟨6,.data⟩,by simp,rfl,rfl⟩;simp only[na]at h
  try subst h
  obtain⟨B,u,r⟩:=g 7 _ _ rfl rfl ⟨⟨7,.data⟩,by simp,rfl,rfl⟩;simp only[na]at r
  try subst r
  refine GX.v n rfl (by kernel_rfl) (fun T K f=>?_);unfold execOp;simp only[Act.eval,du,q,u,ez];go_simp;exact f _ _ (GX.jZ (m _ _ rfl (iD _ _)) rfl rfl)
 ·obtain⟨t,q,h⟩:=g 4 _ _ rfl rfl ⟨⟨4,.data⟩,by simp,rfl,rfl⟩;simp only[na]at h
  try subst h
  obtain⟨B,u,r⟩:=g 8 _ _ rfl rfl ⟨⟨8,.data⟩,by simp,rfl,rfl⟩;simp only[na]at r
  try subst r
  refine GX.v n rfl (by kernel_rfl) (fun T K f=>?_);unfold execOp;simp only[Act.eval,du];go_simp;exact f _ _ (GX.jZ (m _ _ rfl (iD _ _)) rfl rfl)
 ·obtain⟨t,q,h⟩:=g 3 _ _ rfl rfl ⟨⟨3,.data⟩,by simp,rfl,rfl⟩;simp only[na]at h
  try subst h
  obtain⟨B,u,r⟩:=g 9 _ _ rfl rfl ⟨⟨9,.data⟩,by simp,rfl,rfl⟩;simp only[na]at r
  try subst r
  refine GX.v n rfl (by kernel_rfl) (fun T K f=>?_);unfold execOp;simp only[Act.eval,du,q,u,ez];go_simp;exact f _ _ (GX.jZ (m _ _ rfl (iD _ _)) rfl rfl)
 ·obtain⟨t,q,h⟩:=g 10 _ _ rfl rfl ⟨⟨10,.data⟩,by simp,rfl,rfl⟩;simp only[na]at h
  try subst h
  refine GX.v n rfl (by kernel_rfl) (fun T K f=>?_);unfold execOp;simp only[Act.eval,du,q,ez];go_simp;exact f _ _ (GX.jZ (m _ _ rfl (iD _ _)) rfl rfl)
 ·obtain⟨J,C,y⟩:=g 11 _ _ rfl rfl ⟨⟨11,.guard⟩,by simp,rfl,rfl⟩;simp only[na]at y;subst y;refine GX.v n (by simp[Region.wanted,yielded,x,C]) (by kernel_rfl) (fun T K f=>?_);unfold execOp;simp only[Act.eval,du,f15,ez];go_simp;exact f _ _ (GX.jZ (m _ _ rfl (iD _ _)) rfl rfl)
 ·obtain⟨J,C,y⟩:=g 11 _ _ rfl rfl ⟨⟨11,.guard⟩,by simp,rfl,rfl⟩;simp only[na]at y;subst y;obtain⟨t,q,h⟩:=g 12 _ _ rfl rfl ⟨⟨12,.data⟩,by simp,rfl,rfl⟩;simp only[na]at h
  try subst h
  refine GX.v n (by simp[Region.wanted,yielded,x,C]) (by kernel_rfl) (fun T K f=>?_);unfold execOp;simp only[Act.eval,du,q,ez];go_simp;exact f _ _ (GX.jZ (m _ _ rfl (iD _ _)) rfl rfl)
theorem SE(o:Oper)(a:Act)(w:World)(l:List Nat)(f:pf[14]?=some o)(c:∀(j:Nat)(o':Oper)(d:Nat),pf[j]?=some o'→o'.dst=some d→(∃e∈o.after,e.on=j∧Region.binds .any e=true)→∃v,a.tmps[d]?=some v∧na nb nc j v w)(m:Below w0.heap.size w0 w)(hsz:a.tmps.size=83)(n:∀v w',((a.put o.dst v).tmps[81]?=some (.bool false)∧Below w0.heap.size w0 w')→GX cs Q (b.at (a.put o.dst v) (.inRegion pf l::k)) xs w'):GX cs Q (b.at a (.inRegion pf (14::l)::k)) xs w:=by
 have p:=f;have q:Hid (_):=hsz;clear hsz;have r:=nL;have s:=nv;have t:=nM;have u:=nN;simp only[pf,pd,qF,Tryz.f14]at f;simp at f;subst f;obtain⟨z,x,h⟩:=c 11 _ _ rfl rfl ⟨⟨11,.data⟩,by simp,rfl,rfl⟩;simp only[na]at h
 try subst h
 obtain⟨A,y,i⟩:=c 13 _ _ rfl rfl ⟨⟨13,.data⟩,by simp,rfl,rfl⟩;simp only[na]at i
 try subst i
 refine GX.v p rfl (by kernel_rfl) (fun T K g=>?_);unfold execOp;simp only[Act.eval,du,x,y,ez];go_simp;refine g _ _ (GX.jZ (n (.bool false) _ ⟨?_,m⟩) rfl rfl);simp[Act.put,q.out]
end
end Go.Proofs.YtjnkcibpkkjniaaGreat.kj
