/- Proved: waypostkeep.Cuts answers true for every configuration, every list of ticks, all inputs and every number that can be read as data of bulk at most 1048576, on every schedule, and leaves them as they were; no condition of ours stands behind it. -/
import Derived.Test.YtjnkcibpkkjniaaGreatA00
import Derived.Test.YtjnkcibpkkjniaaGreatA14
import Derived.Deep.OwnRows
set_option linter.all false
set_option maxHeartbeats 4000000
set_option maxRecDepth 100000
namespace Go.Proofs.YtjnkcibpkkjniaaGreat.kN
section
open Go Go.Conc Go.RowKit Go.Proofs.YtjnkcibpkkjniaaGreat.kx
variable {pL:World→Prop} {w:World} {a:Act} {kL kM i jb jo ni ic k L jc:Nat} {tv v:Value} {at_:Int}
theorem Gs{r:Option Addr}(s:mH a tv (.slice (some ⟨jb,jo,none⟩) ni ic) at_ kL kM (i:Int))(f15:a.tmps[15]?=some v)(J:lu v=false)(f16:a.tmps[16]?=some (.int .i64 (k:Int)))(u:i<ni)(z:ni≤4398046511103)(K:w.cell? ⟨jb,jo+i,none⟩=some (.slice r L jc))(M:L≤4398046511103)(A:k≤L)(d:k=L→∀a',mH a' tv (.slice (some ⟨jb,jo,none⟩) ni ic) at_ kL kM (i:Int)→a'.tmps[15]?=some v→GX [] (qu pL) ((base 6).at a' (.code mP::.inBlock 1::.code nB::mf)) [] w)(hgo:k<L→∀a',mH a' tv (.slice (some ⟨jb,jo,none⟩) ni ic) at_ kL kM (i:Int)→a'.tmps[15]?=some v→a'.tmps[16]?=some (.int .i64 (k:Int))→GX [] (qu pL) ((base 6).at a' (.code wC::.inBlock 3::.code wD::pI)) [] w):GX [] (qu pL) ((base 6).at a (.code pH::pI)) [] w:=by
 have l:Hid (_):=d;have m:Hid (_):=hgo;have i0:(0:Int)≤(i:Int):=by omega
 have i1:(i:Int)<(ni:Int):=by omega
 clear d hgo
 (obtain⟨j,hsz,f1,f2,f3,f10,f12,f14⟩:=s;obtain⟨O,P⟩:=a;simp only at j hsz f1 f2 f3 f10 f12 f14 f15 f16;subst j;obtain⟨f,rfl⟩:=sT hsz;simp only[fV,gB,fW,dW]at f1 f2 f3 f10 f12 f14 f15 f16;simp only[f1,f2,f3,f10,f12,f14,f15,f16];clear hsz f1 f2 f3 f10 f12 f14 f15 f16)
 (have C:=nF;have D:=ow;have E:=nZ;have F:=m7;have G:=nG;have H:=nH)
 by_cases e:k<L
 ·have I:decide ((k:Int)<(L:Int))=true:=by simpa using e
  have q:decide (k<L)=true:=by simpa using e
  have o:Hid (_):=m.out e;clear l m;unfold pI mf mP;unfold pH nB nA;unfold lY nT;unfold mO;simp only[Tryz.f6];refine GX.seq ?_;refine GX.seq ?_
  ((refine GX.region ?_);walk_nrm)
  iterate 7 ((refine GX.vz w ?_);walk_nrm)
  refine GX.kT ?_;refine GX.cond (t:=true) (by kernel_rfl) rfl ?_;simp only[dn];refine GX.pd ?_;refine GX.seq ?_;refine GX.block ?_;have b:=o.out;unfold pI mf mP wC wD at b;unfold pH nB nA at b;unfold lY nT at b;unfold mO at b;simp only[Tryz.f6]at b;exact b _ ⟨rfl,rfl,rfl,rfl,rfl,rfl,rfl,rfl⟩ rfl rfl
 ·obtain rfl:k=L:=by omega
  have o:Hid (_):=l.out rfl;clear l m;unfold pI mf mP;unfold pH nB nA;unfold lY nT;unfold mO;simp only[Tryz.f6];refine GX.seq ?_;refine GX.seq ?_
  ((refine GX.region ?_);walk_nrm)
  iterate 7 ((refine GX.vz w ?_);walk_nrm)
  refine GX.kT ?_;refine GX.cond (t:=false) (by kernel_rfl) rfl ?_;simp only[dL,dp];refine GX.exit rfl ?_;have b:=o.out;unfold mf mP at b;unfold nB nA at b;unfold lY nT at b;unfold mO at b;simp only[Tryz.f6]at b;exact b _ ⟨rfl,rfl,rfl,rfl,rfl,rfl,rfl,rfl⟩ rfl
structure zi (w w':World) (B:Nat) (v v':Value) (pl qz:List ky):Prop where
 row:w'.ownsRow B 43 3 v' qz.length (lU qz)
 old:∀b,b<w.heap.size→v.ownBlock≠some b→w'.heap[b]?=w.heap[b]?
 le:w.heap.size≤w'.heap.size
variable {B vb vo:Nat} {pl:List ky} {x:ky}
theorem Uu(hA:mH a tv (.slice (some ⟨jb,jo,none⟩) ni ic) at_ kL kM (i:Int))(f15:a.tmps[15]?=some v)(f16:a.tmps[16]?=some (.int .i64 (k:Int)))(aa:i<ni)(ab:ni≤4398046511103)(O:w.cell? ⟨jb,jo+i,none⟩=some (.slice (some ⟨vb,vo,none⟩) L jc))(hL:L≤1048576)(ad:k<L)(hx:rS w vb (vo+k*3) x.pe x.k x.d)(q:x.k≠2)(H:w.ownsRow B 43 3 v pl.length (lU pl))(R:pl.length≤2*k)(C:B≤w.heap.size)(V:∀a' w' v',mH a' tv (.slice (some ⟨jb,jo,none⟩) ni ic) at_ kL kM (i:Int)→a'.tmps[15]?=some v'→a'.tmps[16]?=some (.int .i64 ((k+1:Nat):Int))→zi w w' B v v' pl (pl++[x])→GX [] (qu pL) ((base 6).at a' (.code pH::pI)) [] w'):GX [] (qu pL) ((base 6).at a (.code wC::.inBlock 3::.code wD::pI)) [] w:=by
 obtain⟨pe,kd,l⟩:=x;simp only at q;obtain⟨X,I,J⟩:=hx;simp only at X I J;have HK:Hid (_):=V;have i0:(0:Int)≤(i:Int):=by omega
 have i1:(i:Int)<(ni:Int):=by omega
 have k0:(0:Int)≤(k:Int):=by omega
 have k1:(k:Int)<(L:Int):=by omega
 have ae:IntKind.i64.wrap ((k:Int)+1)=((k+1:Nat):Int):=by rw[iC]<;>omega
 have af:decide (kd=2)=false:=by simpa using q
 have D:=jA H;have HR:Hid (_):=H;have Y:Hid (_):=D;have K:Hid (B≤w.heap.size∧pl.length≤2097152):=⟨C,by omega⟩;obtain⟨ao,S,rfl,_⟩:=mV H;clear V H D C R
 (obtain⟨E,hsz,f1,f2,f3,f10,f12,f14⟩:=hA;obtain⟨tm,df⟩:=a;simp only at E hsz f1 f2 f3 f10 f12 f14 f15 f16;subst E;obtain⟨f,rfl⟩:=sT hsz;simp only[fV,gB,fW,dW]at f1 f2 f3 f10 f12 f14 f15 f16;simp only[f1,f2,f3,f10,f12,f14,f15,f16];clear hsz f1 f2 f3 f10 f12 f14 f15 f16)
 (have ag:=nF;have ah:=ow;have ai:=nZ;have aj:=m7;have ak:=nG;have al:=nH);unfold pI mf mP wC wD;unfold pH nB nA;unfold lY nT;unfold mO;simp only[Tryz.f6];refine GX.seq ?_
 ((refine GX.region ?_);walk_nrm)
 iterate 7 ((refine GX.vz w ?_);walk_nrm)
 refine GX.vz (w.alloc (.cells #[.int .i64 0,.int .i64 0,.string ⟨#[]⟩] 43)) ?_;walk_nrm;refine GX.uz ((((w.alloc (.cells #[.int .i64 0,.int .i64 0,.string ⟨#[]⟩] 43)).setCell ⟨w.heap.size,0,none⟩ (.int .i64 pe)).setCell ⟨w.heap.size,1,none⟩ (.int .i64 kd)).setCell ⟨w.heap.size,2,none⟩ (.string (strOfNums l))) ?_;have r:((((w.alloc (.cells #[.int .i64 0,.int .i64 0,.string ⟨#[]⟩] 43)).setCell ⟨w.heap.size,0,none⟩ (.int .i64 pe)).setCell ⟨w.heap.size,1,none⟩ (.int .i64 kd)).setCell ⟨w.heap.size,2,none⟩ (.string (strOfNums l))).heap.size=w.heap.size+1:=by simp
 have hF:((((w.alloc (.cells #[.int .i64 0,.int .i64 0,.string ⟨#[]⟩] 43)).setCell ⟨w.heap.size,0,none⟩ (.int .i64 pe)).setCell ⟨w.heap.size,1,none⟩ (.int .i64 kd)).setCell ⟨w.heap.size,2,none⟩ (.string (strOfNums l))).heap[w.heap.size]?=some (.cells #[.int .i64 pe,.int .i64 kd,.string (strOfNums l)] 43 (0,0)):=by
  rw[lp (lp (lp (jL w _) 0 _) 1 _) 2 _];rfl
 have F:∀b,b<w.heap.size→((((w.alloc (.cells #[.int .i64 0,.int .i64 0,.string ⟨#[]⟩] 43)).setCell ⟨w.heap.size,0,none⟩ (.int .i64 pe)).setCell ⟨w.heap.size,1,none⟩ (.int .i64 kd)).setCell ⟨w.heap.size,2,none⟩ (.string (strOfNums l))).heap[b]?=w.heap[b]?:=fun b hb=>by
  rw[kA (by omega) 2 _,kA (by omega) 1 _,kA (by omega) 0 _];exact Go.heap_alloc_old w _ hb
 generalize((((w.alloc (.cells #[.int .i64 0,.int .i64 0,.string ⟨#[]⟩] 43)).setCell ⟨w.heap.size,0,none⟩ (.int .i64 pe)).setCell ⟨w.heap.size,1,none⟩ (.int .i64 kd)).setCell ⟨w.heap.size,2,none⟩ (.string (strOfNums l)))=w1 at r hF F ⊢;have Z:=kh hF 0;have y1:=kh hF 1;have y2:=kh hF 2;simp at Z y1 y2;have M:Hid (_):=r;clear O X I J hF r;walk_nrm;refine GX.kT ?_;refine GX.seq ?_;refine GX.seq ?_
 ((refine GX.region ?_);walk_nrm)
 iterate 3 ((refine GX.vz w1 ?_);walk_nrm)
 refine GX.kT ?_;refine GX.cond (t:=true) (by kernel_rfl) (dI Value.bool (by simp[q]:(!decide (kd=2))=true)) ?_;simp only[dn];refine GX.seq ?_
 ((refine GX.region ?_);walk_nrm)
 iterate 2 ((refine GX.vz w1 ?_);walk_nrm)
 refine GX.vz (w1.alloc (.cells #[.int .i64 pe,.int .i64 kd,.string (strOfNums l)] 43)) ?_;have hI:=jL w1 (.cells #[.int .i64 pe,.int .i64 kd,.string (strOfNums l)] 43);have m:Below w1.heap.size w1 (w1.alloc (.cells #[.int .i64 pe,.int .i64 kd,.string (strOfNums l)] 43)):=(iJ _ _).alloc (dD _) _;generalize(w1.alloc (.cells #[.int .i64 pe,.int .i64 kd,.string (strOfNums l)] 43))=z at hI m ⊢;walk_nrm;have s6:=m.size;have U:∀b,b<w.heap.size→z.heap[b]?=w.heap[b]?:=fun b hb=>(m.block b (by have:=M.out;omega)).trans (F b hb)
 obtain⟨i2,z2,A,hZ⟩:=zb;refine GX.append (sv:=.slice ao pl.length S) (xv:=.slice (some ⟨w1.heap.size,0,none⟩) 1 1) rfl rfl (by kernel_rfl) (.tmp 84) (.tmp 86) 44 rfl (by rfl) (by rfl) (fun T=>?_);obtain⟨v',s,o,r1,r2,_,r4⟩:=j4 (P:=Tryz.prog) (w:=again z T) B 44 44 43 i2 z2 3 32 Tryz.underlying44 A.info A.zero A.size A.bytes A.cells (by decide) (.slice ao pl.length S) pl.length (lU pl) (lM HR.out fun j O=>U j (Y.out j O).2) ⟨w1.heap.size,0,none⟩ 1 1 [.int .i64 pe,.int .i64 kd,.string (strOfNums l)] rfl (fun j u hu=>by
  rw[show(⟨w1.heap.size,0,none⟩:Addr).add j=⟨w1.heap.size,j,none⟩ from by simp[jv]];exact(kh (w:=again z T) hI j).trans (by simpa using hu)) (by intro u hu;simp at hu;rcases hu with rfl|rfl|rfl<;>rfl) (by have:=K.out.2;unfold maxLen;omega) (by have:=K.out.2;omega) (by have:=K.out.1;have:=M.out;show B≤z.heap.size;omega)
 refine⟨v',s,o,?_⟩;clear o;have s7:z.heap.size≤s.heap.size:=r2.size;have r1:s.ownsRow B 43 3 v' (pl++[(⟨pe,kd,l⟩:ky)]).length (lU (pl++[(⟨pe,kd,l⟩:ky)])):=by
  have I:(pl++[(⟨pe,kd,l⟩:ky)]).length=pl.length+1:=by simp
  have J:lU (pl++[(⟨pe,kd,l⟩:ky)])=lU pl++[.int .i64 pe,.int .i64 kd,.string (strOfNums l)]:=FT pl ⟨pe,kd,l⟩;rw[I,J];exact r1
 have HX:Hid (zi w s B (.slice ao pl.length S) v' pl (pl++[⟨pe,kd,l⟩])):=⟨r1,fun b hb hn=>(r2.block b (by have:=M.out;show b<z.heap.size;omega) (dJ hn)).trans (U b hb),by have:=M.out;omega⟩;obtain⟨am,an,G,_⟩:=mV r1;rw[show(pl++[(⟨pe,kd,l⟩:ky)]).length=pl.length+1 by simp]at G;subst G;clear r1 r2 r4 hI m s6 s7 U F HR Y K A hZ Z y1 y2;walk_nrm
 ((refine GX.vz s ?_);walk_nrm);refine GX.kT ?_;refine GX.exit rfl ?_
 ((refine GX.region ?_);walk_nrm)
 iterate 3 ((refine GX.vz s ?_);walk_nrm)
 refine GX.kT ?_;refine GX.inLoop ?_;have e:=fun a F h2 h3=>HK.out a s _ F h2 h3 HX.out
 unfold pI mf mP at e;unfold pH nB nA at e;unfold lY nT at e;unfold mO at e;simp only[Tryz.f6]at e;exact e _ ⟨rfl,rfl,rfl,rfl,rfl,rfl,rfl,rfl⟩ rfl rfl
theorem Uv(x:Int):-9223372036854775808≤IntKind.i64.wrap x∧IntKind.i64.wrap x≤9223372036854775807:=by rw[iC];omega
theorem Uw(hA:mH a tv (.slice (some ⟨jb,jo,none⟩) ni ic) at_ kL kM (i:Int))(f15:a.tmps[15]?=some v)(f16:a.tmps[16]?=some (.int .i64 (k:Int)))(ah:i<ni)(ai:ni≤4398046511103)(hj:w.cell? ⟨jb,jo+i,none⟩=some (.slice (some ⟨vb,vo,none⟩) L jc))(hL:L≤1048576)(aj:k<L)(hx:rS w vb (vo+k*3) x.pe x.k x.d)(V:x.k=2)(af:x.d.length≤1048576)(hR:w.ownsRow B 43 3 v pl.length (lU pl))(ag:pl.length≤2*k)(X:B≤w.heap.size)(hk:∀a' w' v',mH a' tv (.slice (some ⟨jb,jo,none⟩) ni ic) at_ kL kM (i:Int)→a'.tmps[15]?=some v'→a'.tmps[16]?=some (.int .i64 ((k+1:Nat):Int))→(∃q,zi w w' B v v' pl (pl++[⟨x.pe,2,x.d.take q⟩,⟨x.pe,2,x.d.drop q⟩]))→GX [] (qu pL) ((base 6).at a' (.code pH::pI)) [] w'):GX [] (qu pL) ((base 6).at a (.code wC::.inBlock 3::.code wD::pI)) [] w:=by
 obtain⟨pe,kd,l⟩:=x;simp only at V af;subst V;obtain⟨e0,e1,e2⟩:=hx;simp only at e0 e1 e2;have HK:Hid (_):=hk;have i0:(0:Int)≤(i:Int):=by omega
 have i1:(i:Int)<(ni:Int):=by omega
 have k0:(0:Int)≤(k:Int):=by omega
 have k1:(k:Int)<(L:Int):=by omega
 have ak:IntKind.i64.wrap ((k:Int)+1)=((k+1:Nat):Int):=by rw[iC]<;>omega
 have Y:=jA hR;have HR:Hid (_):=hR;have HL:Hid (_):=Y;have HB:Hid (B≤w.heap.size∧pl.length≤2097152):=⟨X,by omega⟩;obtain⟨ao,cp,rfl,_⟩:=mV hR;clear hk hR Y X ag;have kz:=jf;have al:IntKind.i64.wrap ((l.length:Int)+1)=(l.length:Int)+1:=by rw[iC];omega
 (obtain⟨Z,hsz,f1,f2,f3,f10,f12,f14⟩:=hA;obtain⟨tm,df⟩:=a;simp only at Z hsz f1 f2 f3 f10 f12 f14 f15 f16;subst Z;obtain⟨f,rfl⟩:=sT hsz;simp only[fV,gB,fW,dW]at f1 f2 f3 f10 f12 f14 f15 f16;simp only[f1,f2,f3,f10,f12,f14,f15,f16];clear hsz f1 f2 f3 f10 f12 f14 f15 f16)
 (have am:=nF;have an:=ow;have ap:=nZ;have aq:=m7;have ar:=nG;have av:=nH);unfold pI mf mP wC wD;unfold pH nB nA;unfold lY nT;unfold mO;simp only[Tryz.f6];refine GX.seq ?_
 ((refine GX.region ?_);walk_nrm)
 iterate 7 ((refine GX.vz w ?_);walk_nrm)
 refine GX.vz (w.alloc (.cells #[.int .i64 0,.int .i64 0,.string ⟨#[]⟩] 43)) ?_;walk_nrm;refine GX.uz ((((w.alloc (.cells #[.int .i64 0,.int .i64 0,.string ⟨#[]⟩] 43)).setCell ⟨w.heap.size,0,none⟩ (.int .i64 pe)).setCell ⟨w.heap.size,1,none⟩ (.int .i64 2)).setCell ⟨w.heap.size,2,none⟩ (.string (strOfNums l))) ?_;have F:((((w.alloc (.cells #[.int .i64 0,.int .i64 0,.string ⟨#[]⟩] 43)).setCell ⟨w.heap.size,0,none⟩ (.int .i64 pe)).setCell ⟨w.heap.size,1,none⟩ (.int .i64 2)).setCell ⟨w.heap.size,2,none⟩ (.string (strOfNums l))).heap.size=w.heap.size+1:=by simp
 have hF:((((w.alloc (.cells #[.int .i64 0,.int .i64 0,.string ⟨#[]⟩] 43)).setCell ⟨w.heap.size,0,none⟩ (.int .i64 pe)).setCell ⟨w.heap.size,1,none⟩ (.int .i64 2)).setCell ⟨w.heap.size,2,none⟩ (.string (strOfNums l))).heap[w.heap.size]?=some (.cells #[.int .i64 pe,.int .i64 2,.string (strOfNums l)] 43 (0,0)):=by
  rw[lp (lp (lp (jL w _) 0 _) 1 _) 2 _];rfl
 have h1:∀b,b<w.heap.size→((((w.alloc (.cells #[.int .i64 0,.int .i64 0,.string ⟨#[]⟩] 43)).setCell ⟨w.heap.size,0,none⟩ (.int .i64 pe)).setCell ⟨w.heap.size,1,none⟩ (.int .i64 2)).setCell ⟨w.heap.size,2,none⟩ (.string (strOfNums l))).heap[b]?=w.heap[b]?:=fun b hb=>by
  rw[kA (by omega) 2 _,kA (by omega) 1 _,kA (by omega) 0 _];exact Go.heap_alloc_old w _ hb
 generalize((((w.alloc (.cells #[.int .i64 0,.int .i64 0,.string ⟨#[]⟩] 43)).setCell ⟨w.heap.size,0,none⟩ (.int .i64 pe)).setCell ⟨w.heap.size,1,none⟩ (.int .i64 2)).setCell ⟨w.heap.size,2,none⟩ (.string (strOfNums l)))=w1 at F hF h1 ⊢;have y0:=kh hF 0;have y1:=kh hF 1;have C:=kh hF 2;simp at y0 y1 C;have M:Hid (_):=F;have HF:Hid (_):=hF;clear hj e0 e1 e2 hF F;walk_nrm;refine GX.kT ?_;refine GX.seq ?_;refine GX.seq ?_
 ((refine GX.region ?_);walk_nrm)
 iterate 3 ((refine GX.vz w1 ?_);walk_nrm)
 refine GX.kT ?_;refine GX.cond (t:=false) (by kernel_rfl) rfl ?_;simp only[dL,dp];refine GX.pd ?_;refine GX.seq ?_
 ((refine GX.region ?_);walk_nrm)
 iterate 10 ((refine GX.vz w1 ?_);walk_nrm)
 refine GX.c rfl rfl (by kernel_rfl) (fun T K hK=>?_);unfold execOp;go_simp;refine hK _ _ _ (fun T'=>?_);clear hK K;refine jP (Ql _ _ (Uv _) (by omega) _) ?_;rintro e w2 ⟨rfl,rfl⟩;generalize(IntKind.i64.wrap (IntKind.i64.wrap (at_+IntKind.i64.wrap ((i:Int)*7))+(k:Int)))=c;obtain⟨p0,p1⟩:=Qm c ((l.length:Int)+1) (by omega);obtain⟨q,hq⟩:∃q:Nat,sJ c ((l.length:Int)+1)=(q:Int):=⟨(sJ c ((l.length:Int)+1)).toNat,by omega⟩;rw[hq]at p0 p1 ⊢;refine⟨_,rfl,GX.lZ (v:=w1) ?_ rfl rfl⟩;clear T' hq;have aw:q≤l.length:=by omega
 have kd:(q:Int)≤(l.length:Int):=by omega
 have ks:(strOfNums l).extract 0 q=strOfNums (l.take q):=by rw[rh];simp
 have ax:(strOfNums l).extract q l.length=strOfNums (l.drop q):=by
  rw[rh];congr 1;exact ig (by simp)
 clear p1;walk_nrm
 ((refine GX.vz w1 ?_);walk_nrm);refine GX.kT ?_;refine GX.seq ?_
 ((refine GX.region ?_);walk_nrm)
 ((refine GX.vz w1 ?_);walk_nrm);refine GX.vz (w1.alloc (.cells #[.int .i64 0,.int .i64 0,.string ⟨#[]⟩] 43)) ?_;walk_nrm;refine GX.uz ((((w1.alloc (.cells #[.int .i64 0,.int .i64 0,.string ⟨#[]⟩] 43)).setCell ⟨w1.heap.size,0,none⟩ (.int .i64 pe)).setCell ⟨w1.heap.size,1,none⟩ (.int .i64 2)).setCell ⟨w1.heap.size,2,none⟩ (.string (strOfNums l))) ?_;have G:((((w1.alloc (.cells #[.int .i64 0,.int .i64 0,.string ⟨#[]⟩] 43)).setCell ⟨w1.heap.size,0,none⟩ (.int .i64 pe)).setCell ⟨w1.heap.size,1,none⟩ (.int .i64 2)).setCell ⟨w1.heap.size,2,none⟩ (.string (strOfNums l))).heap.size=w1.heap.size+1:=by simp
 have hY:((((w1.alloc (.cells #[.int .i64 0,.int .i64 0,.string ⟨#[]⟩] 43)).setCell ⟨w1.heap.size,0,none⟩ (.int .i64 pe)).setCell ⟨w1.heap.size,1,none⟩ (.int .i64 2)).setCell ⟨w1.heap.size,2,none⟩ (.string (strOfNums l))).heap[w1.heap.size]?=some (.cells #[.int .i64 pe,.int .i64 2,.string (strOfNums l)] 43 (0,0)):=by
  rw[lp (lp (lp (jL w1 _) 0 _) 1 _) 2 _];rfl
 have O:∀b,b<w1.heap.size→((((w1.alloc (.cells #[.int .i64 0,.int .i64 0,.string ⟨#[]⟩] 43)).setCell ⟨w1.heap.size,0,none⟩ (.int .i64 pe)).setCell ⟨w1.heap.size,1,none⟩ (.int .i64 2)).setCell ⟨w1.heap.size,2,none⟩ (.string (strOfNums l))).heap[b]?=w1.heap[b]?:=fun b hb=>by
  rw[kA (by omega) 2 _,kA (by omega) 1 _,kA (by omega) 0 _];exact Go.heap_alloc_old w1 _ hb
 generalize((((w1.alloc (.cells #[.int .i64 0,.int .i64 0,.string ⟨#[]⟩] 43)).setCell ⟨w1.heap.size,0,none⟩ (.int .i64 pe)).setCell ⟨w1.heap.size,1,none⟩ (.int .i64 2)).setCell ⟨w1.heap.size,2,none⟩ (.string (strOfNums l)))=w2 at G hY O ⊢;have aa:Hid (_):=G;have hX:=(O w.heap.size (by have:=M.out;omega)).trans HF.out;have H1:Hid (∀b,b<w.heap.size→w2.heap[b]?=w.heap[b]?):=fun b hb=>(O b (by have:=M.out;omega)).trans (h1 b hb)
 clear G O h1 y0 y1 C;have D:=kh hX 2;have v2:=lj hY 2;have C:=kh hY 2;simp at D C;walk_nrm;refine GX.kT ?_;refine GX.seq ?_
 ((refine GX.region ?_);walk_nrm)
 iterate 5 ((refine GX.vz w2 ?_);walk_nrm)
 refine GX.uz (w2.setCell ⟨w1.heap.size,2,none⟩ (.string (strOfNums (l.take q)))) ?_;have H:(w2.setCell ⟨w1.heap.size,2,none⟩ (.string (strOfNums (l.take q)))).heap[w1.heap.size]?=some (.cells #[.int .i64 pe,.int .i64 2,.string (strOfNums (l.take q))] 43 (0,0)):=by
  rw[lp hY 2 _];rfl
 have R:∀b,b≠w1.heap.size→(w2.setCell ⟨w1.heap.size,2,none⟩ (.string (strOfNums (l.take q)))).heap[b]?=w2.heap[b]?:=fun b hb=>kA (dJ hb) 2 _
 have I:(w2.setCell ⟨w1.heap.size,2,none⟩ (.string (strOfNums (l.take q)))).heap.size=w2.heap.size:=by simp
 generalize(w2.setCell ⟨w1.heap.size,2,none⟩ (.string (strOfNums (l.take q))))=w3 at H R I ⊢;have ab:Hid (_):=I;have r:=(R w.heap.size (by have:=M.out;omega)).trans hX;have H3:Hid (∀b,b<w.heap.size→w3.heap[b]?=w.heap[b]?):=fun b hb=>(R b (by have:=M.out;omega)).trans (H1.out b hb)
 clear I R D v2 C hY hX H1;have D:=kh r 2;have v2:=lj r 2;simp at D;walk_nrm;refine GX.kT ?_;refine GX.seq ?_
 ((refine GX.region ?_);walk_nrm)
 iterate 5 ((refine GX.vz w3 ?_);walk_nrm)
 refine GX.uz (w3.setCell ⟨w.heap.size,2,none⟩ (.string (strOfNums (l.drop q)))) ?_;have o:(w3.setCell ⟨w.heap.size,2,none⟩ (.string (strOfNums (l.drop q)))).heap[w.heap.size]?=some (.cells #[.int .i64 pe,.int .i64 2,.string (strOfNums (l.drop q))] 43 (0,0)):=by
  rw[lp r 2 _];rfl
 have h4:∀b,b≠w.heap.size→(w3.setCell ⟨w.heap.size,2,none⟩ (.string (strOfNums (l.drop q)))).heap[b]?=w3.heap[b]?:=fun b hb=>kA (dJ hb) 2 _
 have ad:(w3.setCell ⟨w.heap.size,2,none⟩ (.string (strOfNums (l.drop q)))).heap.size=w3.heap.size:=by simp
 generalize(w3.setCell ⟨w.heap.size,2,none⟩ (.string (strOfNums (l.drop q))))=w4 at o h4 ad ⊢;have s:Hid (w4.heap.size=w.heap.size+2):=by
  have a:=M.out;have b:=aa.out;have c:=ab.out;exact(by omega:w4.heap.size=w.heap.size+2)
 have z:=(h4 w1.heap.size (by have:=M.out;omega)).trans H;have H4:Hid (∀b,b<w.heap.size→w4.heap[b]?=w.heap[b]?):=fun b hb=>(h4 b (by omega)).trans (H3.out b hb)
 clear ad h4 D v2 H r H3 aa ab;have x0:=kh o 0;have x1:=kh o 1;have D:=kh o 2;have y0:=kh z 0;have y1:=kh z 1;have C:=kh z 2;simp at x0 x1 D y0 y1 C;clear o z;walk_nrm;refine GX.kT ?_
 ((refine GX.region ?_);walk_nrm)
 iterate 3 ((refine GX.vz w4 ?_);walk_nrm)
 refine GX.vz (w4.alloc (.cells #[.int .i64 pe,.int .i64 2,.string (strOfNums (l.take q)),.int .i64 pe,.int .i64 2,.string (strOfNums (l.drop q))] 43)) ?_;have hI:=jL w4 (.cells #[.int .i64 pe,.int .i64 2,.string (strOfNums (l.take q)),.int .i64 pe,.int .i64 2,.string (strOfNums (l.drop q))] 43);have A:Below w4.heap.size w4 (w4.alloc (.cells #[.int .i64 pe,.int .i64 2,.string (strOfNums (l.take q)),.int .i64 pe,.int .i64 2,.string (strOfNums (l.drop q))] 43)):=(iJ _ _).alloc (dD _) _;generalize(w4.alloc (.cells #[.int .i64 pe,.int .i64 2,.string (strOfNums (l.take q)),.int .i64 pe,.int .i64 2,.string (strOfNums (l.drop q))] 43))=S at hI A ⊢;walk_nrm;have s6:=A.size;have c6:∀b,b<w.heap.size→S.heap[b]?=w.heap[b]?:=fun b hb=>(A.block b (by have:=s.out;omega)).trans (H4.out b hb)
 obtain⟨i2,z2,U,hZ⟩:=zb;refine GX.append (sv:=.slice ao pl.length cp) (xv:=.slice (some ⟨w4.heap.size,0,none⟩) 2 2) rfl rfl (by kernel_rfl) (.tmp 110) (.tmp 113) 44 rfl (by rfl) (by rfl) (fun T=>?_);obtain⟨v',J,E,r1,r2,_,r4⟩:=j4 (P:=Tryz.prog) (w:=again S T) B 44 44 43 i2 z2 3 32 Tryz.underlying44 U.info U.zero U.size U.bytes U.cells (by decide) (.slice ao pl.length cp) pl.length (lU pl) (lM HR.out fun j hj=>c6 j (HL.out j hj).2) ⟨w4.heap.size,0,none⟩ 2 2 [.int .i64 pe,.int .i64 2,.string (strOfNums (l.take q)),.int .i64 pe,.int .i64 2,.string (strOfNums (l.drop q))] rfl (fun j u hu=>by
  rw[show(⟨w4.heap.size,0,none⟩:Addr).add j=⟨w4.heap.size,j,none⟩ from by simp[jv]];exact(kh (w:=again S T) hI j).trans (by simpa using hu)) (by intro u hu;simp at hu;rcases hu with rfl|rfl|rfl|rfl|rfl|rfl<;>rfl) (by have:=HB.out.2;unfold maxLen;omega) (by have:=HB.out.2;omega) (by have:=HB.out.1;have:=s.out;show B≤S.heap.size;omega)
 refine⟨v',J,E,?_⟩;clear E;have s7:S.heap.size≤J.heap.size:=r2.size;have r1:J.ownsRow B 43 3 v' (pl++[(⟨pe,2,l.take q⟩:ky),⟨pe,2,l.drop q⟩]).length (lU (pl++[(⟨pe,2,l.take q⟩:ky),⟨pe,2,l.drop q⟩])):=by
  have e1:(pl++[(⟨pe,2,l.take q⟩:ky),⟨pe,2,l.drop q⟩]).length=pl.length+2:=by simp
  have e2:lU (pl++[(⟨pe,2,l.take q⟩:ky),⟨pe,2,l.drop q⟩])=lU pl++[.int .i64 pe,.int .i64 2,.string (strOfNums (l.take q)),.int .i64 pe,.int .i64 2,.string (strOfNums (l.drop q))]:=by simp[lU,qP]
  rw[e1,e2];exact r1
 have HX:Hid (∃q,zi w J B (.slice ao pl.length cp) v' pl (pl++[(⟨pe,2,l.take q⟩:ky),⟨pe,2,l.drop q⟩])):=⟨q,r1,fun b hb hn=>(r2.block b (by have:=s.out;show b<S.heap.size;omega) (dJ hn)).trans (c6 b hb),by have:=s.out;omega⟩;obtain⟨ay,az,ae,_⟩:=mV r1;rw[show(pl++[(⟨pe,2,l.take q⟩:ky),⟨pe,2,l.drop q⟩]).length=pl.length+2 by simp]at ae;subst ae;clear r1 r2 r4 hI A s6 s7 c6 H4 HR HL HB U hZ x0 x1 D y0 y1 C;walk_nrm
 ((refine GX.vz J ?_);walk_nrm);refine GX.kT ?_;refine GX.inBlock ?_
 ((refine GX.region ?_);walk_nrm)
 iterate 3 ((refine GX.vz J ?_);walk_nrm)
 refine GX.kT ?_;refine GX.inLoop ?_;have m:=fun a h1 O R=>HK.out a J _ h1 O R HX.out
 unfold pI mf mP at m;unfold pH nB nA at m;unfold lY nT at m;unfold mO at m;simp only[Tryz.f6]at m;exact m _ ⟨rfl,rfl,rfl,rfl,rfl,rfl,rfl,rfl⟩ rfl rfl
variable {kY:Value} {ins:List ky}
theorem Ux{w1:World}(r:i<ni)(s:ni≤4398046511103)(G:jb<w1.heap.size)(U:w1.cell? ⟨jb,jo+i,none⟩=some kY)(Y:pO w1 kY ins fun b=>b<w1.heap.size)(hL:ins.length≤1048576)(hd:∀x∈ins,x.d.length≤1048576)(H:∀(a:Act)(w:World)(v:Value)(pl:List ky),mH a tv (.slice (some ⟨jb,jo,none⟩) ni ic) at_ kL kM (i:Int)→a.tmps[15]?=some v→w.ownsRow w1.heap.size 43 3 v pl.length (lU pl)→ny ins pl→(∀b,b<w1.heap.size→w.heap[b]?=w1.heap[b]?)→w1.heap.size≤w.heap.size→GX [] (qu pL) ((base 6).at a (.code mP::.inBlock 1::.code nB::mf)) [] w):∀(m k:Nat),k+m=ins.length→∀(a:Act)(w:World)(v:Value)(pl:List ky),mH a tv (.slice (some ⟨jb,jo,none⟩) ni ic) at_ kL kM (i:Int)→Ut a w1 w w1.heap.size ins k v pl→GX [] (qu pL) ((base 6).at a (.code pH::pI)) [] w:=by
 obtain⟨Z,vb,vo,jc,rfl,q1,q2,q3⟩:=Y;intro m
 induction m with
 |zero =>
  intro k hk a w v pl P f;obtain rfl:k=ins.length:=by omega
  have j:w.cell? ⟨jb,jo+i,none⟩=some (.slice Z ins.length jc):=(jT (a:=⟨jb,jo+i,none⟩) (f.old jb G)).trans U;have C:lu v=false:=by
   obtain⟨ao,cp,rfl,_⟩:=mV f.row
   cases ao<;>rfl
  refine Gs P f.f15 C f.f16 r s j (by omega) (dD _) (fun _ a' u f15=>?_) (fun h=>absurd h (jd _));have hp:=f.zh;rw[List.take_length]at hp;exact H a' w v pl u f15 f.row hp f.old f.le
 |succ m V =>
  intro k hk a w v pl P f;have l:k<ins.length:=by omega
  have I:ins≠[]:=by intro e;rw[e]at l;simp at l
  obtain rfl:=q1 I;have R:=q2 I;have j:w.cell? ⟨jb,jo+i,none⟩=some (.slice (some ⟨vb,vo,none⟩) ins.length jc):=(jT (a:=⟨jb,jo+i,none⟩) (f.old jb G)).trans U;have C:lu v=false:=by
   obtain⟨ao,cp,rfl,_⟩:=mV f.row
   cases ao<;>rfl
  obtain⟨x,hx⟩:∃x,ins[k]?=some x:=⟨_,jH l⟩;have S:x∈ins:=gv hx;have J:rS w vb (vo+k*3) x.pe x.k x.d:=by
   have:=(q3 k x hx).keep (f.old vb R);rwa[dY]at this
  have K:ins.take (k+1)=ins.take k++[x]:=by rw[List.take_add_one,hx];rfl
  have M:pl.length≤2*k:=by
   have:=f.zh.len;rw[jw]at this;omega
  have o:=f.row;have O:=jA o;refine Gs P f.f15 C f.f16 r s j (by omega) (by omega) (fun h=>by omega) (fun _ a' u f15 f16=>?_)
  by_cases z:x.k=2
  ·refine Uw u f15 f16 r s j (by omega) l J z (hd x S) o M f.le (fun T w2 v2 D E F A=>?_);obtain⟨q,A⟩:=A;refine V (k+1) (by omega) T w2 v2 _ D ⟨E,F,A.row,?_,fun b hb=>(A.old b (by have:=f.le;omega) fun e=>by have:=(O b e).1;omega).trans (f.old b hb),dE f.le A.le⟩;rw[K];refine f.zh.app ?_;obtain⟨pe,kd,X⟩:=x;simp only at z;subst z;have h:=ny.cut pe (X.take q) (X.drop q) ny.nil;rwa[List.take_append_drop]at h
  ·refine Uu u f15 f16 r s j (by omega) l J z o M f.le (fun T w2 v2 D E F A=>?_);refine V (k+1) (by omega) T w2 v2 _ D ⟨E,F,A.row,?_,fun b hb=>(A.old b (by have:=f.le;omega) fun e=>by have:=(O b e).1;omega).trans (f.old b hb),dE f.le A.le⟩;rw[K];exact f.zh.app (.same x .nil)
variable {Q:Frame→List Frame→World→Prop} {nt tc:Nat} {ta ia:Option Addr}
theorem Uy(j:mH a (.slice ta nt tc) (.slice ia ni ic) at_ kL kM (i:Int))(l:i<nt)(m:i<ni)(e:∀a',mH a' (.slice ta nt tc) (.slice ia ni ic) at_ kL kM (i:Int)→a'.tmps[15]?=some (.slice none 0 0)→a'.tmps[16]?=some (.int .i64 0)→GX [] Q ((base 6).at a' (.code pH::pI)) [] w):GX [] Q ((base 6).at a (.code lY::mf)) [] w:=by
 have i1:(i:Int)<(nt:Int):=by omega
 have i2:(i:Int)<(ni:Int):=by omega
 have o:Hid (_):=e;clear e
 (obtain⟨d,hsz,f1,f2,f3,f10,f12,f14⟩:=j;obtain⟨C,D⟩:=a;simp only at d hsz f1 f2 f3 f10 f12 f14;subst d;obtain⟨f,rfl⟩:=sT hsz;simp only[fV,gB,fW,dW]at f1 f2 f3 f10 f12 f14;simp only[f1,f2,f3,f10,f12,f14];clear hsz f1 f2 f3 f10 f12 f14)
 (have q:=nF;have r:=ow;have s:=nZ;have u:=m7;have z:=nG;have A:=nH);unfold mf;unfold lY nT;unfold mO;simp only[Tryz.f6];refine GX.seq ?_;refine GX.seq ?_
 ((refine GX.region ?_);walk_nrm)
 iterate 10 ((refine GX.vz w ?_);walk_nrm)
 refine GX.kT ?_;refine GX.cond (t:=true) (by kernel_rfl) rfl ?_;simp only[dn];refine GX.pd ?_;refine GX.seq ?_;refine GX.block ?_;refine GX.seq ?_
 ((refine GX.region ?_);walk_nrm)
 ((refine GX.vz w ?_);walk_nrm);refine GX.kT ?_;refine GX.seq ?_;refine GX.seq ?_
 ((refine GX.region ?_);walk_nrm)
 ((refine GX.vz w ?_);walk_nrm);refine GX.kT ?_;refine GX.block ?_;refine GX.loop ?_;have b:=o.out;unfold pI mf mP at b;unfold pH nB nA at b;unfold lY nT at b;unfold mO at b;simp only[Tryz.f6]at b;exact b _ ⟨rfl,rfl,rfl,rfl,rfl,rfl,rfl,rfl⟩ rfl rfl
theorem BU(l:mH a (.slice ta nt tc) (.slice ia ni ic) at_ kL kM (i:Int))(d:nt≤i∨(i<nt∧ni≤i))(e:pL w):GX [] (qu pL) ((base 6).at a (.code lY::mf)) [] w:=by
 have j:Hid (_):=e;clear e
 (obtain⟨b,hsz,f1,f2,f3,f10,f12,f14⟩:=l;obtain⟨A,C⟩:=a;simp only at b hsz f1 f2 f3 f10 f12 f14;subst b;obtain⟨f,rfl⟩:=sT hsz;simp only[fV,gB,fW,dW]at f1 f2 f3 f10 f12 f14;simp only[f1,f2,f3,f10,f12,f14];clear hsz f1 f2 f3 f10 f12 f14)
 (have m:=nF;have o:=ow;have q:=nZ;have r:=m7;have s:=nG;have u:=nH);unfold mf;unfold lY nT;unfold mO;simp only[Tryz.f6];refine GX.seq ?_;refine GX.seq ?_
 ((refine GX.region ?_);walk_nrm);rcases d with d|⟨d,z⟩
 ·have i1:¬((i:Int)<(nt:Int)):=by omega
  iterate 5 ((refine GX.vz w ?_);walk_nrm)
  iterate 4 ((refine GX.skip rfl (by rfl) ?_);walk_nrm)
  ((refine GX.vz w ?_);walk_nrm);refine GX.kT ?_;refine GX.cond (t:=false) (by kernel_rfl) rfl ?_;simp only[dL,dp];refine GX.exit rfl ?_;refine GX.seq ?_
  ((refine GX.region ?_);walk_nrm)
  ((refine GX.vz w ?_);walk_nrm);refine GX.kT ?_;refine GX.ret ?_;exact GX.BS ⟨rfl,rfl,rfl,rfl,j.out⟩
 ·have i1:(i:Int)<(nt:Int):=by omega
  have i2:¬((i:Int)<(ni:Int)):=by omega
  iterate 10 ((refine GX.vz w ?_);walk_nrm)
  refine GX.kT ?_;refine GX.cond (t:=false) (by kernel_rfl) rfl ?_;simp only[dL,dp];refine GX.exit rfl ?_;refine GX.seq ?_
  ((refine GX.region ?_);walk_nrm)
  ((refine GX.vz w ?_);walk_nrm);refine GX.kT ?_;refine GX.ret ?_;exact GX.BS ⟨rfl,rfl,rfl,rfl,j.out⟩
noncomputable def uk:Array Oper:=match mP with | .seq (.region _ ops _) _=>ops|_=>#[]
theorem Uz:lh (strip uk) [1,2,3,10,12,14,15] 152=true:=by kernel_rfl
theorem UA:lO (strip uk)=true:=by kernel_rfl
theorem UB:uk.size=11:=by kernel_rfl
def rX (sp tb to nt tc jb jo ni ic i:Nat) (t:Int) (kY:Value) (R:Value→World→Prop):Nat→Value→World→Prop
 |0,v,_=>v=.pointer (some ⟨sp,0,none⟩)
 |1,v,_=>v=.slice (some ⟨tb,to,none⟩) nt tc
 |2,v,_=>v=.int .i64 (i:Int)
 |3,v,_=>v=.pointer (some ⟨tb,to+i,none⟩)
 |4,v,_=>v=.int .i64 t
 |5,v,_=>v=.slice (some ⟨jb,jo,none⟩) ni ic
 |6,v,_=>v=.int .i64 (i:Int)
 |7,v,_=>v=.pointer (some ⟨jb,jo+i,none⟩)
 |8,v,_=>v=kY
 |9,v,w=>R v w
 |_,_,_=>True
noncomputable def qv:Code:=match mP with | .seq _ t=>t|_=>.skip
def wF (w0 w:World) (N:Nat→Prop) (kL kM n:Nat) (na nb au id:Int) (da db:Nat→SD) (ins:List ky) (v:Value) (w':World):Prop :=
 ∃xW,oA w0 w' N (fun b=>w.heap.size≤b∧b<w'.heap.size) kL kM n na nb au id xW db∧(∀i,i<n→(xW i).s=(lF au id na da (fun i=>kF i ins) i).1∧(xW i).p.au=(da i).p.au∧(xW i).p.hold=(da i).p.hold∧((lF au id na da (fun i=>kF i ins) i).1.st=0→(xW i).v=.slice none 0 0))∧tA n (lF au id na da (fun i=>kF i ins)) v w'∧(∀g,v.ownBlock=some g→w.heap.size≤g∧g<w'.heap.size)∧∀b,N b→w'.heap[b]?=w.heap[b]?
variable {w0:World} {N Nb:Nat→Prop} {n tb to:Nat} {na nb au id t:Int} {da db:Nat→SD} {pv:Value}
theorem UC{k:List Item}(M:mH a (.slice (some ⟨tb,to,none⟩) nt tc) (.slice (some ⟨jb,jo,none⟩) ni ic) at_ kL kM (i:Int))(f15:a.tmps[15]?=some pv)(hW:oA w0 w N Nb kL kM n na nb au id da db)(hn:n≤8)(hid:0≤id)(H:0≤na∧na≤1099511627776)(ad:∀i,i<n→mA (da i).s∧((da i).s.st=0→(da i).v=.slice none 0 0)∧0≤(da i).p.hold∧(da i).p.hold≤65535)(am:i<nt)(an:i<ni)(ae:tb<w0.heap.size)(af:jb<w0.heap.size)(ht:w0.cell? ⟨tb,to+i,none⟩=some (.int .i64 t))(hj:w0.cell? ⟨jb,jo+i,none⟩=some kY)(hV:pO w0 kY ins fun b=>b<w0.heap.size)(hlen:ins.length≤4398046511103)(hb:∀x∈ins,Bytes x.d∧x.d.length≤1152921504606846976)(hk:∀a' w' v,mH a' (.slice (some ⟨tb,to,none⟩) nt tc) (.slice (some ⟨jb,jo,none⟩) ni ic) at_ kL kM (i:Int)→a'.tmps[15]?=some pv→a'.tmps[20]?=some v→wF w0 w N kL kM n (lC na t) nb au id da db ins v w'→GX [] Q ((base 6).at a' k) [] w'):GX [] Q ((base 6).at a (.code (.region 23 uk true)::k)) [] w:=by
 have ag:lu kY=false:=by
  obtain⟨ja,P,R,jc,rfl,_⟩:=hV
  cases ja<;>rfl
 have ap:=nF;have aq:=m7;have ar:=nG;have av:=nH;have aw:(0:Int)≤(i:Int):=by omega
 have ax:(i:Int)<(nt:Int):=by omega
 have ay:(i:Int)<(ni:Int):=by omega
 refine GX.O6 (c:=9) (D:=[]) (T:=152) (n:=10) (w0:=w) (S:=fun G=>∀b:Nat,b<w0.heap.size→G.heap[b]?=w0.heap[b]?)
  (val:=rX kL tb to nt tc jb jo ni ic i t kY (wF w0 w N kL kM n (lC na t) nb au id da db ins))
  (fix:=[(1,.slice (some ⟨tb,to,none⟩) nt tc),(2,.slice (some ⟨jb,jo,none⟩) ni ic),(3,.int .i64 at_),(10,.pointer (some ⟨kL,0,none⟩)),(12,.pointer (some ⟨kM,0,none⟩)),(14,.int .i64 (i:Int)),(15,pv)])
  (Post:=fun a w'=>∃v,a.tmps[20]?=some v∧wF w0 w N kL kM n (lC na t) nb au id da db ins v w')
  (by kernel_rfl) Uz UA UB (by decide) ?_ ?_ ?_ ?_ ?_ ?_ ?_ M.d M.z ?_ hW.old rfl
 ·intro w w' j u hj h;unfold rX at h ⊢;split at h<;>first|exact h|exact absurd rfl hj
 ·intro w2 w' u e h;show wF _ _ _ _ _ _ _ _ _ _ _ _ _ _ w';have h:wF w0 w N kL kM n (lC na t) nb au id da db ins u w2:=h;obtain⟨d',U,V,⟨B,I⟩,X,q5⟩:=h;have Y:∀b:Nat,w'.heap[b]?=w2.heap[b]?:=fun b=>by rw[e]
  exact⟨d',by have:=U.heq e;rw[←e]at this;exact this,V,⟨B,lM I fun j hj=>Y j⟩,by rw[e];exact X,fun b hb=>(Y b).trans (q5 b hb)⟩
 ·intro w w' e h b hb;rw[e];exact h b hb
 ·intro i' o a G l az aA C r m hs F;have E:=C;have f1:=r (1,.slice (some ⟨tb,to,none⟩) nt tc) (by simp);have f2:=r (2,.slice (some ⟨jb,jo,none⟩) ni ic) (by simp);have f8:=r (10,.pointer (some ⟨kL,0,none⟩)) (by simp);have f11:=r (14,.int .i64 (i:Int)) (by simp);simp only at f1 f2 f8 f11;have e1:G.cell? ⟨tb,to+i,none⟩=some (.int .i64 t):=(jT (a:=⟨tb,to+i,none⟩) (hs tb ae)).trans ht;have e2:G.cell? ⟨jb,jo+i,none⟩=some kY:=(jT (a:=⟨jb,jo+i,none⟩) (hs jb af)).trans hj;clear r;obtain rfl|rfl|rfl|rfl|rfl|rfl|rfl|rfl|rfl:i'=0∨i'=1∨i'=2∨i'=3∨i'=4∨i'=5∨i'=6∨i'=7∨i'=8:=by omega
  all_goals
   simp only[uk,mP,nA,lY,mO,Tryz.f6]at C;simp at C;subst C
  ·refine GX.v E rfl (by kernel_rfl) (fun T K f=>?_);unfold execOp;simp only[Act.eval,dA,f8,eE];go_simp;exact f _ _ (GX.lZ (F _ _ rfl rfl) rfl rfl)
  ·refine GX.v E rfl (by kernel_rfl) (fun T K f=>?_);unfold execOp;simp only[Act.eval,dA,f1,eE];go_simp;exact f _ _ (GX.lZ (F _ _ rfl rfl) rfl rfl)
  ·refine GX.v E rfl (by kernel_rfl) (fun T K f=>?_);unfold execOp;simp only[Act.eval,dA,f11,eE];go_simp;exact f _ _ (GX.lZ (F _ _ rfl rfl) rfl rfl)
  ·obtain⟨Z,H,A⟩:=m 1 _ _ rfl rfl ⟨⟨1,.data⟩,by simp,rfl,rfl⟩;simp only[rX]at A;subst A;obtain⟨u1,h1,O⟩:=m 2 _ _ rfl rfl ⟨⟨2,.data⟩,by simp,rfl,rfl⟩;simp only[rX]at O;subst O;refine GX.v E rfl (by kernel_rfl) (fun T K f=>?_);unfold execOp;simp only[Act.eval,dA,H,h1,eE];go_simp;exact f _ _ (GX.lZ (F _ _ rfl rfl) rfl rfl)
  ·obtain⟨Z,H,A⟩:=m 3 _ _ rfl rfl ⟨⟨3,.data⟩,by simp,rfl,rfl⟩;simp only[rX]at A;subst A;refine GX.v E rfl (by kernel_rfl) (fun T K f=>?_);unfold execOp;simp only[Act.eval,dA,H,eE];go_simp;exact f _ _ (GX.lZ (F _ _ rfl rfl) rfl rfl)
  ·refine GX.v E rfl (by kernel_rfl) (fun T K f=>?_);unfold execOp;simp only[Act.eval,dA,f2,eE];go_simp;exact f _ _ (GX.lZ (F _ _ rfl rfl) rfl rfl)
  ·refine GX.v E rfl (by kernel_rfl) (fun T K f=>?_);unfold execOp;simp only[Act.eval,dA,f11,eE];go_simp;exact f _ _ (GX.lZ (F _ _ rfl rfl) rfl rfl)
  ·obtain⟨Z,H,A⟩:=m 5 _ _ rfl rfl ⟨⟨5,.data⟩,by simp,rfl,rfl⟩;simp only[rX]at A;subst A;obtain⟨u1,h1,O⟩:=m 6 _ _ rfl rfl ⟨⟨6,.data⟩,by simp,rfl,rfl⟩;simp only[rX]at O;subst O;refine GX.v E rfl (by kernel_rfl) (fun T K f=>?_);unfold execOp;simp only[Act.eval,dA,H,h1,eE];go_simp;exact f _ _ (GX.lZ (F _ _ rfl rfl) rfl rfl)
  ·obtain⟨Z,H,A⟩:=m 7 _ _ rfl rfl ⟨⟨7,.data⟩,by simp,rfl,rfl⟩;simp only[rX]at A;subst A;obtain⟨ja,P,R,jc,rfl,_⟩:=hV;refine GX.v E rfl (by kernel_rfl) (fun T K f=>?_);unfold execOp;simp only[Act.eval,dA,H,eE];go_simp;exact f _ _ (GX.lZ (F _ _ rfl rfl) rfl rfl)
 ·intro o a G l C r m hw F;have E:=C;simp only[uk,mP,nA,lY,mO,Tryz.f6]at C;simp at C;subst C;obtain⟨Z,aa,A⟩:=m 0 _ _ rfl rfl ⟨⟨0,.data⟩,by simp,rfl,rfl⟩;simp only[rX]at A;subst A;obtain⟨u1,ah,O⟩:=m 4 _ _ rfl rfl ⟨⟨4,.data⟩,by simp,rfl,rfl⟩;simp only[rX]at O;subst O;obtain⟨u2,ai,p2⟩:=m 8 _ _ rfl rfl ⟨⟨8,.data⟩,by simp,rfl,rfl⟩;simp only[rX]at p2;subst p2;refine GX.AL (v0:=.pointer (some ⟨kL,0,none⟩)) (v1:=.int .i64 t) (v2:=u2) E rfl rfl (by kernel_rfl) (by simp only[Act.eval,dA,aa,eE]) (by simp only[Act.eval,dA,ah,eE]) (by simp only[Act.eval,dA,ai,eE]) ?_ rfl rfl ag;have Y:∀b:Nat,G.heap[b]?=w.heap[b]?:=fun b=>by rw[hw]
  obtain⟨Ka,Kb,ha,aj,hc,J,aB⟩:=(hW.heq hw).st;have ak:pO G u2 ins Ka:=by
   obtain⟨ja,P,R,jc,U,V,I,X⟩:=hV;refine⟨ja,P,R,jc,U,V,fun h=>(J _ (.inl (I h))).1,?_⟩
   by_cases h:ins=[]
   ·subst h;intro j x hx;simp at hx
   ·exact X.keep ((Y _).trans (hW.old _ (I h)))
  refine BF rfl ha (by omega) hid H ad ak hlen hb (fun w' ab d' U V I X=>?_);rw[yF E];have hsz:G.heap.size=w.heap.size:=by rw[hw]
  have hold:∀b,b<w0.heap.size→w'.heap[b]?=w0.heap[b]?:=fun b hb=>(X b (J b (.inl hb)).1).trans ((Y b).trans (hW.old b hb))
  refine F ab w' ⟨d',?_,V,I.1,fun g hg=>⟨by rw[←hsz];exact I.2.2 g hg,?_⟩,fun b hb=>(X b (J b (.inr hb)).1).trans (Y b)⟩ hold
  ·rw[←hsz];exact oA.first (na:=na) (da:=da) (Nb:=Nb) ⟨fun b hb=>(Y b).trans (hW.old b hb),by rw[hsz];exact hW.le⟩ aj hc J U I.2.1 X
  ·obtain⟨⟨B,q⟩,_⟩:=I;exact(jA q g hg).2
 ·intro o a G l C r m hs hsz F;have E:=C;have HZ:Hid (_):=hsz;clear hsz;simp only[uk,mP,nA,lY,mO,Tryz.f6]at C;simp at C;subst C;obtain⟨Z,aa,A⟩:=m 9 _ _ rfl rfl ⟨⟨9,.data⟩,by simp,rfl,rfl⟩;have A:wF w0 w N kL kM n (lC na t) nb au id da db ins Z G:=A;have al:∃a l c,Z=.slice a l c:=by
   obtain⟨d',_,_,⟨B,q⟩,_⟩:=A;obtain⟨ao,cp,rfl,_⟩:=mV q;exact⟨_,_,_,rfl⟩
  obtain⟨a1,l1,c1,rfl⟩:=al;refine GX.v E rfl (by kernel_rfl) (fun T K f=>?_);unfold execOp;simp only[Act.eval,dA,aa,eE];go_simp;refine f _ _ (GX.lZ (F _ _ ⟨.slice a1 l1 c1,?_,A⟩) rfl rfl);simp[Act.put,HZ.out]
 ·intro a G h1 h2 r hP;obtain⟨v,U,V⟩:=hP;exact hk a G v ⟨h1,h2,r (1,_) (by simp),r (2,_) (by simp),r (3,_) (by simp),r (10,_) (by simp),r (12,_) (by simp),r (14,_) (by simp)⟩ (r (15,_) (by simp)) U V
 ·intro x hx;simp at hx;rcases hx with rfl|rfl|rfl|rfl|rfl|rfl|rfl
  ·exact M.f1
  ·exact M.f2
  ·exact M.f3
  ·exact M.f10
  ·exact M.f12
  ·exact M.f14
  ·exact f15
noncomputable def qQ:Code:=match qv with | .seq _ t=>t|_=>.skip
variable {la:Option Addr} {lc:Nat}
theorem UD{P:Nat}(hA:mH a (.slice (some ⟨tb,to,none⟩) nt tc) (.slice (some ⟨jb,jo,none⟩) ni ic) at_ kL kM (i:Int))(f15:a.tmps[15]?=some pv)(f20:a.tmps[20]?=some (.slice la P lc))(hW:oA w0 w N Nb kL kM n na nb au id da db)(hn:n≤8)(hid:0≤id)(h0:0≤nb∧nb≤1099511627776)(C:∀i,i<n→mA (db i).s∧((db i).s.st=0→(db i).v=.slice none 0 0)∧0≤(db i).p.hold∧(db i).p.hold≤65535)(aa:i<nt)(D:tb<w0.heap.size)(R:w0.cell? ⟨tb,to+i,none⟩=some (.int .i64 t))(ab:nt≤4611686018427387904)(S:pO w pv pl N)(hlen:pl.length≤4398046511103)(hb:∀x∈pl,Bytes x.d∧x.d.length≤1152921504606846976)(T:∀a' w' v j,mH a' (.slice (some ⟨tb,to,none⟩) nt tc) (.slice (some ⟨jb,jo,none⟩) ni ic) at_ kL kM (i:Int)→a'.tmps[20]?=some (.slice la P lc)→a'.tmps[21]?=some v→oA w0 w' (fun _=>False) (fun _=>False) kL kM n na (lC nb t) au id da j→(∀i,i<n→(j i).s=(lF au id (lC nb t) db (fun i=>kF i pl) i).1∧(j i).p.au=(db i).p.au∧(j i).p.hold=(db i).p.hold∧((lF au id (lC nb t) db (fun i=>kF i pl) i).1.st=0→(j i).v=.slice none 0 0))→tA n (lF au id (lC nb t) db (fun i=>kF i pl)) v w'→(∀b,Nb b→w'.heap[b]?=w.heap[b]?) →
   GX [] Q ((base 6).at a' (.code qQ::.inBlock 1::.code nB::mf)) [] w'):GX [] Q ((base 6).at a (.code qv::.inBlock 1::.code nB::mf)) [] w:=by
 have e1:w.cell? ⟨tb,to+i,none⟩=some (.int .i64 t):=(jT (a:=⟨tb,to+i,none⟩) (hW.old tb D)).trans R;obtain⟨Ka,Kb,U,E,V,r,F⟩:=hW.st;have G:pO w pv pl Kb:=by
  obtain⟨X,H,I,jc,z,A,o,u⟩:=S;exact⟨X,H,I,jc,z,A,fun h=>(r _ (.inr (o h))).2,u⟩
 have i1:(0:Int)≤(i:Int):=by omega
 have i2:(i:Int)<(nt:Int):=by omega
 have Y:Hid (_):=T;have Z:Hid (∀{c:Frame}{O:List Frame}{bc:Frame}{ac:Act}{ops:Array Oper} {i:Nat} {l:List Nat} {kk:List Item} (J:c=bc.at ac (.inRegion ops (i::l)::kk)),(∀w' v j,oA w0 w' (fun _=>False) (fun _=>False) kL kM n na (lC nb t) au id da j→(∀i,i<n→(j i).s=(lF au id (lC nb t) db (fun i=>kF i pl) i).1∧(j i).p.au=(db i).p.au∧(j i).p.hold=(db i).p.hold∧((lF au id (lC nb t) db (fun i=>kF i pl) i).1.st=0→(j i).v=.slice none 0 0))→tA n (lF au id (lC nb t) db (fun i=>kF i pl)) v w'→(∀b,Nb b→w'.heap[b]?=w.heap[b]?)→GX [] Q (c.finish v) O w')→GX [] Q ((base 17).at { tmps:=#[.pointer (some ⟨kM,0,none⟩),.int .i64 t,pv]++Array.replicate 19 undef,defers:=[] } [.code (Tryz.f17.body.getD .skip)]) (c::O) w):=by
  intro c O bc ac ops i l kk J k;refine BF J E (by omega) hid h0 C G hlen hb (fun w' K d' z A o u=>k w' K d' (oA.second (nb:=nb) (db:=db) ⟨hW.old,hW.le⟩ U V r z o.2.1 u) A o.1 fun b hb=>u b (F b hb))
 obtain⟨X,H,I,jc,rfl,_⟩:=S;clear T hW U E V r F G C R D hb
 (obtain⟨M,hsz,f1,f2,f3,f10,f12,f14⟩:=hA;obtain⟨tm,df⟩:=a;simp only at M hsz f1 f2 f3 f10 f12 f14 f15 f20;subst M;obtain⟨f,rfl⟩:=sT hsz;simp only[fV,gB,fW,dW]at f1 f2 f3 f10 f12 f14 f15 f20;simp only[f1,f2,f3,f10,f12,f14,f15,f20];clear hsz f1 f2 f3 f10 f12 f14 f15 f20)
 (have ad:=nF;have ae:=ow;have af:=nZ;have ag:=m7;have ah:=nG;have ai:=nH);unfold mf qv mP;unfold nB nA;unfold lY nT;unfold mO;simp only[Tryz.f6];refine GX.seq ?_
 ((refine GX.region ?_);walk_nrm)
 iterate 6 ((refine GX.vz w ?_);walk_nrm)
 refine GX.AL rfl rfl rfl (by kernel_rfl) rfl rfl rfl ?_;refine Z.out rfl (fun w2 v j z A o u=>?_);rw[yF rfl];obtain⟨va,vl,vc,rfl⟩:∃a l c,v=.slice a l c:=by
  obtain⟨B,q⟩:=o;obtain⟨ao,cp,e,_⟩:=mV q;exact⟨_,_,_,e⟩
 have HF:Hid (_):=fun a h1 h2 h3=>Y.out a w2 _ j h1 h2 h3 z A o u
 clear Y Z z A o u;walk_nrm
 ((refine GX.vz w2 ?_);walk_nrm);refine GX.kT ?_;have m:=HF.out;unfold mf qQ qv mP at m;unfold nB nA at m;unfold lY nT at m;unfold mO at m;simp only[Tryz.f6]at m;exact m _ ⟨rfl,rfl,rfl,rfl,rfl,rfl,rfl,rfl⟩ rfl rfl
noncomputable def pJ:Code:=match qQ with | .seq _ (.seq _ (.block _ (.loop c)))=>c|_=>.skip
noncomputable def wG:Code:=match pJ with | .seq _ (.seq (.block _ b) _)=>b|_=>.skip
noncomputable def zk:Code:=match pJ with | .seq _ (.seq _ n)=>n|_=>.skip
noncomputable def zl:Code:=match wG with | .seq _ t=>t|_=>.skip
noncomputable def um:Array Oper:=match wG with | .seq (.region _ ops _) _=>ops|_=>#[]
noncomputable def qR:List Item:=.inLoop pJ::.inBlock 4::.inBlock 1::.code nB::mf
theorem UE:lh (strip um) [1,2,3,10,12,14,20,21,22] 152=true:=by kernel_rfl
theorem UF:lO (strip um)=true:=by kernel_rfl
theorem UG:um.size=9:=by kernel_rfl
def vn (g L lc h mc k:Nat) (p:Int) (y:List Int) (c:Bool):Nat→Value→World→Prop
 |0,v,_=>v=.slice (some ⟨g,0,none⟩) L lc
 |1,v,_=>v=.int .i64 (k:Int)
 |2,v,_=>v=.pointer (some ⟨g,k*3,none⟩)
 |3,v,_=>v=.agg #[.int .i64 p,.string (strOfNums y),.bool c]
 |4,v,_=>v=.slice (some ⟨h,0,none⟩) L mc
 |5,v,_=>v=.int .i64 (k:Int)
 |6,v,_=>v=.pointer (some ⟨h,k*3,none⟩)
 |7,v,_=>v=.agg #[.int .i64 p,.string (strOfNums y),.bool c]
 |_,_,_=>True
variable {g h mc:Nat} {p:Int} {y:List Int} {c:Bool}
theorem UH(w w':World)(i:Nat)(u:Value)(hB:Below w.heap.size w w')(b:vn g L lc h mc k p y c i u w):vn g L lc h mc k p y c i u w':=by
 unfold vn at b ⊢;split at b<;>exact b
def uo (w:World) (g k:Nat) (p:Int) (y:List Int) (c:Bool):Prop:=w.cell? ⟨g,k*3,none⟩=some (.int .i64 p)∧w.cell? ⟨g,k*3+1,none⟩=some (.string (strOfNums y))∧w.cell? ⟨g,k*3+2,none⟩=some (.bool c)
variable {iv:Value}
theorem UI{kk:List Item}{i:Int}(m:mH a tv iv at_ kL kM i)(f20:a.tmps[20]?=some (.slice (some ⟨g,0,none⟩) L lc))(f21:a.tmps[21]?=some (.slice (some ⟨h,0,none⟩) L mc))(f22:a.tmps[22]?=some (.int .i64 (k:Int)))(U:k<L)(h8:L≤8)(I:uo w g k p y c)(J:uo w h k p y c)(V:∀a' w',mH a' tv iv at_ kL kM i→a'.tmps[20]?=some (.slice (some ⟨g,0,none⟩) L lc)→a'.tmps[21]?=some (.slice (some ⟨h,0,none⟩) L mc)→a'.tmps[22]?=some (.int .i64 (k:Int))→a'.tmps[151]?=some (.bool false)→Below w.heap.size w w'→GX [] Q ((base 6).at a' kk) [] w'):GX [] Q ((base 6).at a (.code (.region 30 um true)::kk)) [] w:=by
 have s:g<w.heap.size:=iK _ _ I.1;have u:h<w.heap.size:=iK _ _ J.1;obtain⟨M,O,P⟩:=I;obtain⟨r0,r1,r2⟩:=J;have i1:(0:Int)≤(k:Int):=by omega
 have i2:(k:Int)<(L:Int):=by omega
 have X:=nF;have Y:=nZ;have Z:=m7;have aa:=nG;have ab:=nH;refine GX.lb (D:=[]) (T:=152) (n:=8) (w0:=w) (val:=vn g L lc h mc k p y c)
  (fix:=[(1,tv),(2,iv),(3,.int .i64 at_),(10,.pointer (some ⟨kL,0,none⟩)),(12,.pointer (some ⟨kM,0,none⟩)),(14,.int .i64 i),(20,.slice (some ⟨g,0,none⟩) L lc),(21,.slice (some ⟨h,0,none⟩) L mc),(22,.int .i64 (k:Int))])
  (Post:=fun a w'=>a.tmps[151]?=some (.bool false)∧Below w.heap.size w w') (by kernel_rfl) UE UF UG UH ?_ ?_ ?_ m.d m.z ?_ (iJ _ _)
 ·intro i' o a H l ad j b e q A;have C:=j;have f20:=b (20,.slice (some ⟨g,0,none⟩) L lc) (by simp);have f21:=b (21,.slice (some ⟨h,0,none⟩) L mc) (by simp);have f22:=b (22,.int .i64 (k:Int)) (by simp);simp only at f20 f21 f22;have e0:=(q.cell (p:=⟨g,k*3,none⟩) s).trans M;have e1:=(q.cell (p:=⟨g,k*3+1,none⟩) s).trans O;have e2:=(q.cell (p:=⟨g,k*3+2,none⟩) s).trans P;have d0:=(q.cell (p:=⟨h,k*3,none⟩) u).trans r0;have d1:=(q.cell (p:=⟨h,k*3+1,none⟩) u).trans r1;have d2:=(q.cell (p:=⟨h,k*3+2,none⟩) u).trans r2;clear b M O P r0 r1 r2;obtain rfl|rfl|rfl|rfl|rfl|rfl|rfl|rfl:i'=0∨i'=1∨i'=2∨i'=3∨i'=4∨i'=5∨i'=6∨i'=7:=by omega
  all_goals
   simp only[um,wG,pJ,qQ,qv,mP,nA,lY,mO,Tryz.f6]at j;simp at j;subst j
  all_goals
   first
   |(refine GX.v C rfl (by kernel_rfl) (fun T K f=>?_);unfold execOp;simp only[Act.eval,dA,f20,f21,f22,eE];go_simp;exact f _ _ (GX.lZ (A _ _ rfl (iJ _ _)) rfl rfl))
   |(obtain⟨R,E,r⟩:=e _ _ _ (by rfl) (by rfl) ⟨_,⟨List.Mem.head _⟩,rfl,rfl⟩;simp only[vn]at r;subst r;refine GX.v C rfl (by kernel_rfl) (fun T K f=>?_);unfold execOp;simp only[Act.eval,dA,E,eE];go_simp;exact f _ _ (GX.lZ (A _ _ rfl (iJ _ _)) rfl rfl))
   |(obtain⟨R,E,r⟩:=e _ _ _ (by rfl) (by rfl) ⟨_,⟨List.Mem.head _⟩,rfl,rfl⟩;obtain⟨u1,F,G⟩:=e _ _ _ (by rfl) (by rfl) ⟨_,⟨List.Mem.tail _ (List.Mem.head _)⟩,rfl,rfl⟩;simp only[vn]at r G;subst r G;refine GX.v C rfl (by kernel_rfl) (fun T K f=>?_);unfold execOp;simp only[Act.eval,dA,E,F,eE];go_simp;exact f _ _ (GX.lZ (A _ _ rfl (iJ _ _)) rfl rfl))
 ·intro o a H l j b e q hsz A;have C:=j;have HZ:Hid (_):=hsz;clear hsz;simp only[um,wG,pJ,qQ,qv,mP,nA,lY,mO,Tryz.f6]at j;simp at j;subst j;obtain⟨R,E,r⟩:=e 3 _ _ rfl rfl ⟨⟨3,.data⟩,by simp,rfl,rfl⟩;obtain⟨u1,F,G⟩:=e 7 _ _ rfl rfl ⟨⟨7,.data⟩,by simp,rfl,rfl⟩;simp only[vn]at r G;subst r G;refine GX.v C rfl (by kernel_rfl) (fun T K f=>?_);unfold execOp;simp only[Act.eval,dA,E,F,eE];go_simp;refine f _ _ (GX.lZ (A (.bool false) _ ⟨?_,q⟩) rfl rfl);simp[Act.put,HZ.out]
 ·intro a H F h2 b S;exact V a H ⟨F,h2,b (1,_) (by simp),b (2,_) (by simp),b (3,_) (by simp),b (10,_) (by simp),b (12,_) (by simp),b (14,_) (by simp)⟩ (b (20,_) (by simp)) (b (21,_) (by simp)) (b (22,_) (by simp)) S.1 S.2
 ·intro x hx;simp at hx;rcases hx with rfl|rfl|rfl|rfl|rfl|rfl|rfl|rfl|rfl
  ·exact m.f1
  ·exact m.f2
  ·exact m.f3
  ·exact m.f10
  ·exact m.f12
  ·exact m.f14
  ·exact f20
  ·exact f21
  ·exact f22
variable {ma:Option Addr}
theorem UJ{i:Int}(C:L≤8)(j:mH a tv iv at_ kL kM i)(f20:a.tmps[20]?=some (.slice la L lc))(f21:a.tmps[21]?=some (.slice ma L mc))(l:lu tv=false)(m:lu iv=false)(e:∀a',mH a' tv iv at_ kL kM i→a'.tmps[20]?=some (.slice la L lc)→a'.tmps[21]?=some (.slice ma L mc)→a'.tmps[22]?=some (.int .i64 0)→GX [] Q ((base 6).at a' (.code pJ::qR)) [] w):GX [] Q ((base 6).at a (.code qQ::.inBlock 1::.code nB::mf)) [] w:=by
 have o:Hid (_):=e;clear e
 (obtain⟨d,hsz,f1,f2,f3,f10,f12,f14⟩:=j;obtain⟨D,E⟩:=a;simp only at d hsz f1 f2 f3 f10 f12 f14 f20 f21;subst d;obtain⟨f,rfl⟩:=sT hsz;simp only[fV,gB,fW,dW]at f1 f2 f3 f10 f12 f14 f20 f21;simp only[f1,f2,f3,f10,f12,f14,f20,f21];clear hsz f1 f2 f3 f10 f12 f14 f20 f21)
 (have q:=nF;have r:=ow;have s:=nZ;have u:=m7;have z:=nG;have A:=nH);unfold mf qQ qv mP;unfold nB nA;unfold lY nT;unfold mO;simp only[Tryz.f6];refine GX.seq ?_;refine GX.seq ?_
 ((refine GX.region ?_);walk_nrm)
 iterate 5 ((refine GX.vz w ?_);walk_nrm)
 refine GX.kT ?_;refine GX.cond (t:=false) (by kernel_rfl) rfl ?_;simp only[dL,dp];refine GX.pd ?_;refine GX.seq ?_
 ((refine GX.region ?_);walk_nrm)
 ((refine GX.vz w ?_);walk_nrm);refine GX.kT ?_;refine GX.block ?_;refine GX.loop ?_;have b:=o.out;unfold qR mf pJ qQ qv mP at b;unfold nB nA at b;unfold lY nT at b;unfold mO at b;simp only[Tryz.f6]at b;exact b _ ⟨rfl,rfl,rfl,rfl,rfl,rfl,rfl,rfl⟩ rfl rfl rfl
theorem UK{i:Int}(j:k<L)(l:mH a tv iv at_ kL kM i)(f20:a.tmps[20]?=some (.slice la L lc))(f21:a.tmps[21]?=some (.slice ma L mc))(f22:a.tmps[22]?=some (.int .i64 (k:Int)))(e:∀a',mH a' tv iv at_ kL kM i→a'.tmps[20]?=some (.slice la L lc)→a'.tmps[21]?=some (.slice ma L mc)→a'.tmps[22]?=some (.int .i64 (k:Int))→GX [] Q ((base 6).at a' (.code (.region 30 um true)::.code zl::.inBlock 5::.code zk::qR)) [] w):GX [] Q ((base 6).at a (.code pJ::qR)) [] w:=by
 have m:Hid (_):=e;have i2:(k:Int)<(L:Int):=by omega
 clear e
 (obtain⟨d,hsz,f1,f2,f3,f10,f12,f14⟩:=l;obtain⟨A,C⟩:=a;simp only at d hsz f1 f2 f3 f10 f12 f14 f20 f21 f22;subst d;obtain⟨f,rfl⟩:=sT hsz;simp only[fV,gB,fW,dW]at f1 f2 f3 f10 f12 f14 f20 f21 f22;simp only[f1,f2,f3,f10,f12,f14,f20,f21,f22];clear hsz f1 f2 f3 f10 f12 f14 f20 f21 f22)
 (have o:=nF;have q:=ow;have r:=nZ;have s:=m7;have u:=nG;have z:=nH);unfold qR mf pJ qQ qv mP;unfold nB nA;unfold lY nT;unfold mO;simp only[Tryz.f6];refine GX.seq ?_;refine GX.seq ?_
 ((refine GX.region ?_);walk_nrm)
 iterate 4 ((refine GX.vz w ?_);walk_nrm)
 refine GX.kT ?_;refine GX.cond (t:=true) (by kernel_rfl) rfl ?_;simp only[dn];refine GX.pd ?_;refine GX.seq ?_;refine GX.block ?_;refine GX.seq ?_;have b:=m.out;unfold um qR mf zl zk wG pJ qQ qv mP at b;unfold nB nA at b;unfold lY nT at b;unfold mO at b;simp only[Tryz.f6]at b;exact b _ ⟨rfl,rfl,rfl,rfl,rfl,rfl,rfl,rfl⟩ rfl rfl rfl
theorem UL{i:Int}(j:k≤8)(l:mH a tv iv at_ kL kM i)(f20:a.tmps[20]?=some (.slice la L lc))(f21:a.tmps[21]?=some (.slice ma L mc))(f22:a.tmps[22]?=some (.int .i64 (k:Int)))(f151:a.tmps[151]?=some (.bool false))(e:∀a',mH a' tv iv at_ kL kM i→a'.tmps[20]?=some (.slice la L lc)→a'.tmps[21]?=some (.slice ma L mc)→a'.tmps[22]?=some (.int .i64 ((k+1:Nat):Int))→GX [] Q ((base 6).at a' (.code pJ::qR)) [] w):GX [] Q ((base 6).at a (.code zl::.inBlock 5::.code zk::qR)) [] w:=by
 have m:Hid (_):=e;have o:IntKind.i64.wrap ((k:Int)+1)=((k+1:Nat):Int):=by rw[iC]<;>omega
 clear e;obtain⟨d,hsz,f1,f2,f3,f10,f12,f14⟩:=l;obtain⟨C,D⟩:=a;simp only at d hsz f1 f2 f3 f10 f12 f14 f20 f21 f22 f151;subst d;obtain⟨f,rfl⟩:=sT hsz;simp only[fV,gB,fW,dW]at f1 f2 f3 f10 f12 f14 f20 f21 f22 f151;simp only[f1,f2,f3,f10,f12,f14,f20,f21,f22,f151];clear hsz f1 f2 f3 f10 f12 f14 f20 f21 f22 f151
 (have q:=nF;have r:=ow;have s:=nZ;have u:=m7;have z:=nG;have A:=nH);unfold qR mf zl zk wG pJ qQ qv mP;unfold nB nA;unfold lY nT;unfold mO;simp only[Tryz.f6];refine GX.cond (t:=false) (by kernel_rfl) rfl ?_;simp only[dL,dp];refine GX.pd ?_;refine GX.inBlock ?_
 ((refine GX.region ?_);walk_nrm)
 iterate 3 ((refine GX.vz w ?_);walk_nrm)
 refine GX.kT ?_;refine GX.inLoop ?_;have b:=m.out;unfold qR mf pJ qQ qv mP at b;unfold nB nA at b;unfold lY nT at b;unfold mO at b;simp only[Tryz.f6]at b;exact b _ ⟨rfl,rfl,rfl,rfl,rfl,rfl,rfl,rfl⟩ rfl rfl rfl
theorem UM(A:i<4611686018427387904)(j:mH a tv iv at_ kL kM (i:Int))(f20:a.tmps[20]?=some (.slice la L lc))(f21:a.tmps[21]?=some (.slice ma L mc))(f22:a.tmps[22]?=some (.int .i64 (L:Int)))(e:∀a',mH a' tv iv at_ kL kM ((i+1:Nat):Int)→GX [] Q ((base 6).at a' (.code lY::mf)) [] w):GX [] Q ((base 6).at a (.code pJ::qR)) [] w:=by
 have l:Hid (_):=e;have m:IntKind.i64.wrap ((i:Int)+1)=((i+1:Nat):Int):=by rw[iC]<;>omega
 clear e
 (obtain⟨d,hsz,f1,f2,f3,f10,f12,f14⟩:=j;obtain⟨C,D⟩:=a;simp only at d hsz f1 f2 f3 f10 f12 f14 f20 f21 f22;subst d;obtain⟨f,rfl⟩:=sT hsz;simp only[fV,gB,fW,dW]at f1 f2 f3 f10 f12 f14 f20 f21 f22;simp only[f1,f2,f3,f10,f12,f14,f20,f21,f22];clear hsz f1 f2 f3 f10 f12 f14 f20 f21 f22)
 (have o:=nF;have q:=ow;have r:=nZ;have s:=m7;have u:=nG;have z:=nH);unfold qR mf pJ qQ qv mP;unfold nB nA;unfold lY nT;unfold mO;simp only[Tryz.f6];refine GX.seq ?_;refine GX.seq ?_
 ((refine GX.region ?_);walk_nrm)
 iterate 4 ((refine GX.vz w ?_);walk_nrm)
 refine GX.kT ?_;refine GX.cond (t:=false) (by kernel_rfl) rfl ?_;simp only[dL,dp];refine GX.exit rfl ?_;refine GX.inBlock ?_
 ((refine GX.region ?_);walk_nrm)
 iterate 3 ((refine GX.vz w ?_);walk_nrm)
 refine GX.kT ?_;refine GX.inLoop ?_;have b:=l.out;unfold mf at b;unfold lY nT at b;unfold mO at b;simp only[Tryz.f6]at b;exact b _ ⟨rfl,rfl,rfl,rfl,rfl,rfl,rfl,rfl⟩
def Gu (w:World) (la ma:Option Addr) (L:Nat):Prop:=∀k,k<L→∃g h p y c,la=some ⟨g,0,none⟩∧ma=some ⟨h,0,none⟩∧uo w g k p y c∧uo w h k p y c
theorem uo.below{w':World}(h:uo w g k p y c)(hB:Below w.heap.size w w'):uo w' g k p y c:=by
 have b:g<w.heap.size:=iK _ _ h.1;exact⟨(hB.cell (p:=⟨g,_,none⟩) b).trans h.1,(hB.cell (p:=⟨g,_,none⟩) b).trans h.2.1,(hB.cell (p:=⟨g,_,none⟩) b).trans h.2.2⟩
theorem UN(E:i<4611686018427387904)(F:L≤8):∀(m k:Nat),k+m=L→∀(a:Act)(w:World),mH a tv iv at_ kL kM (i:Int)→a.tmps[20]?=some (.slice la L lc)→a.tmps[21]?=some (.slice ma L mc)→a.tmps[22]?=some (.int .i64 (k:Int))→Gu w la ma L→(∀a' w',mH a' tv iv at_ kL kM ((i+1:Nat):Int)→Below w.heap.size w w'→GX [] Q ((base 6).at a' (.code lY::mf)) [] w') →
   GX [] Q ((base 6).at a (.code pJ::qR)) [] w:=by
 intro m
 induction m with
 |zero =>
  intro k G a w f f20 f21 f22 hS b;obtain rfl:k=L:=by omega
  exact UM E f f20 f21 f22 fun a' d=>b a' w d (iJ _ _)
 |succ m H =>
  intro k G a w f f20 f21 f22 hS b;obtain⟨g,h,p,y,c,rfl,rfl,I,J⟩:=hS k (by omega);refine UK (by omega) f f20 f21 f22 fun U l o q r=>?_
  refine UI l o q r (by omega) F I J fun V w2 s u z A e hB=>?_
  refine UL (by omega) s u z A e fun K C d20 d21 d22=>?_
  refine H (k+1) (by omega) K w2 C d20 d21 d22 (fun j M=>?_) fun a' w' d D=>b a' w' d (hB.trans (D.mono hB.size))
  obtain⟨g',h',p',O,c',P,R,S,T⟩:=hS j M;exact⟨g',h',p',O,c',P,R,S.below hB,T.below hB⟩
theorem Gv{x b:Nat→List Int×Bool}:∀n,(∀i,i<n→b i=x i)→mB b n=mB x n
 |0,_=>rfl
 |n+1,h=>by unfold mB;rw[h n (by omega),Gv n fun i d=>h i (by omega)]
theorem UO(x:Nat→List Int×Bool)(n:Nat):(mB x n).length≤n:=by rw[BN];exact BA x n
variable {cap:Nat} {ao:Option Addr}
theorem Gw{x:Nat→List Int×Bool}{p:Nat}(h:xS n x v w g cap ao)(d:(mB x n)[k]?=some p):uo w g k (p:Int) (x p).1 (x p).2:=by
 have b:=h.at_ k p d;rw[dY]at b;exact⟨b 0 _ rfl,b 1 _ rfl,b 2 _ rfl⟩
def BV (w0:World) (ta ia:Option Addr) (i:Nat):Prop:=∃tb to t jb jo kY ins,ta=some ⟨tb,to,none⟩∧ia=some ⟨jb,jo,none⟩∧tb<w0.heap.size∧jb<w0.heap.size∧w0.cell? ⟨tb,to+i,none⟩=some (.int .i64 t)∧w0.cell? ⟨jb,jo+i,none⟩=some kY∧pO w0 kY ins (fun b=>b<w0.heap.size)∧ins.length≤1048576∧∀x∈ins,Bytes x.d∧x.d.length≤1048576
theorem pO.keep{w w':World}{v:Value}{ins:List ky}{K d:Nat→Prop}(h:pO w v ins K)(e:∀b,K b→d b∧w'.heap[b]?=w.heap[b]?):pO w' v ins d:=by
 obtain⟨l,jb,jo,jc,m,o,f,q⟩:=h;refine⟨l,jb,jo,jc,m,o,fun h=>(e _ (f h)).1,?_⟩
 by_cases h:ins=[]
 ·subst h;intro j x hx;simp at hx
 ·exact q.keep (e _ (f h)).2
theorem UP(X:n≤8)(hid:0≤id)(aK:nt≤4398046511103)(Y:ni≤4398046511103)(hIn:∀i,i<nt→i<ni→BV w0 ta ia i):∀(m i:Nat)(a:Act)(w:World)(now:Int)(da db:Nat→SD),nt≤i+m→mH a (.slice ta nt tc) (.slice ia ni ic) at_ kL kM (i:Int)→oA w0 w (fun _=>False) (fun _=>False) kL kM n now now au id da db→(0≤now∧now≤1099511627776) →
   (∀i,i<n→(mA (da i).s∧((da i).s.st=0→(da i).v=.slice none 0 0)∧0≤(da i).p.hold∧(da i).p.hold≤65535)∧(db i).s=(da i).s∧(db i).p.au=(da i).p.au∧(db i).p.hold=(da i).p.hold∧((da i).s.st=0→(db i).v=.slice none 0 0)) →
   GX [] (qu fun w'=>∀b,b<w0.heap.size→w'.heap[b]?=w0.heap[b]?) ((base 6).at a (.code lY::mf)) [] w:=by
 intro m
 induction m with
 |zero =>
  intro i a w now da db hm D hW E f;exact BU D (.inl (by omega)) hW.old
 |succ m ih =>
  intro i a w now da db hm D hW E f
  by_cases Z:nt≤i
  ·exact BU D (.inl Z) hW.old
  by_cases aa:ni≤i
  ·exact BU D (.inr ⟨by omega,aa⟩) hW.old
  obtain⟨tb,to,t,jb,jo,kY,ins,rfl,rfl,F,G,ht,hj,hV,hlen,hb⟩:=hIn i (by omega) (by omega);refine Uy D (by omega) (by omega) fun a1 ab f15 f16=>?_
  have hle:=hW.le;have ad:w.cell? ⟨jb,jo+i,none⟩=some kY:=(jT (a:=⟨jb,jo+i,none⟩) (hW.old jb G)).trans hj;refine Ux (w1:=w) (ins:=ins) (by omega) Y (by omega) ad (hV.keep fun b hb=>⟨by omega,hW.old b hb⟩) hlen (fun x hx=>(hb x hx).2) (fun a2 w2 v pl ae af j l hold hsz=>?_) ins.length 0 (by omega) a1 w (.slice none 0 0) [] ab ⟨f15,f16,ju _ _ _ _,.nil,fun b hb=>rfl,dD _⟩;have ag:=jA j;have ah:oA w0 w2 (fun b=>v.ownBlock=some b) (fun _=>False) kL kM n now now au id da db:=hW.grow hold hsz fun b hb=>ag b hb
  have e:mP=.seq (.region 23 uk true) qv:=by kernel_rfl
  rw[e];refine GX.seq ?_;refine UC ae af ah X hid E (fun i o=>(f i o).1) (by omega) (by omega) F G ht hj hV (by omega) (fun x hx=>⟨(hb x hx).1,by have:=(hb x hx).2;omega⟩) (fun a3 w3 lv ai aj ak hT=>?_);obtain⟨H,al,am,hO,an,ap⟩:=hT;have aq:∃la ll lc,lv=.slice la ll lc:=by
   obtain⟨B,q⟩:=hO;obtain⟨ao,cp,e,_⟩:=mV q;exact⟨_,_,_,e⟩
  obtain⟨la,ll,lc,rfl⟩:=aq;have ar:=l.len;have av:pO w3 v pl (fun b=>v.ownBlock=some b):=(Gm j fun b hb=>hb).keep fun b hb=>⟨hb,ap b hb⟩
  have I:∀x∈pl,Bytes x.d∧x.d.length≤1048576:=ny.each (Q:=fun d=>Bytes d∧d.length≤1048576) (fun d1 d2 h=>⟨⟨fun x hx=>h.1 x (by simp[hx]),by have:=h.2;simp at this;omega⟩,fun x hx=>h.1 x (by simp[hx]),by have:=h.2;simp at this;omega⟩) l hb;refine UD ai aj ak al X hid E (fun i o=>?_) (by omega) F ht (by omega) av (by omega) (fun x hx=>⟨(I x hx).1,by have:=(I x hx).2;omega⟩) (fun a4 w4 mv J aw d20 d21 ax ay az aA=>?_)
  ·obtain⟨⟨k1,k2,C⟩,T,U,K,k7⟩:=f i o;rw[T,K];exact⟨k1,k7,C⟩
  have M:=FZ (t:=t) E;have aL:=FX (t:=t) E;have V:∀i,i<n→lF au id (lC now t) db (fun i=>kF i pl) i=lF au id (lC now t) da (fun i=>kF i ins) i:=fun i o=>by
   obtain⟨⟨k1,k2,C⟩,T,U,K,k7⟩:=f i o;unfold lF;rw[T,U,K];exact(l.kF i).turn C M k1 fun x hx=>(hb x (gi.1 hx).1).1
  obtain⟨g,O,lo,r⟩:=BP hO;obtain⟨h,P,mo,u⟩:=BP az;have z:mB (fun i=>(lF au id (lC now t) db (fun i=>kF i pl) i).2) n=mB (fun i=>(lF au id (lC now t) da (fun i=>kF i ins) i).2) n:=Gv n fun i o=>by rw[V i o]
  obtain⟨rfl,rfl,rfl⟩:la=lo∧ll=(mB (fun i=>(lF au id (lC now t) da (fun i=>kF i ins) i).2) n).length∧lc=O:=by
   have:=r.v;simp only[jQ]at this;exact this
  have aB:mv=.slice mo (mB (fun i=>(lF au id (lC now t) da (fun i=>kF i ins) i).2) n).length P:=by rw[←z];exact u.v
  subst aB;have h8:(mB (fun i=>(lF au id (lC now t) da (fun i=>kF i ins) i).2) n).length≤8:=dE (UO _ n) X;have hS:Gu w4 la mo (mB (fun i=>(lF au id (lC now t) da (fun i=>kF i ins) i).2) n).length:=fun k hk=>by
   obtain⟨p,hp⟩:∃p,(mB (fun i=>(lF au id (lC now t) da (fun i=>kF i ins) i).2) n)[k]?=some p:=⟨_,jH hk⟩;have R:mB (fun i=>(lF au id (lC now t) da (fun i=>kF i ins) i).2) n≠[]:=by intro e;rw[e]at hk;simp at hk
   have aC:p<n:=BO _ n p (gv hp);have A:=r.a R;have e2:=u.a (by rw[z];exact R);have aD:w4.heap[g]?=w3.heap[g]?:=aA g (an g (by rw[A];rfl));have o1:=Gw (r.keep aD) hp;have o2:=Gw u (z▸hp);simp only[V p aC]at o2;exact⟨g,h,_,_,_,A,e2,o1,o2⟩
  refine UJ h8 aw d20 d21 rfl rfl fun a5 aE aF aG aH=>?_
  refine UN (by omega) h8 _ 0 (dG _) a5 w4 aE aF aG aH hS fun a6 w6 aI S=>?_
  refine ih (i+1) a6 w6 (lC now t) H J (by omega) aI (ax.grow (N':=fun _=>False) (fun b hb=>S.block b hb) S.size fun b hb=>hb.elim) (by omega) (fun p hp=>?_);obtain⟨⟨k1,k2,C⟩,T,U,K,k7⟩:=f p hp;obtain⟨A,e2,e3,e4⟩:=am p hp;obtain⟨b1,b2,b3,b4⟩:=ay p hp;have aJ:∀x∈kF p ins,Bytes x.d:=fun x hx=>(hb x (gi.1 hx).1).1
  have hs:(J p).s=(H p).s:=by rw[b1,V p hp,A]
  refine⟨⟨?_,?_,by rw[e3];exact C⟩,hs,by rw[b2,U,e2],by rw[b3,K,e3],fun h=>b4 ?_⟩
  ·rw[A];exact Sb C M k1 aJ
  ·rw[A];exact e4
  ·rw[V p hp,←A];exact h
theorem UQ{nh:Int}{P:Nat→Pr}(o:nI w (.slice ao n cap) n P)(hid:0≤id)(e:nt≤4398046511103)(f:ni≤4398046511103)(hIn:∀i,i<nt→i<ni→BV w ta ia i)(d:(mE au id n P).1=0→n≤8∧∀i,i<n→0≤(P i).hold∧(P i).hold≤65535):GX [] (qu fun w'=>∀b,b<w.heap.size→w'.heap[b]?=w.heap[b]?) ((base 6).at { tmps:=#[.agg #[.int .i64 au,.int .u32 id,.int .u32 nh,.slice ao n cap],.slice ta nt tc,.slice ia ni ic,.int .i64 at_]++Array.replicate 148 undef,defers:=[] } [.code (Tryz.f6.body.getD .skip)]) [] w:=by
 refine Us o (by cases ta<;>rfl) (by cases ia<;>rfl) (fun w' h=>h) fun a w' kL kM da db q r hW hd=>?_
 obtain⟨u,z⟩:=d q;refine UP u hid e f hIn nt 0 a w' 0 da db (by omega) r hW (by omega) (fun i j=>?_);obtain⟨⟨l,A,C⟩,m,D,E⟩:=hd i j;have F:(da i).s=n6:=by rw[l];rfl
 have G:(da i).v=.slice none 0 0:=by rw[l];rfl
 have H:(db i).s=n6:=by rw[m];rfl
 have I:(db i).v=.slice none 0 0:=by rw[m];rfl
 rw[F,C,H,D,E,A];exact⟨⟨xM,fun _=>G,z i j⟩,rfl,rfl,rfl,fun _=>I⟩
end
end Go.Proofs.YtjnkcibpkkjniaaGreat.kN
namespace Go.Proofs.YtjnkcibpkkjniaaGreat
section
open Go Go.Conc Go.RowKit Go.Proofs.YtjnkcibpkkjniaaGreat.kx Go.Proofs.YtjnkcibpkkjniaaGreat.kN
theorem UR(W:World){au id nh at_:Int}{ao ta ia:Option Addr}{n cap nt tc ni ic:Nat}{P:Nat→Pr}(V:nI W (.slice ao n cap) n P)(q:∀i<n,Dz W (P i).im∧Dz W (P i).ex)(hid:0≤id)(X:nt≤1048576)(Y:ni≤1048576)(Z:∀i,i<nt→∃tb to t,ta=some ⟨tb,to,none⟩∧W.cell? ⟨tb,to+i,none⟩=some (.int .i64 t))(hI:∀i,i<ni→∃(jb jo:Nat)(u:Value)(m:Nat)(r:Nat→ky),ia=some ⟨jb,jo,none⟩∧W.cell? ⟨jb,jo+i,none⟩=some u∧Sl W 3 u m (fun i=>ky.cells (r i))∧m≤1048576∧Dz W u∧∀j<m,Bytes (r j).d∧(r j).d.length≤1048576)(s:Arg W ao)(A:Arg W ta)(D:Arg W ia):∃N last o w' t',runNT Tryz.prog (N+1) (solo (G (Frame.enter Tryz.prog 6 #[.agg #[.int .i64 au,.int .u32 id,.int .u32 nh,.slice ao n cap],.slice ta nt tc,.slice ia ni ic,.int .i64 at_] .normal) []) W) #[]=(.ended o w',t')∧runN Tryz.prog N (solo (G (Frame.enter Tryz.prog 6 #[.agg #[.int .i64 au,.int .u32 id,.int .u32 nh,.slice ao n cap],.slice ta nt tc,.slice ia ni ic,.int .i64 at_] .normal) []) W)=.next last∧step Tryz.prog last=.ended o w' ∧
   Conc.Good Tryz.prog (fun v w'=>v=.bool true∧(∀B,B<W.heap.size→w'.heap[B]?=W.heap[B]?)∧w'.os=W.os∧w'.output=W.output) last o w' t':=by
 obtain⟨wS,s1,s2,f⟩:=@Pc j9 sw rfl W;have f:@tk j9 W wS:=f;obtain⟨P',E⟩:=PS f V q;have hIn:∀i,i<nt→i<ni→BV wS ta ia i:=fun i F h2=>by
  obtain⟨tb,to,t,H,S⟩:=Z i F;obtain⟨jb,jo,u,m,r,e3,T,e5,e6,e7,e8⟩:=hI i h2;obtain⟨u',q1,q2,_⟩:=@yG j9 W wS f _ _ _ T;refine⟨tb,to,t,jb,jo,u',(List.range m).map r,H,e3,?_,?_,@sI j9 W wS f _ _ _ S rfl,q1,P7 f s1 e5 q2 e7,by simpa using e6,fun x hx=>?_⟩
  ·rw[s1];exact iK _ _ S
  ·rw[s1];exact iK _ _ T
  ·obtain⟨j,hj,rfl⟩:=iY.1 hx;have:=e8 j (gg.1 hj);exact this
 have U:=UQ (au:=au) (id:=id) (nh:=nh) (at_:=at_) (tc:=tc) (ic:=ic) E hid (by omega) (by omega) hIn (fun h=>P9 h);have he:∀x y z u,Frame.enter Tryz.prog 6 #[x,y,z,u] .normal=(base 6).at { tmps:=#[x,y,z,u]++Array.replicate 148 undef,defers:=[] } [.code (Tryz.f6.body.getD .skip)]:=fun x y z u=>by
  unfold Frame.enter;simp only[Tryz.func6];rfl
 rw[←he]at U;have I:@HR j9 (oH W) wS W:=@Pd j9 sw rfl W wS s1 s2 f;refine @Jv j9 Tryz.prog _ _ _ (.bool true) _ _ Tryz.func6 rfl (by kernel_rfl) (fun ρ v' h=>by cases h;rfl) rfl #[.agg #[.int .i64 au,.int .u32 id,.int .u32 nh,.slice ao n cap],.slice ta nt tc,.slice ia ni ic,.int .i64 at_] _ wS W (oH W) I
  (@mW.mk j9 _ _ _ _ _ rfl fun i v v' a b=>?_) U (fun ρ' aa w' hle hh J K M l=>⟨rfl,fun B hB=>?_,M,l⟩)
 ·match i,a,b with
  |0,a,b =>
   simp at a b;subst a;subst b;refine .inl (@VR.agg j9 _ _ _ rfl fun j v v' c d=>?_)
   match j,c,d with
   |0,c,d=>simp at c d;subst c;subst d;exact @VR.int j9 _ _ _
   |1,c,d=>simp at c d;subst c;subst d;exact @VR.int j9 _ _ _
   |2,c,d=>simp at c d;subst c;subst d;exact @VR.int j9 _ _ _
   |3,c,d=>simp at c d;subst c;subst d;exact AW s _ _
   |j+4,c,d=>simp at c
  |1,a,b=>simp at a b;subst a;subst b;exact .inl (AW A _ _)
  |2,a,b=>simp at a b;subst a;subst b;exact .inl (AW D _ _)
  |3,a,b=>simp at a b;subst a;subst b;exact .inl (@VR.int j9 _ _ _)
  |i+4,a,b=>simp at a
 ·by_cases hd:∃p,oH W B=some p∧p.part=none
  ·obtain⟨p,hp,O⟩:=hd;obtain⟨C,e,fr,hW,hc⟩:=AN hp;rcases hc with⟨_,rfl⟩|⟨hz,rfl⟩
   ·cases O
   obtain⟨c,k1,k2,k3⟩:=f B C e fr hW;rw[dt hz]at k1;obtain⟨o,o',r1,r2,R⟩:=@HR.obj j9 _ _ _ hh B _ (hle _ _ hp);have H:=(J B (by rw[s1];exact hB)).trans k1;rw[H]at r1;obtain rfl:=ff r1;have R:@OR j9 ρ' _ o':=R
   cases R with
   | @cells _ C' _ _ hv =>
    have F:C'=C:=by
     have:=@ki.size j9 _ _ _ hv;rw[fE (xs:=C') (by omega),fE (xs:=C) (by omega)]
    rw[hW,←F];exact r2
  ·refine K B hB fun b p hp e=>?_
   rw[(vV hp).1]at e;subst e;rcases AO hp with rfl|⟨ty,rfl⟩
   ·exact absurd ⟨_,hp,rfl⟩ hd
   ·exact⟨ty,rfl⟩
end
section
open Go.ChangeShapes Go.WideShapes Go.ChangeAt Go.RowKit Go.Deep Go.Conc Go.Proofs.YtjnkcibpkkjniaaGreat.kx Go.Proofs.YtjnkcibpkkjniaaGreat.kN
theorem Wh{w w':World}(h:∀b,b<w.heap.size→w'.heap[b]?=w.heap[b]?):w.heap.size≤w'.heap.size:=by
 refine Nat.le_of_not_lt fun d=>?_
 have e:=h _ d;rw[dw d,fH (dD _)]at e
 cases e
theorem Tryz.own:ownKnob Tryz.prog.godebug=none:=by kernel_rfl
theorem Tryz.laidOut:laidOutB Tryz.prog=true:=by kernel_rfl
variable {W:World}
theorem US{a:Addr}{row:TypeId}{cells:Nat}(h:W.shape? a.block=some (row,cells)):∃C e fr,W.heap[a.block]?=some (.cells C e fr):=by
 unfold World.shape? at h;split at h
 ·rename_i c e f b;exact⟨c,e,f,b⟩
 ·cases h
theorem BW{base:Nat}{t e:TypeId}(d:Tryz.prog.underlying t=some (.slice e)){ao:Option Addr}{l c:Nat}(h:Cell.okWide Tryz.prog W .any base t (.slice ao l c)):Arg W ao:=by
 intro a f;subst f;simp only[Cell.okWide,d,Cell.ok,World.has]at h;obtain⟨_,_,_,_,row,cells,b,_⟩:=h;exact US b
theorem UT:Tryz.f6.params=#[25,31,47,3]:=Tryz.params6
theorem UU(os:Os)(started:os.Started)(H:Type)(enc:TypeId×Value→H)(F:Stop.Interp):ReturnsInLeavingWide {} Tryz.checked os 6 .any ((Rows.OpenSpec.upto Rows.cutsSpec).pre6 enc Tryz.prog Tryz.f6 Rows.cutsUptoRow.domain false) (((Rows.OpenSpec.upto Rows.cutsSpec).at F).post enc Tryz.prog Tryz.f6 false true false false):=by
 refine O7 (C:=Tryz.checked) (s:=Rows.OpenSpec.upto Rows.cutsSpec) (k:=Rows.uptoSmall) rfl Tryz.own started Tryz.func6
  (OpenSpec.witness (enc:=enc) (C:=Tryz.checked) (s:=Rows.OpenSpec.upto Rows.cutsSpec) (k:=Rows.uptoSmall) rfl false ⟨#[],#[.agg #[.int .i64 0,.int .u32 0,.int .u32 0,.slice none 0 0],.slice none 0 0,.slice none 0 0,.int .i64 0],[]⟩ 8 (by kernel_rfl) (by kernel_rfl) (by kernel_rfl)
   (x:=([.agg [.lit (.int .i64 0),.lit (.int .u32 0),.lit (.int .u32 0),.nil],.nil,.nil,.lit (.int .i64 0)],[],[])) (by kernel_rfl) rfl (by kernel_rfl)) ?_
 intro W base args ds gs before E hW K M;have hsz:(DataW.weightsEach Tryz.prog (Tryz.f6.params.toList++Rows.cutsSpec.plain.varTypes Tryz.prog) (ds++gs)).all (·≤reachBytes)=true:=M;clear M;have A:Rows.uptoBulkAll (ds++gs)≤1048576:=j6 K;clear K;have f:∀(j:Nat) t v,Tryz.f6.params[j]?=some t→args[j]?=some v→Value.okWide Tryz.prog W .any base t v:=E;have S:=hW;obtain⟨p,q,Z,hV,rfl,_,_⟩:=hW;have hA:DataW.TrodAll enc Tryz.prog W 0 (fun _=>true) true Tryz.f6.params.toList args.toList ds p:=Z;rw[UT]at hA f hsz;obtain⟨v0,v1,v2,v3,d0,d1,d2,d3,O,R,p2,p3,rfl,rfl,rfl,h0,h1,h2,h3⟩:=trodAll_four hA;obtain⟨rfl,rfl⟩:=trodVars_none hV;clear Z E hA;simp only[ij]at S A;simp only[Rows.uptoBulkAll]at A;have I:∀x∈O++R++p2++p3,x.block<W.heap.size:=fun x hx=>by simpa using S.lt x hx
 have T:∀(j:Nat)(t:TypeId)(d:DataW H),([25,31,47,3]:List TypeId)[j]?=some t→[d0,d1,d2,d3][j]?=some d→∀m∈d.weights Tryz.prog t,m≤reachBytes:=fun j t d G hd m hm=>by
  have:=eu.1 hsz m (iZ (j:=j) (t:=t) (by
   match j,G with
   |0,G=>exact G
   |1,G=>exact G
   |2,G=>exact G
   |3,G=>exact G) (by
   match j,hd with
   |0,hd=>exact hd
   |1,hd=>exact hd
   |2,hd=>exact hd
   |3,hd=>exact hd) m hm)
  simpa using this
 have ai:=h3;obtain⟨at_,aj,_,_,_⟩:=open_int Tryz.underlying3 (f 3 3 v3 rfl rfl) h3;subst aj;obtain⟨c0,c1,c2,c3,y0,y1,y2,y3,n,rfl,hd,_,t0,t1,t2,t3⟩:=Joins.open_agg4 Tryz.underlying25 (by kernel_rfl) Tryz.PF (f 0 25 v0 rfl rfl) h0;obtain⟨au,e0,_,_⟩:=iS Tryz.underlying3 t0;obtain⟨id,e1,_,wid⟩:=iS Tryz.underlying22 t1;obtain⟨nh,e2,_,_⟩:=iS Tryz.underlying22 t2;obtain rfl:c0=.int .i64 au:=by simpa using e0
 obtain rfl:c1=.int .u32 id:=by simpa using e1
 obtain rfl:c2=.int .u32 nh:=by simpa using e2
 have ak:∀m∈y3.1.weights Tryz.prog 23,m≤reachBytes:=fun m hm=>by
  apply T 0 25 d0 rfl rfl;rw[hd];simp only[DataW.weights,Tryz.underlying25];exact iZ (j:=3) (t:=23) rfl rfl m hm
 obtain⟨m,P,hP,_,al⟩:=PN (fun _=>rfl) (v:=c3) t3 ak;obtain⟨ao,cap,rfl⟩:∃ao cap,c3=.slice ao m cap:=by obtain⟨⟨ao,cap,X,_⟩,_⟩:=hP;exact⟨ao,cap,X⟩
 have hid:0≤id:=(wf_u32 wid).1;have am:=h1;have an:=h2;obtain⟨f1,U⟩:=h1;obtain⟨f2,V⟩:=h2;obtain⟨ta,l,tc,rfl⟩:=okWide_slice Tryz.underlying31 (f 1 31 v1 rfl rfl);obtain⟨ia,J,ic,rfl⟩:=okWide_slice Tryz.underlying47 (f 2 47 v2 rfl rfl);simp only[Value.cells]at U V;obtain⟨nt,ct,Dt,ap,aF,aa⟩:=xx (size:=1) (bytes:=8) Tryz.underlying31 Tryz.rN (by omega) (by kernel_rfl) U (T 1 31 d1 rfl rfl);obtain⟨ni,u,ab,_,aq⟩:=P2 (fun _=>rfl) V (T 2 47 d2 rfl rfl);obtain⟨ad,ar⟩:=P6 (B:=1048576) V (by show Rows.uptoBulk d2≤1048576;omega) ab;have av:Arg W ta:=BW Tryz.underlying31 (by have h:=f 1 31 (.slice ta l tc) rfl rfl;unfold Value.okWide at h;rw[Tryz.underlying31]at h;exact h);have aw:Arg W ia:=BW Tryz.underlying47 (by have h:=f 2 47 (.slice ia J ic) rfl rfl;unfold Value.okWide at h;rw[Tryz.underlying47]at h;exact h);have ax:Arg W ao:=by
  have h:=f 0 25 (.agg #[.int .i64 au,.int .u32 id,.int .u32 nh,.slice ao m cap]) rfl rfl;unfold Value.okWide at h;rw[Tryz.underlying25]at h;obtain⟨cs,e,_,ts,ae,_,af⟩:=h
  cases e
  have G:Tryz.prog.cellTypes Tryz.prog.depth 25=some [3,22,22,23]:=by kernel_rfl
  rw[G]at ae
  cases ae
  obtain⟨u,hu,hc⟩:=af 3 (.slice ao m cap) rfl
  cases hu
  exact BW Tryz.underlying23 hc
 obtain⟨aG,aH,ev,_,_,ay⟩:=ap
 cases ev
 obtain⟨aI,aJ,ev,_,_,az⟩:=ab
 cases ev
 have hT:∀i,i<l→∃tb to t,ta=some ⟨tb,to,none⟩∧W.cell? ⟨tb,to+i,none⟩=some (.int .i64 t):=fun i Y=>by
  obtain⟨b,o,e,h5⟩:=ay (by omega);obtain⟨⟨k,y,hy,_⟩,_⟩:=aa i Y;obtain⟨z,hz,_,_⟩:=iS Tryz.underlying3 hy;refine⟨b,o,z,e,?_⟩;have:=h5 i Y 0 (.int .i64 z) (by rw[hz];rfl);rw[show o+i=o+i*1+0 by omega];exact this
 have hI:∀i,i<J→∃(jb jo:Nat)(u:Value)(m:Nat)(r:Nat→ky),ia=some ⟨jb,jo,none⟩∧W.cell? ⟨jb,jo+i,none⟩=some u∧Sl W 3 u m (fun i=>ky.cells (r i))∧m≤1048576∧Dz W u∧∀j<m,Bytes (r j).d∧(r j).d.length≤1048576:=fun i Y=>by
  obtain⟨b,o,e,h5⟩:=az (by omega);obtain⟨m,r,q1,q2,q3,q4⟩:=aq i Y;obtain⟨z1,z2⟩:=ar i Y m r q1;refine⟨b,o,u i,m,r,e,?_,q1,z1,q3,fun j hj=>⟨(q4 j hj).1,z2 j hj⟩⟩;have:=h5 i Y 0 (u i) rfl;rw[show o+i=o+i*1+0 by omega];exact this
 have ag:l≤1048576:=by
  rcases iT Tryz.underlying31 U with⟨X,_⟩|⟨a,len,aE,m',k,D,Pl,X,_,aK,aL,hm,hx,aM⟩
  ·simp at X;omega
  ·simp at X;obtain⟨_,rfl,_⟩:=X;have aA:d1=.slice ((List.range l).map D) ((List.range (m'-l)).map fun j=>D (l+j)):=dI Prod.fst hx;rw[aA]at A;simp only[Rows.uptoBulk]at A;have:=yJ ((List.range l).map D);simp only[iW,iX]at this;omega
 obtain⟨N,last,o,w',t',r1,r2,r3,r4⟩:=UR (au:=au) (id:=id) (nh:=nh) (at_:=at_) (tc:=tc) (ic:=ic) W hP al hid ag ad hT hI ax av aw;refine⟨N,last,o,w',t',r1,r2,r3,r4.mono fun v hp=>?_⟩;obtain⟨rfl,hb,aB,ah⟩:=hp;have hB:Below W.heap.size W { w' with tape:=W.tape }:=⟨aB,rfl,ah,Wh hb,hb⟩;have g0:=Below.trod Tryz.laidOut (by kernel_rfl) (j6 (by kernel_rfl)) h0 hB fun x hx=>I x (gZ _ (gZ _ (gZ _ hx)))
 have g1:=Below.trod Tryz.laidOut (by kernel_rfl) (j6 (by kernel_rfl)) am hB fun x hx=>I x (gZ _ (gZ _ (gP _ hx)))
 have g2:=Below.trod Tryz.laidOut (by kernel_rfl) (j6 (by kernel_rfl)) an hB fun x hx=>I x (gZ _ (gP _ hx))
 have g3:=Below.trod Tryz.laidOut (by kernel_rfl) (j6 (by kernel_rfl)) ai hB fun x hx=>I x (gP _ hx)
 have aC:DataW.TrodAll enc Tryz.prog { w' with tape:=W.tape } 0 (fun b=>decide (b<W.heap.size)) true [25,31,47,3] [.agg #[.int .i64 au,.int .u32 id,.int .u32 nh,.slice ao m cap],.slice ta l tc,.slice ia J ic,.int .i64 at_] [d0,d1,d2,d3] (O++R++p2++p3) :=
  ⟨O,R++(p2++p3),g0,trodAll_mk3 g1 g2 g3,by simp only[iF]⟩
 have aD:DataW.TrodAll enc Tryz.prog w' 0 (fun b=>decide (b<W.heap.size)) true [25,31,47,3] [.agg #[.int .i64 au,.int .u32 id,.int .u32 nh,.slice ao m cap],.slice ta l tc,.slice ia J ic,.int .i64 at_] [d0,d1,d2,d3] (O++R++p2++p3):=DataW.TrodAll.of_heap (w':=w') (show({ w' with tape:=W.tape }:World).heap=w'.heap from rfl) aC;have hk:=hB.frame fun p=>p∈O++R++p2++p3∧(p∈[]∨p∈O++R++p2++p3∨p∈[])
 refine⟨[d0,d1,d2,d3],[],O++R++p2++p3,[],O++R++p2++p3,[],S,?_,?_,rfl,⟨hk.1,hk.2.1,hk.2.2⟩,fun h=>by cases h⟩
 ·exact trodAll_mk1 (shut_bool Tryz.underlying4 true)
 ·exact aD
theorem cuts_holds:Rows.CutsUptoSaid :=
 O8 6 Tryz.f6 rfl rfl rfl rfl rfl rfl rfl ⟨rfl,rfl,rfl,rfl,rfl⟩ rfl rfl rfl rfl rfl (by kernel_rfl) Tryz.func6 (by kernel_rfl)
  (j6 (by kernel_rfl)) (by unfold Func.isWrapper;rw[dt (of_decide_eq_false (by kernel_rfl))];exact⟨rfl,rfl⟩)
  (fun os started H enc F=>UU os started H enc F)
end
end Go.Proofs.YtjnkcibpkkjniaaGreat
