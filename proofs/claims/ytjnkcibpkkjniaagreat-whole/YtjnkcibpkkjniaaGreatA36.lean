import Derived.Test.YtjnkcibpkkjniaaGreatA00
import Derived.Test.YtjnkcibpkkjniaaGreatA35
import Derived.Lib.SmallJoins
set_option linter.all false
set_option maxHeartbeats 2000000
set_option maxRecDepth 100000
namespace Go.Proofs.YtjnkcibpkkjniaaGreat.kj
section
open Go Go.Conc Go.RowKit Go.Proofs.YtjnkcibpkkjniaaGreat.j7
noncomputable def rm:Code:=match n8 with | .seq _ (.block _ (.loop c))=>c|_=>.skip
noncomputable def rW:List Item:=.inLoop rm::.inBlock 4::.inBlock 1::.code ng::mL
variable {Q:Frame→List Frame→World→Prop} {w:World} {a:Act} {bC bB sp:Nat} {tv iv:Value}
theorem Ta{i:Int}(m:ml a tv iv bC sp bB i)(j:∀a',ml a' tv iv bC sp bB i→a'.tmps[17]?=some (.int .i64 0)→GX [] Q ((base 9).at a' (.code rm::rW)) [] w):GX [] Q ((base 9).at a (.code n8::.inBlock 1::.code ng::mL)) [] w:=by
 have o:Hid (_):=j;clear j;obtain⟨h,hsz,f1,f2,f3,f8,f10,f11⟩:=m;obtain⟨A,B⟩:=a;simp only at h hsz f1 f2 f3 f8 f10 f11;subst h;obtain⟨f,rfl⟩:=sH hsz;simp only[fR,gx,fS,dR]at f1 f2 f3 f8 f10 f11;simp only[f1,f2,f3,f8,f10,f11];clear hsz f1 f2 f3 f8 f10 f11
 (have q:=nL;have r:=oX;have s:=oi;have x:=nv;have y:=nM;have z:=nN);unfold mL n8 ng nz nd;unfold lE ny;unfold mj;simp only[Tryz.f9];refine GX.seq ?_
 ((refine GX.region ?_);walk_nrm)
 ((refine GX.v rfl rfl (by kernel_rfl) (fun T K k=>?_));unfold execOp;go_simp;(refine k _ _ ?_);clear k K;(refine GX.jZ (v:=w) ?_ rfl rfl);clear T;walk_nrm);refine GX.kE ?_;refine GX.block ?_;refine GX.loop ?_;have g:=o.out;unfold rW mL rm n8 ng nz nd at g;unfold lE ny at g;unfold mj at g;simp only[Tryz.f9]at g;exact g _ ⟨rfl,rfl,rfl,rfl,rfl,rfl,rfl,rfl⟩ rfl
variable {w0:World} {n cap:Nat} {now au id nh:Int} {ao:Option Addr} {d:Nat→SD} {bg:Nat→Bool}
theorem Tb{i:Int}{p:Nat}(A:ml a tv iv bC sp bB i)(hW:oJ w0 w bC bB sp n now au id nh ao cap d bg)(O:n≤8)(hp:p<n)(f17:a.tmps[17]?=some (.int .i64 (p:Int)))(x:∀a' (v:Bool),v=decide ((d p).s.st≠0)→ml a' tv iv bC sp bB i→a'.tmps[17]?=some (.int .i64 ((p+1:Nat):Int))→GX [] Q ((base 9).at a' (.code rm::rW)) [] (w.setCell ⟨bB,p,none⟩ (.bool v))):GX [] Q ((base 9).at a (.code rm::rW)) [] w:=by
 obtain⟨C,ty,hB,_,B,m⟩:=hW.hB;have R:w.cell? ⟨bB,p,none⟩=some (.bool (bg p)):=(jV hB p).trans (m p (by omega));have S:w.frozen? ⟨bB,p,none⟩=false:=kK hB p;have c3:=jV hW.hC 3;simp at c3;have i1:(p:Int)<(n:Int):=by omega
 have i3:(0:Int)≤(p:Int):=by omega
 have i4:(p:Int)<8:=by omega
 have D:IntKind.i64.wrap ((p:Int)+1)=((p+1:Nat):Int):=by rw[iw]<;>omega
 obtain⟨st,j⟩:∃st,(d p).s.st=st:=⟨_,rfl⟩;have E:Hid (∀T,Calls Tryz.prog 18 #[.pointer (some ⟨sp,0,none⟩),.int .i64 (p:Int)] (again w T) fun e w'=>e=.returned (.int .i64 st)∧w'=again w T):=fun T=>by
  rw[←j];exact Ft (w:=again w T) (hW.st.keep (fun b hb=>⟨fun _=>.inr rfl,fun _=>rfl⟩) (dx _) (fun b hb=>.inl hb)) hp
 obtain⟨v,o⟩:∃v:Bool,v=decide (st≠0):=⟨_,rfl⟩;have k:=x;rw[j]at k;have y:Hid (_):=fun a'=>k a' v o
 clear x k hW hB m j;obtain⟨q,hsz,f1,f2,f3,f8,f10,f11⟩:=A;obtain⟨U,V⟩:=a;simp only at q hsz f1 f2 f3 f8 f10 f11 f17;subst q;obtain⟨f,rfl⟩:=sH hsz;simp only[fR,gx,fS,dR]at f1 f2 f3 f8 f10 f11 f17;simp only[f1,f2,f3,f8,f10,f11,f17];clear hsz f1 f2 f3 f8 f10 f11 f17
 (have F:=nL;have G:=oX;have I:=oi;have J:=nv;have L:=nM;have M:=nN);unfold rW mL rm n8 ng nz nd;unfold lE ny;unfold mj;simp only[Tryz.f9];refine GX.seq ?_;refine GX.seq ?_
 ((refine GX.region ?_);walk_nrm)
 iterate 9 ((refine GX.v rfl rfl (by kernel_rfl) (fun T K h=>?_));unfold execOp;go_simp;(refine h _ _ ?_);clear h K;(refine GX.jZ (v:=w) ?_ rfl rfl);clear T;walk_nrm)
 refine GX.kE ?_;refine GX.cond (t:=true) (by kernel_rfl) rfl ?_;simp only[dg];refine GX.pj ?_;refine GX.seq ?_;refine GX.block ?_;refine GX.seq ?_
 ((refine GX.region ?_);walk_nrm)
 iterate 2 ((refine GX.v rfl rfl (by kernel_rfl) (fun T K h=>?_));unfold execOp;go_simp;(refine h _ _ ?_);clear h K;(refine GX.jZ (v:=w) ?_ rfl rfl);clear T;walk_nrm)
 refine GX.c rfl rfl (by kernel_rfl) (fun T K h=>?_);unfold execOp;go_simp;refine h _ _ _ (fun z=>?_);clear h K;refine js (E.out z) ?_;rintro e w' ⟨rfl,rfl⟩;refine⟨_,rfl,GX.jZ (v:=w) ?_ rfl rfl⟩;clear z;walk_nrm
 ((refine GX.v rfl rfl (by kernel_rfl) (fun T K h=>?_));unfold execOp;go_simp;(refine h _ _ ?_);clear h K;(refine GX.jZ (v:=w) ?_ rfl rfl);clear T;walk_nrm);refine GX.kE ?_
 ((refine GX.region ?_);walk_nrm)
 by_cases r:st=0
 ·subst r;obtain rfl:v=false:=by rw[o];rfl
  clear o
  iterate 4 ((refine GX.v rfl rfl (by kernel_rfl) (fun T K h=>?_));unfold execOp;go_simp;(refine h _ _ ?_);clear h K;(refine GX.jZ (v:=w) ?_ rfl rfl);clear T;walk_nrm)
  refine GX.u rfl rfl (by kernel_rfl) (fun T K h=>?_);unfold execOp;go_simp;refine h _ ?_;clear h K;refine GX.jZ (v:=w.setCell ⟨bB,p,none⟩ (.bool false)) ?_ rfl rfl;clear T;walk_nrm;refine GX.kE ?_;refine GX.inBlock ?_
  ((refine GX.region ?_);walk_nrm)
  iterate 3 ((refine GX.v rfl rfl (by kernel_rfl) (fun T K h=>?_));unfold execOp;go_simp;(refine h _ _ ?_);clear h K;(refine GX.jZ (v:=w.setCell ⟨bB,p,none⟩ (.bool false)) ?_ rfl rfl);clear T;walk_nrm)
  refine GX.kE ?_;refine GX.inLoop ?_;have g:=y.out;unfold rW mL rm n8 ng nz nd at g;unfold lE ny at g;unfold mj at g;simp only[Tryz.f9]at g;exact g _ ⟨rfl,rfl,rfl,rfl,rfl,rfl,rfl,rfl⟩ rfl
 ·obtain rfl:v=true:=by rw[o];simpa using r
  clear o;have N:(st != 0)=true:=by simpa using r
  iterate 4 ((refine GX.v rfl rfl (by kernel_rfl) (fun T K h=>?_));unfold execOp;go_simp;(refine h _ _ ?_);clear h K;(refine GX.jZ (v:=w) ?_ rfl rfl);clear T;walk_nrm)
  refine GX.u rfl rfl (by kernel_rfl) (fun T K h=>?_);unfold execOp;go_simp;refine h _ ?_;clear h K;refine GX.jZ (v:=w.setCell ⟨bB,p,none⟩ (.bool true)) ?_ rfl rfl;clear T;walk_nrm;refine GX.kE ?_;refine GX.inBlock ?_
  ((refine GX.region ?_);walk_nrm)
  iterate 3 ((refine GX.v rfl rfl (by kernel_rfl) (fun T K h=>?_));unfold execOp;go_simp;(refine h _ _ ?_);clear h K;(refine GX.jZ (v:=w.setCell ⟨bB,p,none⟩ (.bool true)) ?_ rfl rfl);clear T;walk_nrm)
  refine GX.kE ?_;refine GX.inLoop ?_;have g:=y.out;unfold rW mL rm n8 ng nz nd at g;unfold lE ny at g;unfold mj at g;simp only[Tryz.f9]at g;exact g _ ⟨rfl,rfl,rfl,rfl,rfl,rfl,rfl,rfl⟩ rfl
variable {i:Nat}
theorem Fv(m:ml a tv iv bC sp bB (i:Int))(hW:oJ w0 w bC bB sp n now au id nh ao cap d bg)(B:i<4611686018427387904)(f17:a.tmps[17]?=some (.int .i64 (n:Int)))(k:∀a',ml a' tv iv bC sp bB ((i+1:Nat):Int)→GX [] Q ((base 9).at a' (.code lE::mL)) [] w):GX [] Q ((base 9).at a (.code rm::rW)) [] w:=by
 have c3:=jV hW.hC 3;simp at c3;have i1:¬((n:Int)<(n:Int)):=by omega
 have o:IntKind.i64.wrap ((i:Int)+1)=((i+1:Nat):Int):=by rw[iw]<;>omega
 have q:Hid (_):=k;clear k hW;obtain⟨j,hsz,f1,f2,f3,f8,f10,f11⟩:=m;obtain⟨D,E⟩:=a;simp only at j hsz f1 f2 f3 f8 f10 f11 f17;subst j;obtain⟨f,rfl⟩:=sH hsz;simp only[fR,gx,fS,dR]at f1 f2 f3 f8 f10 f11 f17;simp only[f1,f2,f3,f8,f10,f11,f17];clear hsz f1 f2 f3 f8 f10 f11 f17
 (have r:=nL;have s:=oX;have x:=oi;have y:=nv;have z:=nM;have A:=nN);unfold rW mL rm n8 ng nz nd;unfold lE ny;unfold mj;simp only[Tryz.f9];refine GX.seq ?_;refine GX.seq ?_
 ((refine GX.region ?_);walk_nrm)
 iterate 6 ((refine GX.v rfl rfl (by kernel_rfl) (fun T K h=>?_));unfold execOp;go_simp;(refine h _ _ ?_);clear h K;(refine GX.jZ (v:=w) ?_ rfl rfl);clear T;walk_nrm)
 iterate 2 ((refine GX.skip rfl (by rfl) ?_);walk_nrm)
 ((refine GX.v rfl rfl (by kernel_rfl) (fun T K h=>?_));unfold execOp;go_simp;(refine h _ _ ?_);clear h K;(refine GX.jZ (v:=w) ?_ rfl rfl);clear T;walk_nrm);refine GX.kE ?_;refine GX.cond (t:=false) (by kernel_rfl) rfl ?_;simp only[dG,dh];refine GX.exit rfl ?_;refine GX.inBlock ?_
 ((refine GX.region ?_);walk_nrm)
 iterate 3 ((refine GX.v rfl rfl (by kernel_rfl) (fun T K h=>?_));unfold execOp;go_simp;(refine h _ _ ?_);clear h K;(refine GX.jZ (v:=w) ?_ rfl rfl);clear T;walk_nrm)
 refine GX.kE ?_;refine GX.inLoop ?_;have g:=q.out;unfold mL lE ny at g;unfold mj at g;simp only[Tryz.f9]at g;exact g _ ⟨rfl,rfl,rfl,rfl,rfl,rfl,rfl,rfl⟩
variable {nt tc ni ic:Nat} {ta ia:Option Addr}
theorem Tc(m:ml a (.slice ta nt tc) (.slice ia ni ic) bC sp bB (i:Int))(o:i<nt)(q:i<ni)(j:∀a',ml a' (.slice ta nt tc) (.slice ia ni ic) bC sp bB (i:Int)→GX [] Q ((base 9).at a' (.code (.region 11 sG true)::.code nz::.inBlock 1::.code ng::mL)) [] w):GX [] Q ((base 9).at a (.code lE::mL)) [] w:=by
 have i1:(i:Int)<(nt:Int):=by omega
 have i2:(i:Int)<(ni:Int):=by omega
 have r:Hid (_):=j;clear j;obtain⟨h,hsz,f1,f2,f3,f8,f10,f11⟩:=m;obtain⟨D,E⟩:=a;simp only at h hsz f1 f2 f3 f8 f10 f11;subst h;obtain⟨f,rfl⟩:=sH hsz;simp only[fR,gx,fS,dR]at f1 f2 f3 f8 f10 f11;simp only[f1,f2,f3,f8,f10,f11];clear hsz f1 f2 f3 f8 f10 f11
 (have s:=nL;have x:=oX;have y:=oi;have z:=nv;have A:=nM;have B:=nN);unfold mL;unfold lE ny;unfold mj;simp only[Tryz.f9];refine GX.seq ?_;refine GX.seq ?_
 ((refine GX.region ?_);walk_nrm)
 iterate 10 ((refine GX.v rfl rfl (by kernel_rfl) (fun T K k=>?_));unfold execOp;go_simp;(refine k _ _ ?_);clear k K;(refine GX.jZ (v:=w) ?_ rfl rfl);clear T;walk_nrm)
 refine GX.kE ?_;refine GX.cond (t:=true) (by kernel_rfl) rfl ?_;simp only[dg];refine GX.pj ?_;refine GX.seq ?_;refine GX.block ?_;refine GX.seq ?_;have g:=r.out;unfold sG mL ng nz nd at g;unfold lE ny at g;unfold mj at g;simp only[Tryz.f9]at g;exact g _ ⟨rfl,rfl,rfl,rfl,rfl,rfl,rfl,rfl⟩
theorem A6{h:World→Prop}(q:ml a (.slice ta nt tc) (.slice ia ni ic) bC sp bB (i:Int))(k:nt≤i∨(i<nt∧ni≤i))(m:h w):GX [] (xj h) ((base 9).at a (.code lE::mL)) [] w:=by
 have o:Hid (_):=m;clear m;obtain⟨j,hsz,f1,f2,f3,f8,f10,f11⟩:=q;obtain⟨D,E⟩:=a;simp only at j hsz f1 f2 f3 f8 f10 f11;subst j;obtain⟨f,rfl⟩:=sH hsz;simp only[fR,gx,fS,dR]at f1 f2 f3 f8 f10 f11;simp only[f1,f2,f3,f8,f10,f11];clear hsz f1 f2 f3 f8 f10 f11
 (have r:=nL;have s:=oX;have x:=oi;have y:=nv;have z:=nM;have A:=nN);unfold mL;unfold lE ny;unfold mj;simp only[Tryz.f9];refine GX.seq ?_;refine GX.seq ?_
 ((refine GX.region ?_);walk_nrm);rcases k with k|⟨k,B⟩
 ·have i1:¬((i:Int)<(nt:Int)):=by omega
  iterate 5 ((refine GX.v rfl rfl (by kernel_rfl) (fun T K g=>?_));unfold execOp;go_simp;(refine g _ _ ?_);clear g K;(refine GX.jZ (v:=w) ?_ rfl rfl);clear T;walk_nrm)
  iterate 4 ((refine GX.skip rfl (by rfl) ?_);walk_nrm)
  ((refine GX.v rfl rfl (by kernel_rfl) (fun T K g=>?_));unfold execOp;go_simp;(refine g _ _ ?_);clear g K;(refine GX.jZ (v:=w) ?_ rfl rfl);clear T;walk_nrm);refine GX.kE ?_;refine GX.cond (t:=false) (by kernel_rfl) rfl ?_;simp only[dG,dh];refine GX.exit rfl ?_;refine GX.seq ?_
  ((refine GX.region ?_);walk_nrm)
  ((refine GX.v rfl rfl (by kernel_rfl) (fun T K g=>?_));unfold execOp;go_simp;(refine g _ _ ?_);clear g K;(refine GX.jZ (v:=w) ?_ rfl rfl);clear T;walk_nrm);refine GX.kE ?_;refine GX.ret ?_;exact GX.done ⟨rfl,rfl,rfl,rfl,o.out⟩
 ·have i1:(i:Int)<(nt:Int):=by omega
  have i2:¬((i:Int)<(ni:Int)):=by omega
  iterate 10 ((refine GX.v rfl rfl (by kernel_rfl) (fun T K g=>?_));unfold execOp;go_simp;(refine g _ _ ?_);clear g K;(refine GX.jZ (v:=w) ?_ rfl rfl);clear T;walk_nrm)
  refine GX.kE ?_;refine GX.cond (t:=false) (by kernel_rfl) rfl ?_;simp only[dG,dh];refine GX.exit rfl ?_;refine GX.seq ?_
  ((refine GX.region ?_);walk_nrm)
  ((refine GX.v rfl rfl (by kernel_rfl) (fun T K g=>?_));unfold execOp;go_simp;(refine g _ _ ?_);clear g K;(refine GX.jZ (v:=w) ?_ rfl rfl);clear T;walk_nrm);refine GX.kE ?_;refine GX.ret ?_;exact GX.done ⟨rfl,rfl,rfl,rfl,o.out⟩
theorem Td{i:Int}{v:Value}(m:ml a tv iv bC sp bB i)(f12:a.tmps[12]?=some v)(j:∀a',ml a' tv iv bC sp bB i→a'.tmps[12]?=some v→a'.tmps[13]?=some (.int .i64 0)→GX [] Q ((base 9).at a' (.code oK::qi)) [] w):GX [] Q ((base 9).at a (.code nz::.inBlock 1::.code ng::mL)) [] w:=by
 have o:Hid (_):=j;clear j;obtain⟨h,hsz,f1,f2,f3,f8,f10,f11⟩:=m;obtain⟨A,B⟩:=a;simp only at h hsz f1 f2 f3 f8 f10 f11 f12;subst h;obtain⟨f,rfl⟩:=sH hsz;simp only[fR,gx,fS,dR]at f1 f2 f3 f8 f10 f11 f12;simp only[f1,f2,f3,f8,f10,f11,f12];clear hsz f1 f2 f3 f8 f10 f11 f12
 (have q:=nL;have r:=oX;have s:=oi;have x:=nv;have y:=nM;have z:=nN);unfold mL ng nz nd;unfold lE ny;unfold mj;simp only[Tryz.f9];refine GX.seq ?_;refine GX.seq ?_
 ((refine GX.region ?_);walk_nrm)
 ((refine GX.v rfl rfl (by kernel_rfl) (fun T K k=>?_));unfold execOp;go_simp;(refine k _ _ ?_);clear k K;(refine GX.jZ (v:=w) ?_ rfl rfl);clear T;walk_nrm);refine GX.kE ?_;refine GX.block ?_;refine GX.loop ?_;have g:=o.out;unfold qi oK n8 ng nz nd at g;unfold lE ny at g;unfold mj at g;simp only[Tryz.f9]at g;exact g _ ⟨rfl,rfl,rfl,rfl,rfl,rfl,rfl,rfl⟩ rfl rfl
theorem Te(x:n≤8)(q:i<4611686018427387904)(r:∀a' w' g,ml a' tv iv bC sp bB ((i+1:Nat):Int)→oJ w0 w' bC bB sp n now au id nh ao cap d g→(∀j,j<n→g j=decide ((d j).s.st≠0))→GX [] Q ((base 9).at a' (.code lE::mL)) [] w'):∀(m p:Nat)(a:Act)(w:World)(bg:Nat→Bool),n≤p+m→p≤n→ml a tv iv bC sp bB (i:Int)→a.tmps[17]?=some (.int .i64 (p:Int))→oJ w0 w bC bB sp n now au id nh ao cap d bg→(∀j,j<p→bg j=decide ((d j).s.st≠0)) →
   GX [] Q ((base 9).at a (.code rm::rW)) [] w:=by
 intro m
 induction m with
 |zero =>
  intro p a w bg hm hp k f17 hW hb;obtain rfl:p=n:=by omega
  exact Fv k hW q f17 fun a' f=>r a' w bg f hW hb
 |succ m y =>
  intro p a w bg hm hp k f17 hW hb
  by_cases o:p=n
  ·subst o;exact Fv k hW q f17 fun a' f=>r a' w bg f hW hb
  refine Tb k hW x (by omega) f17 fun a' v z f h=>?_
  refine y (p+1) a' _ _ (by omega) (by omega) f h (hW.set (p:=p) (by omega) v) (fun j A=>?_);show(if j=p then v else bg j)=_
  by_cases e:j=p
  ·subst e;rw[dj rfl,z]
  ·rw[dk e];exact hb j (by omega)
def A7 (w0:World) (ta ia:Option Addr) (i:Nat):Prop:=∃tb to t jb jo kM ins,ta=some ⟨tb,to,none⟩∧ia=some ⟨jb,jo,none⟩∧tb<w0.heap.size∧jb<w0.heap.size∧w0.cell? ⟨tb,to+i,none⟩=some (.int .i64 t)∧w0.cell? ⟨jb,jo+i,none⟩=some kM∧xg w0 kM ins (fun b=>b<w0.heap.size)∧ins.length≤4398046511103∧∀x∈ins,Bytes x.d∧x.d.length≤1152921504606846976
theorem Tf(D:n≤8)(hid:0≤id)(ad:nt≤4611686018427387904)(hIn:∀i,i<nt→i<ni→A7 w0 ta ia i):∀(m i:Nat)(a:Act)(w:World)(now:Int)(d:Nat→SD) (bg:Nat→Bool),nt≤i+m→ml a (.slice ta nt tc) (.slice ia ni ic) bC sp bB (i:Int)→oJ w0 w bC bB sp n now au id nh ao cap d bg→(0≤now∧now≤1099511627776) →
   (∀i,i<n→lV (d i).s∧((d i).s.st=0→(d i).v=.slice none 0 0)∧0≤(d i).p.hold∧(d i).p.hold≤65535)→(∀j,j<n→bg j=decide ((d j).s.st≠0)) →
   GX [] (xj fun w'=>∀b,b<w0.heap.size→w'.heap[b]?=w0.heap[b]?) ((base 9).at a (.code lE::mL)) [] w:=by
 intro m
 induction m with
 |zero =>
  intro i a w now d bg hm h hW z f k;exact A6 h (.inl (by omega)) hW.old
 |succ m ih =>
  intro i a w now d bg hm h hW z f k
  by_cases E:nt≤i
  ·exact A6 h (.inl E) hW.old
  by_cases F:ni≤i
  ·exact A6 h (.inr ⟨by omega,F⟩) hW.old
  obtain⟨tb,to,t,jb,jo,ae,ins,rfl,rfl,G,I,ht,o,hV,hlen,hb⟩:=hIn i (by omega) (by omega);refine Tc h (by omega) (by omega) fun a1 J=>?_
  refine SU J hW D hid z f (by omega) (by omega) G I ht o hV hlen hb fun a2 w2 v K f12 hT=>?_
  obtain⟨d',L,q,M⟩:=hT;obtain⟨g,oc,oa,M⟩:=E5 M;have r:=E7 (t:=t) z;have af:=Ez (t:=t) z;have y:∀p,∀x∈kU p ins,Bytes x.d:=fun p x hx=>(hb x (gb.1 hx).1).1
  refine Td K f12 fun a3 N O R=>?_
  refine S9 (b0:=bg) (l:=v) (g:=g) (oc:=oc) (oa:=oa) (x:=fun p=>(mA au id (mh now t) d (fun i=>kU i ins) p).2) D (fun p hp=>?_) (fun a4 w4 S T U ag=>?_) (kV (fun p=>(mA au id (mh now t) d (fun i=>kU i ins) p).2) n).length 0 a3 w2 bg (by omega) (by omega) N O R L M (fun j o=>rfl) (fun j p o hp=>rfl)
  ·obtain⟨k1,k2,B⟩:=f p hp;have:=Rb (QA (A:=(d p).p.au) (au:=au) (id:=id) B r k1 (y p));rw[(q p hp).1,k p hp];exact this
  ·refine Ta T fun a5 V X=>?_
   refine Te D (by omega) (fun a6 w6 Y Z aa ab=>?_) n 0 a5 w4 S (by omega) (by omega) V X U (fun j o=>absurd o (g8 _));refine ih (i+1) a6 w6 (mh now t) d' Y (by omega) Z aa (by omega) (fun p hp=>?_) ab;obtain⟨k1,k2,B⟩:=f p hp;obtain⟨e1,e2,e3,e4⟩:=q p hp;refine⟨?_,?_,by rw[e3];exact B⟩
   ·rw[e1];exact P2 B r k1 (y p)
   ·rw[e1];exact e4
theorem Th{P:Nat→Pr}(q:ot w (.slice ao n cap) n P)(hid:0≤id)(k:nt≤4611686018427387904)(hIn:∀i,i<nt→i<ni→A7 w ta ia i)(f:(mR au id n P).1=0→n≤8∧∀i,i<n→0≤(P i).hold∧(P i).hold≤65535):GX [] (xj fun w'=>∀b,b<w.heap.size→w'.heap[b]?=w.heap[b]?) ((base 9).at { tmps:=#[.agg #[.int .i64 au,.int .u32 id,.int .u32 nh,.slice ao n cap],.slice ta nt tc,.slice ia ni ic]++Array.replicate 123 undef,defers:=[] } [.code (Tryz.f9.body.getD .skip)]) [] w:=by
 refine SL q (by cases ta<;>rfl) (by cases ia<;>rfl) (fun w' h=>h) fun a w' bC sp bB d r x hW hd=>?_
 obtain⟨y,z⟩:=f r;refine Tf y hid k hIn nt 0 a w' 0 d _ (by omega) x hW (by omega) (fun i o=>?_) (fun j A=>?_)
 ·obtain⟨g,E,B⟩:=hd i o;have m:(d i).s=nH:=by rw[g];rfl
  have D:(d i).v=.slice none 0 0:=by rw[g];rfl
  rw[m,B];exact⟨wW,fun _=>D,z i o⟩
 ·obtain⟨g,_,_⟩:=hd j A;have m:(d j).s=nH:=by rw[g];rfl
  rw[m];rfl
end
end Go.Proofs.YtjnkcibpkkjniaaGreat.kj
namespace Go.Proofs.YtjnkcibpkkjniaaGreat.j7
section
open Go
section
variable [Scope]
theorem xm{ρ:jR}(g:Scope.sync=true){b:Nat}{x:Span}(hb:ρ b=some ⟨b,some x⟩):(v:Value)→∃u,VR ρ u v
 | .bool c=>⟨_,.bool c⟩
 | .int k n=>⟨_,.int k n⟩
 | .float ..=>⟨_,.hole g rfl⟩
 | .complex ..=>⟨_,.hole g rfl⟩
 | .string s=>⟨_,.string s⟩
 | .pointer none=>⟨_,.oL⟩
 | .pointer (some a)=>⟨_,.hole g rfl⟩
 | .slice none l c=>⟨_,.lW l c⟩
 | .slice (some a) l c=>⟨_,.hole g rfl⟩
 | .map none=>⟨_,.qk⟩
 | .map (some a)=>⟨_,.hole g rfl⟩
 | .chan none=>⟨_,.qG⟩
 | .chan (some a)=>⟨_,.hole g rfl⟩
 | .nilFunc=>⟨_,.nilFunc⟩
 | .nilIface=>⟨_,.nilIface⟩
 | .iface t v=>by
  obtain⟨u,hu⟩:=xm g hb v;exact⟨_,.iface hu⟩
 | .agg xs=>by
  have h:∀i:Fin xs.size,∃u,VR ρ u xs[i]:=fun i=>xm g hb xs[i]
  refine⟨.agg (Array.ofFn fun i=>Classical.choose (h i)),.agg (by simp) fun i v v' a c=>?_⟩;have j:i<xs.size:=(dp.1 c).1;simp[j]at a c;rw[←a,←c];exact jB (h ⟨i,j⟩)
 | .tuple xs=>by
  have h:∀i:Fin xs.size,∃u,VR ρ u xs[i]:=fun i=>xm g hb xs[i]
  refine⟨.tuple (Array.ofFn fun i=>Classical.choose (h i)),.tuple (by simp) fun i v v' a c=>?_⟩;have j:i<xs.size:=(dp.1 c).1;simp[j]at a c;rw[←a,←c];exact jB (h ⟨i,j⟩)
 | .func f xs ys=>by cases f<;>first|exact⟨_,.oM g⟩|exact⟨_,.hole g rfl⟩
def xn:Value→Bool
 | .bool _ | .int .. | .string _ | .slice none _ _=>true
 |_=>false
theorem Ti{ρ:jR}(hid:∀r p,ρ r=some p→p.block=r∧p.shift=0)(o:Scope.base=0)(f:Scope.sync=true){b:Nat}{x:Span}(hb:ρ b=some ⟨b,some x⟩)(v:Value):∃u,VR ρ u v∧(xn v=true→u=v)∧(∀a l c,v=.slice (some a) l c→(∃p,ρ a.block=some p)→u=v)∧(∀a,v=.slice (some a) 0 0→∃a',u=.slice (some a') 0 0):=by
 by_cases g:∃a l c,v=.slice (some a) l c
 ·obtain⟨a,l,c,rfl⟩:=g
  by_cases hp:∃p,ρ a.block=some p
  ·obtain⟨p,hp⟩:=hp;exact⟨_,.slice l c ⟨by rw[o];exact eI _,p,hp,(hid _ _ hp).1.symm,by rw[(hid _ _ hp).2];omega,rfl⟩,fun _=>rfl,fun _ _ _ _ _=>rfl,fun a' e=>(by cases e;exact⟨_,rfl⟩)⟩
  ·by_cases m:l=0∧c=0
   ·obtain⟨rfl,rfl⟩:=m;exact⟨.slice (some ⟨b,0,none⟩) 0 0,.mN f ⟨b,x,hb⟩,fun e=>(by cases e),fun a' l c e h=>(by cases e;exact absurd h hp),fun _ _=>⟨_,rfl⟩⟩
   ·obtain⟨u,hu⟩:=xm f hb (.slice (some a) l c);exact⟨u,hu,fun e=>(by cases e),fun a' l c e h=>(by cases e;exact absurd h hp),fun a' e=>(by cases e;exact absurd ⟨rfl,rfl⟩ m)⟩
 ·obtain⟨u,hu⟩:=xm f hb v
  by_cases j:xn v=true
  ·refine⟨v,?_,fun _=>rfl,fun _ _ _ _ _=>rfl,fun a e=>absurd ⟨_,_,_,e⟩ g⟩
   cases v with
   |bool b=>exact .bool b
   |int k n=>exact .int k n
   |string s=>exact .string s
   |slice a l c =>
    cases a with
    |none=>exact .lW l c
    |some a=>cases j
   |_=>cases j
  ·exact⟨u,hu,fun e=>absurd e j,fun a l c e=>absurd ⟨_,_,_,e⟩ g,fun a e=>absurd ⟨_,_,_,e⟩ g⟩
end
def n9 (W:World):jR:=fun b=>match W.heap[b]? with
 |some (.cells C e fr)=>if 0<C.size then some ⟨b,some ⟨0,0,(e,C.size)⟩⟩ else some ⟨b,none⟩
 |_=>none
variable {W:World} {b:Nat} {C:Array Value} {e:TypeId} {fr:Nat×Nat}
theorem Fw(h:W.heap[b]?=some (.cells C e fr))(f:0<C.size):n9 W b=some ⟨b,some ⟨0,0,(e,C.size)⟩⟩:=by
 unfold n9;rw[h];simp only;rw[dj f]
theorem Tj(h:W.heap[b]?=some (.cells C e fr))(f:¬0<C.size):n9 W b=some ⟨b,none⟩:=by
 unfold n9;rw[h];simp only;rw[dk f]
theorem A8(h:W.heap[b]?=some (.cells C e fr)):∃p,n9 W b=some p:=by
 by_cases f:0<C.size
 ·exact⟨_,Fw h f⟩
 ·exact⟨_,Tj h f⟩
variable {p:Place}
theorem A9(h:n9 W b=some p):∃C e fr,W.heap[b]?=some (.cells C e fr)∧((0<C.size∧p=⟨b,some ⟨0,0,(e,C.size)⟩⟩)∨(¬0<C.size∧p=⟨b,none⟩)):=by
 unfold n9 at h;split at h
 ·rename_i C e fr hW;refine⟨C,e,fr,hW,?_⟩;split at h
  ·rename_i f
   cases h
   exact .inl ⟨f,rfl⟩
  ·rename_i f
   cases h
   exact .inr ⟨f,rfl⟩
 ·cases h
theorem Ba(h:n9 W b=some p):p=⟨b,none⟩∨∃ty,p=⟨b,some ⟨0,0,ty⟩⟩:=by
 obtain⟨C,e,fr,_,⟨_,rfl⟩|⟨_,rfl⟩⟩:=A9 h
 ·exact .inr ⟨_,rfl⟩
 ·exact .inl rfl
theorem vy(h:n9 W b=some p):p.block=b∧p.shift=0:=by
 rcases Ba h with rfl|⟨ty,rfl⟩
 ·exact⟨rfl,rfl⟩
 ·exact⟨rfl,rfl⟩
section
variable [Scope]
structure uK (W:World) (u v:Value):Prop where
 vr:VR (n9 W) u v
 flat:xn v=true→u=v
 own:∀a l c,v=.slice (some a) l c→(∃p,n9 W a.block=some p)→u=v
 nil:∀a,v=.slice (some a) 0 0→∃a',u=.slice (some a') 0 0
def Fx (W:World) (o o':Obj):Prop:=∀C e fr,o'=.cells C e fr→∃c,o=.cells c e (if 0<C.size then(0,C.size) else fr)∧c.size=C.size∧∀(i:Nat) u v,c[i]?=some u→C[i]?=some v→uK W u v
theorem Tk(m:Scope.base=0)(j:Scope.sync=true){W:World}{b:Nat}{o':Obj}(hb:W.heap[b]?=some o'):∃o,Fx W o o':=by
 cases o' with
 |cells C e fr =>
  by_cases g:0<C.size
  ·have h:∀i:Fin C.size,∃u,uK W u C[i]:=fun i=>by
    obtain⟨u,q,s,x,y⟩:=Ti (fun r p h=>vy h) m j (Fw hb g) C[i];exact⟨u,q,s,x,y⟩
   refine⟨.cells (Array.ofFn fun i=>Classical.choose (h i)) e (0,C.size),fun C' z jS he=>?_⟩
   cases he
   refine⟨_,by rw[dj g],by simp,fun i u v hu f=>?_⟩;have k:i<C.size:=(dp.1 f).1;simp[k]at hu f;rw[←hu,←f];exact jB (h ⟨i,k⟩)
  ·refine⟨.cells C e fr,fun C' z jS he=>?_⟩
   cases he
   refine⟨C,by rw[dk g],rfl,fun i u v hu f=>?_⟩;exact absurd (ix (eI _) (dp.1 f).1) g
 |_=>exact⟨.cells #[] 0 (0,0),fun C e fr h=>by cases h⟩
def vz (W wS:World):Prop:=∀(b:Nat)(C:Array Value)(e:TypeId)(fr:Nat×Nat),W.heap[b]?=some (.cells C e fr)→∃c:Array Value,wS.heap[b]?=some (.cells c e (if 0<C.size then(0,C.size) else fr))∧c.size=C.size∧∀(i:Nat) u v,c[i]?=some u→C[i]?=some v→uK W u v
theorem Tl(j:Scope.base=0)(f:Scope.sync=true)(W:World):∃wS:World,wS.heap.size=W.heap.size∧wS.os=W.os∧vz W wS:=by
 have h:∀i:Fin W.heap.size,∃o,Fx W o W.heap[i]:=fun i=>Tk j f (b:=i) (by simp)
 refine⟨{ W with heap:=Array.ofFn fun i=>Classical.choose (h i) },by simp,rfl,fun b C e fr hb=>?_⟩;have g:b<W.heap.size:=(dp.1 hb).1;have k:=jB (h ⟨b,g⟩);obtain⟨c,m,q⟩:=k C e fr (by have:=(dp.1 hb).2;exact this);exact⟨c,by simp[g];exact m,q⟩
theorem Tm(k:Scope.base=0)(g:Scope.sync=true){W wS:World}(m:wS.heap.size=W.heap.size)(o:wS.os=W.os)(q:vz W wS):HR (n9 W) wS W:=by
 refine⟨fun b p hp=>?_,fun b b' p p' hp h e=>by rw[(vy hp).1,(vy h).1]at e;exact e,by rw[k];exact eI _,o.symm,fun _=>⟨m,fun b p hp=>Ba hp⟩⟩;obtain⟨C,e,fr,hW,r⟩:=A9 hp;obtain⟨c,k1,k2,s⟩:=q b C e fr hW;have f:jW (n9 W) c C:=⟨k2,fun i u v hu f=>(s i u v hu f).vr⟩;rcases r with⟨j,rfl⟩|⟨j,rfl⟩
 ·rw[dj j]at k1;exact⟨_,_,k1,hW,.inl ⟨g,rfl,rfl,c,C,fr,by omega,by rw[k2],rfl,f⟩⟩
 ·rw[dk j]at k1;exact⟨_,_,k1,hW,.cells f⟩
section
variable {W wS:World}
theorem yB(g:vz W wS){b o:Nat}{v:Value}(h:W.cell? ⟨b,o,none⟩=some v):∃u,wS.cell? ⟨b,o,none⟩=some u∧uK W u v∧∃p,n9 W b=some p:=by
 simp only[World.cell?]at h;split at h
 ·rename_i C e fr hW;obtain⟨c,k1,k2,j⟩:=g b C e fr hW;have hC:C[o]?=some v:=by simpa using h
  have f:o<c.size:=by rw[k2];exact(dp.1 hC).1
  refine⟨c[o],?_,j o _ v (dq f) hC,A8 hW⟩;simp[World.cell?,k1,f]
 ·cases h
theorem rX(f:vz W wS){b o:Nat}{v:Value}(h:W.cell? ⟨b,o,none⟩=some v)(g:xn v=true):wS.cell? ⟨b,o,none⟩=some v:=by
 obtain⟨u,j,k,_⟩:=yB f h;rw[j,k.flat g]
end
end
end
end Go.Proofs.YtjnkcibpkkjniaaGreat.j7
namespace Go.Proofs.YtjnkcibpkkjniaaGreat
section
open Go.ChangeShapes Go.WideShapes Go.ChangeAt Go.RowKit Go.Deep
theorem Tryz.Tn:Tryz.prog.cellsOf 25=4:=by kernel_rfl
theorem Tryz.Fy:Tryz.prog.cellsOf 69=7:=by kernel_rfl
theorem Tryz.Bb:Tryz.prog.cellsOf 162=5:=by kernel_rfl
theorem Tryz.rn:Tryz.prog.cellsOf 3=1:=by kernel_rfl
theorem Tryz.To:Tryz.prog.cellsOf 22=1:=by kernel_rfl
theorem Tryz.Tp:Tryz.prog.cellsOf 4=1:=by kernel_rfl
theorem Tryz.Fz:Tryz.prog.cellsOf 67=1:=by kernel_rfl
theorem Tryz.Tq:Tryz.prog.bytesOf 162=32:=by kernel_rfl
theorem Tryz.Tr:Tryz.prog.bytesOf 69=88:=by kernel_rfl
theorem wf_u32{a:Int}(h:(Lit.int .u32 a).wf=true):0≤a∧a<4294967296:=by
 have f:IntKind.u32.min=0:=rfl;have g:IntKind.u32.max=4294967295:=rfl;simp only[Lit.wf,eh,ed]at h;omega
variable {H:Type} {w:World} {fuel:Nat} {spare:Nat→Bool} {held:Bool} {cs:List Value}
theorem Ts{enc:TypeId×Value→H}{base:Nat}{x:DataW H×List MemPlace}(h:DataW.trod enc Tryz.prog w base spare held fuel 162 cs=some x):∃r:Rl,cs=r.cells∧0≤r.a∧r.a<4294967296:=by
 obtain⟨xs,n,_,hx,hlen,j,f⟩:=DataW.trod_struct Tryz.underlying162 h;rw[Tryz.Bb]at hlen
 match cs,hlen with
 |[c0,c1,c2,c3,c4],_ =>
  have g:∀i,i<5→∃y,xs[i]?=some y:=fun i k=>⟨xs[i]'(by rw[j];exact k),by simp⟩
  obtain⟨m,o⟩:=g 0 (by omega);obtain⟨q,s⟩:=g 1 (by omega);obtain⟨z,A⟩:=g 2 (by omega);obtain⟨B,D⟩:=g 3 (by omega);obtain⟨E,F⟩:=g 4 (by omega);have f0:DataW.trod enc Tryz.prog w base spare held n 4 (List.take (Tryz.prog.cellsOf 4) (List.drop 0 [c0,c1,c2,c3,c4]))=some m:=(f 0 _ rfl).trans o;rw[Tryz.Tp]at f0;have f1:DataW.trod enc Tryz.prog w base spare held n 22 (List.take (Tryz.prog.cellsOf 22) (List.drop 1 [c0,c1,c2,c3,c4]))=some q:=(f 1 _ rfl).trans s;rw[Tryz.To]at f1;have f2:DataW.trod enc Tryz.prog w base spare held n 3 (List.take (Tryz.prog.cellsOf 3) (List.drop 2 [c0,c1,c2,c3,c4]))=some z:=(f 2 _ rfl).trans A;rw[Tryz.rn]at f2;have f3:DataW.trod enc Tryz.prog w base spare held n 3 (List.take (Tryz.prog.cellsOf 3) (List.drop 3 [c0,c1,c2,c3,c4]))=some B:=(f 3 _ rfl).trans D;rw[Tryz.rn]at f3;have f4:DataW.trod enc Tryz.prog w base spare held n 3 (List.take (Tryz.prog.cellsOf 3) (List.drop 4 [c0,c1,c2,c3,c4]))=some E:=(f 4 _ rfl).trans F;rw[Tryz.rn]at f4;obtain⟨p,hp,_⟩:=DataW.trod_bool Tryz.underlying4 f0;obtain⟨a,G,_,I⟩:=jO Tryz.underlying22 f1;obtain⟨l,J,_,_⟩:=jO Tryz.underlying3 f2;obtain⟨g',K,_,_⟩:=jO Tryz.underlying3 f3;obtain⟨e,he,_,_⟩:=jO Tryz.underlying3 f4;obtain rfl:c0=.bool p:=by simpa using hp
  obtain rfl:c1=.int .u32 a:=by simpa using G
  obtain rfl:c2=.int .i64 l:=by simpa using J
  obtain rfl:c3=.int .i64 g':=by simpa using K
  obtain rfl:c4=.int .i64 e:=by simpa using he
  exact⟨⟨p,a,l,g',e⟩,rfl,wf_u32 I⟩
variable {a:Addr}
theorem Tt(h:a.spot=none)(m:Nat):a.add m=⟨a.block,a.off+m,none⟩:=by
 cases a with
 |mk b o s =>
  have h':s=none:=h;subst h'
  by_cases f:m=0
  ·subst f;simp[Addr.add]
  ·simp[Addr.add,f]
variable {v:Value}
theorem FA(h:w.cell? a=some v):a.spot=none:=by
 unfold World.cell? at h
 cases f:a.spot with
 |none=>rfl
 |some s =>
  simp[f]at h;split at h
  ·cases h
  ·cases h
variable {t e size:Nat}
theorem xp{enc:TypeId×Value→H}{bytes:Nat}{x:DataW H×List MemPlace}(L:Tryz.prog.underlying t=some (.slice e))(hsz:Tryz.prog.cellsOf e=size)(O:0<size)(F:Tryz.prog.bytesOf e=bytes)(h:DataW.trod enc Tryz.prog w 0 spare held fuel t [v]=some x)(hw:∀m∈x.1.weights Tryz.prog t,m≤reachBytes):∃(n:Nat)(c:Nat→List Value)(D:Nat→DataW H),Sl w size v n c∧n*bytes≤140737488351232∧∀i<n,(∃m y,DataW.trod enc Tryz.prog w 0 spare held m e (c i)=some y∧y.1=D i)∧(∀m∈(D i).weights Tryz.prog e,m≤reachBytes):=by
 rcases open_slice L h with⟨q,hx⟩|⟨a,len,cap,m,n,D,Pl,q,_,G,I,hm,hx,s⟩
 ·simp at q;subst q;exact⟨0,fun _=>[],fun _=>.nil,⟨none,0,rfl,dx _,by unfold maxLen;omega,fun M=>by omega⟩,by omega,fun i o=>by omega⟩
 ·simp at q;subst q;have R:len≤m:=by rw[hm];split<;>omega
  rw[hsz]at s;have A:∀i,i<len→∃B,w.cells? 0 (a.add (i*size)) size=some B∧DataW.trod enc Tryz.prog w 0 spare held n e B=some (D i,Pl i):=fun i o=>s i (by omega)
  obtain⟨c,J⟩:=choose_lt A;rw[hx]at hw;simp only[DataW.weights,L]at hw;refine⟨len,c,D,⟨some a,cap,rfl,G,I,fun M=>?_⟩,?_,fun i o=>⟨⟨n,_,(J i o).2,rfl⟩,fun k K=>?_⟩⟩
  ·obtain⟨_,S,f⟩:=World.cells?_some (J 0 M).1;have j3:a.spot=none:=by
    have:=f 0 O;rw[eo]at this;have e:(a.add 0).add 0=a:=by simp[Addr.add]
    rw[e]at this;obtain⟨u,hu⟩:∃u,(c 0)[0]?=some u:=⟨(c 0)[0]'(by omega),by simp⟩;rw[hu]at this;exact FA this
   refine⟨a.block,a.off,by cases a;simp_all,fun i o k u hu=>?_⟩;obtain⟨_,T,g⟩:=World.cells?_some (J i o).1;have K:k<size:=by rw[←T];exact(je.1 hu).1
   have:=g k K;rw[add_add,Tt j3,hu]at this;rw[show a.off+i*size+k=a.off+(i*size+k) by omega];exact this
  ·have:=hw (((List.map D (List.range len)).length+(List.map (fun j=>D (len+j)) (List.range (m-len))).length)*Tryz.prog.bytesOf e) (by simp);rw[F]at this;simp only[List.length_map,List.length_range]at this;have X:len*bytes≤(len+(m-len))*bytes:=ef _ (by omega);have Y:reachBytes=140737488351232:=by decide
   omega
  ·apply hw;simp only[fJ,gQ];right;left;have E:∀(l:List (DataW H)) (d:DataW H),d∈l→∀z∈d.weights Tryz.prog e,z∈DataW.weightsAll Tryz.prog e l:=by
    intro l
    induction l with
    |nil=>intro d hd;simp at hd
    |cons b r U =>
     intro d hd z N;rcases fJ.1 hd with rfl|V
     ·simp[DataW.weightsAll,N]
     ·simp[DataW.weightsAll,U d V z N]
   exact E _ (D i) (iM.2 ⟨i,fZ.2 o,rfl⟩) k K
variable {n:Nat}
theorem Sl.congr{c c':Nat→List Value}(h:Sl w size v n c)(g:∀i<n,c' i=c i):Sl w size v n c':=by
 obtain⟨ao,cap,j,m,q,r⟩:=h;refine⟨ao,cap,j,m,q,fun s=>?_⟩;obtain⟨b,o,x,y⟩:=r s;exact⟨b,o,x,fun i f k u hu=>y i f k u (by rw[←g i f];exact hu)⟩
theorem yC{α:Type}(d:α){q:Nat→α→Prop}(h:∀i<n,∃x,q i x):∃f:Nat→α,∀i<n,q i (f i):=by
 have h':∀i,∃x,i<n→q i x:=fun i=>by
  by_cases g:i<n
  ·obtain⟨x,hx⟩:=h i g;exact⟨x,fun _=>hx⟩
  ·exact⟨d,fun j=>absurd j g⟩
 exact⟨fun i=>Classical.choose (h' i),fun i g=>jB (h' i) g⟩
def Dz (W:World) (v:Value):Prop:=∀a l c,v=.slice (some a) l c→0<c→∃C e fr,W.heap[a.block]?=some (.cells C e fr)
theorem Bc{enc:TypeId×Value→H}{x:DataW H×List MemPlace}(j3:∀b,spare b=true)(y:Tryz.prog.underlying t=some (.slice e))(z:0<Tryz.prog.cellsOf e)(h:DataW.trod enc Tryz.prog w 0 spare held fuel t [v]=some x):Dz w v:=by
 intro s F c0 o G;rcases open_slice y h with⟨j,hx⟩|⟨a,len,cap,m,n,D,Pl,j,_,A,B,hm,hx,q⟩
 ·simp at j;rw[j]at o
  cases o
 ·simp at j;rw[j]at o
  cases o
  rw[j3,dj rfl]at hm;obtain⟨k,E,_⟩:=q 0 (by omega);obtain⟨_,I,f⟩:=World.cells?_some E;have g:=f 0 z;rw[eo]at g;have e:(s.add 0).add 0=s:=by simp[Addr.add]
  rw[e]at g;obtain⟨u,hu⟩:∃u,k[0]?=some u:=⟨k[0]'(by omega),by simp⟩;rw[hu]at g;have r:=FA g;simp only[World.cell?,r]at g;split at g
  ·rename_i C e fr hW;exact⟨C,e,fr,hW⟩
  ·cases g
theorem FB{enc:TypeId×Value→H}{x:DataW H×List MemPlace}(j3:∀b,spare b=true)(h:DataW.trod enc Tryz.prog w 0 spare held fuel 67 [v]=some x)(hw:∀m∈x.1.weights Tryz.prog 67,m≤reachBytes):∃n r,mc w v n r∧n≤4398046511104∧Dz w v:=by
 obtain⟨n,c,D,j,hb,g⟩:=xp (size:=5) (bytes:=32) Tryz.underlying67 Tryz.Bb (by omega) Tryz.Tq h hw;have hr:∀i<n,∃r:Rl,c i=r.cells∧0≤r.a∧r.a<4294967296:=fun i f=>by
  obtain⟨⟨m,y,k,_⟩,_⟩:=g i f;exact Ts k
 obtain⟨r,hr⟩:=yC (⟨true,0,0,0,0⟩:Rl) hr;exact⟨n,r,⟨j.congr fun i f=>(hr i f).1.symm,fun i f=>(hr i f).2⟩,by omega,Bc j3 Tryz.underlying67 (by rw[Tryz.Bb];decide) h⟩
theorem Tu{enc:TypeId×Value→H}{x:DataW H×List MemPlace}(j3:∀b,spare b=true)(h:DataW.trod enc Tryz.prog w 0 spare held fuel 69 cs=some x)(hw:∀m∈x.1.weights Tryz.prog 69,m≤reachBytes):∃p:Pr,cs=p.cells∧mc w p.im p.ni p.ir∧mc w p.ex p.ne p.er∧Dz w p.im∧Dz w p.ex:=by
 obtain⟨xs,n,_,hx,hlen,r,o⟩:=DataW.trod_struct Tryz.underlying69 h;rw[Tryz.Fy]at hlen
 match cs,hlen with
 |[c0,c1,c2,c3,c4,f,k],_ =>
  have g:∀i,i<7→∃y,xs[i]?=some y:=fun i s=>⟨xs[i]'(by rw[r];exact s),by simp⟩
  obtain⟨L,M⟩:=g 0 (by omega);have f0:DataW.trod enc Tryz.prog w 0 spare held n 3 (List.take (Tryz.prog.cellsOf 3) (List.drop 0 [c0,c1,c2,c3,c4,f,k]))=some L:=(o 0 _ rfl).trans M;rw[Tryz.rn]at f0;obtain⟨N,O⟩:=g 1 (by omega);have f1:DataW.trod enc Tryz.prog w 0 spare held n 3 (List.take (Tryz.prog.cellsOf 3) (List.drop 1 [c0,c1,c2,c3,c4,f,k]))=some N:=(o 1 _ rfl).trans O;rw[Tryz.rn]at f1;obtain⟨R,S⟩:=g 2 (by omega);have f2:DataW.trod enc Tryz.prog w 0 spare held n 3 (List.take (Tryz.prog.cellsOf 3) (List.drop 2 [c0,c1,c2,c3,c4,f,k]))=some R:=(o 2 _ rfl).trans S;rw[Tryz.rn]at f2;obtain⟨T,U⟩:=g 3 (by omega);have f3:DataW.trod enc Tryz.prog w 0 spare held n 3 (List.take (Tryz.prog.cellsOf 3) (List.drop 3 [c0,c1,c2,c3,c4,f,k]))=some T:=(o 3 _ rfl).trans U;rw[Tryz.rn]at f3;obtain⟨V,X⟩:=g 4 (by omega);have f4:DataW.trod enc Tryz.prog w 0 spare held n 3 (List.take (Tryz.prog.cellsOf 3) (List.drop 4 [c0,c1,c2,c3,c4,f,k]))=some V:=(o 4 _ rfl).trans X;rw[Tryz.rn]at f4;obtain⟨D,E⟩:=g 5 (by omega);have f5:DataW.trod enc Tryz.prog w 0 spare held n 67 (List.take (Tryz.prog.cellsOf 67) (List.drop 5 [c0,c1,c2,c3,c4,f,k]))=some D:=(o 5 _ rfl).trans E;rw[Tryz.Fz]at f5;obtain⟨F,G⟩:=g 6 (by omega);have f6:DataW.trod enc Tryz.prog w 0 spare held n 67 (List.take (Tryz.prog.cellsOf 67) (List.drop 6 [c0,c1,c2,c3,c4,f,k]))=some F:=(o 6 _ rfl).trans G;rw[Tryz.Fz]at f6;obtain⟨I,Y,_,_⟩:=jO Tryz.underlying3 f0;obtain rfl:c0=.int .i64 I:=by simpa using Y
  obtain⟨J,Z,_,_⟩:=jO Tryz.underlying3 f1;obtain rfl:c1=.int .i64 J:=by simpa using Z
  obtain⟨n2,h2,_,_⟩:=jO Tryz.underlying3 f2;obtain rfl:c2=.int .i64 n2:=by simpa using h2
  obtain⟨n3,h3,_,_⟩:=jO Tryz.underlying3 f3;obtain rfl:c3=.int .i64 n3:=by simpa using h3
  obtain⟨K,h4,_,_⟩:=jO Tryz.underlying3 f4;obtain rfl:c4=.int .i64 K:=by simpa using h4
  rw[hx]at hw;have q:∀(j:Nat)(d:DataW H)(ty:TypeId),(List.map (fun x=>x.fst) xs)[j]?=some d→([3,3,3,3,3,67,67]:List TypeId)[j]?=some ty→∀m∈d.weights Tryz.prog ty,m≤reachBytes:=by
   intro j d ty hd z m hm;apply hw;simp only[DataW.weights,Tryz.underlying69];exact jP (j:=j) (t:=ty) z hd m hm
  obtain⟨ni,ir,s,_,A⟩:=FB j3 (v:=f) f5 (q 5 D.1 _ (by simp[E]) rfl);obtain⟨ne,er,he,_,B⟩:=FB j3 (v:=k) f6 (q 6 F.1 _ (by simp[G]) rfl);exact⟨⟨I,J,n2,n3,K,f,ni,ir,k,ne,er⟩,rfl,s,he,A,B⟩
theorem Tv{enc:TypeId×Value→H}{x:DataW H×List MemPlace}(j3:∀b,spare b=true)(h:DataW.trod enc Tryz.prog w 0 spare held fuel 23 [v]=some x)(hw:∀m∈x.1.weights Tryz.prog 23,m≤reachBytes):∃n P,ot w v n P∧n*88≤140737488351232∧∀i<n,Dz w (P i).im∧Dz w (P i).ex:=by
 obtain⟨n,c,D,q,hb,j⟩:=xp (size:=7) (bytes:=88) Tryz.underlying23 Tryz.Fy (by omega) Tryz.Tr h hw;have hr:∀i<n,∃p:Pr,c i=p.cells∧mc w p.im p.ni p.ir∧mc w p.ex p.ne p.er∧Dz w p.im∧Dz w p.ex:=fun i f=>by
  obtain⟨⟨m,y,r,k⟩,o⟩:=j i f;exact Tu j3 r (by rw[k];exact o)
 obtain⟨P,g⟩:=yC (⟨0,0,0,0,0,.slice none 0 0,0,fun _=>⟨true,0,0,0,0⟩,.slice none 0 0,0,fun _=>⟨true,0,0,0,0⟩⟩:Pr) hr;exact⟨n,P,⟨q.congr fun i f=>(g i f).1.symm,fun i f=>⟨(g i f).2.1,(g i f).2.2.1⟩⟩,hb,fun i f=>(g i f).2.2.2⟩
end
section
open Go Go.RowKit Go.Proofs.YtjnkcibpkkjniaaGreat.j7
variable {W:World} {l c:Nat}
theorem Dz.Tw{v:Value}(h:Dz W v){a:Addr}(e:v=.slice (some a) l c)(f:0<c):∃p,n9 W a.block=some p:=by
 obtain⟨C,e,fr,hW⟩:=h a l c e f;exact A8 hW
theorem FD{u:Value}{ao:Option Addr}(h:@uK jT W u (.slice ao l c))(hd:Dz W (.slice ao l c))(j:l≤c):u=.slice ao l c∨(l=0∧c=0∧∃a',u=.slice (some a') 0 0):=by
 letI:Scope:=jT
 cases ao with
 |none=>exact .inl (h.flat rfl)
 |some a =>
  by_cases k:0<c
  ·exact .inl (h.own a l c rfl (hd.Tw rfl k))
  ·have f:c=0:=by omega
   have g:l=0:=by omega
   subst f g;exact .inr ⟨rfl,rfl,h.nil a rfl⟩
section
variable {W wS:World}
variable {n:Nat} {v u:Value}
theorem Tx(j:@vz jT W wS){size:Nat}{c:Nat→List Value}(h:Sl W size v n c)(hu:u=v∨(n=0∧∃a',u=.slice (some a') 0 0))(m:∀i<n,∀x∈c i,xn x=true):Sl wS size u n c:=by
 obtain⟨ao,cap,rfl,q,r,s⟩:=h;rcases hu with rfl|⟨rfl,a',rfl⟩
 ·refine⟨ao,cap,rfl,q,r,fun f=>?_⟩;obtain⟨b,o,rfl,y⟩:=s f;exact⟨b,o,rfl,fun i g k x hx=>@rX jT W wS j _ _ _ (y i g k x hx) (m i g x (gn hx))⟩
 ·exact⟨some a',0,rfl,dx _,eI _,fun f=>absurd f (Nat.lt_irrefl _)⟩
theorem FE(f:@vz jT W wS){r:Nat→Rl}(h:mc W v n r)(hu:@uK jT W u v)(hd:Dz W v):mc wS u n r:=by
 have g:=h.1;obtain⟨ao,cap,rfl,j,_⟩:=g;refine⟨Tx f h.1 ?_ (fun i o x hx=>?_),h.2⟩
 ·rcases FD hu hd j with e|⟨k,q,m⟩
  ·exact .inl e
  ·exact .inr ⟨k,m⟩
 ·simp only[Rl.cells,fJ,fK,fL]at hx;rcases hx with rfl|rfl|rfl|rfl|rfl<;>rfl
theorem Ty(m:@vz jT W wS){ao:Option Addr}{cap:Nat}{P:Nat→Pr}(h:ot W (.slice ao n cap) n P)(hd:∀i<n,Dz W (P i).im∧Dz W (P i).ex):∃x,ot wS (.slice ao n cap) n x:=by
 obtain⟨⟨y,q,e,r,s,z⟩,hr⟩:=h
 cases e
 by_cases A:n=0
 ·subst A;exact⟨P,⟨ao,cap,rfl,r,s,fun B=>absurd B (Nat.lt_irrefl _)⟩,fun i j=>absurd j (g8 _)⟩
 obtain⟨b,o,rfl,D⟩:=z (by omega);have hex:∀i,∃p:Pr,i<n→(∀k u,p.cells[k]?=some u→wS.cell? ⟨b,o+i*7+k,none⟩=some u)∧mc wS p.im p.ni p.ir∧mc wS p.ex p.ne p.er:=fun i=>by
  by_cases j:i<n
  ·have g:=fun k u f=>D i j k u f
   obtain⟨E,F,G,_⟩:=@yB jT W wS m _ _ _ (g 5 (P i).im rfl);obtain⟨I,J,K,_⟩:=@yB jT W wS m _ _ _ (g 6 (P i).ex rfl);refine⟨⟨(P i).au,(P i).hold,(P i).nF,(P i).nG,(P i).wait,E,(P i).ni,(P i).ir,I,(P i).ne,(P i).er⟩,fun _=>⟨fun k u f=>?_,FE m (hr i j).1 G (hd i j).1,FE m (hr i j).2 K (hd i j).2⟩⟩
   match k,f with
   |0,f=>cases f;exact @rX jT W wS m _ _ _ (g 0 _ rfl) rfl
   |1,f=>cases f;exact @rX jT W wS m _ _ _ (g 1 _ rfl) rfl
   |2,f=>cases f;exact @rX jT W wS m _ _ _ (g 2 _ rfl) rfl
   |3,f=>cases f;exact @rX jT W wS m _ _ _ (g 3 _ rfl) rfl
   |4,f=>cases f;exact @rX jT W wS m _ _ _ (g 4 _ rfl) rfl
   |5,f=>cases f;exact F
   |6,f=>cases f;exact J
   |k+7,f=>simp[Pr.cells]at f
  ·exact⟨P i,fun h=>absurd h j⟩
 refine⟨fun i=>Classical.choose (hex i),⟨some ⟨b,o,none⟩,cap,rfl,r,s,fun _=>⟨b,o,rfl,fun i j k u f=>?_⟩⟩,fun i j=>?_⟩
 ·exact(jB (hex i) j).1 k u f
 ·exact(jB (hex i) j).2
end
end
section
open Go.ChangeShapes Go.WideShapes Go.ChangeAt Go.RowKit Go.Deep Go.Proofs.YtjnkcibpkkjniaaGreat.j7
theorem Tryz.Bd:Tryz.prog.cellsOf 43=3:=by kernel_rfl
theorem Tryz.Tz:Tryz.prog.bytesOf 43=32:=by kernel_rfl
theorem Tryz.TB:Tryz.prog.cellsOf 9=1:=by kernel_rfl
theorem Tryz.FF:Tryz.prog.cellsOf 44=1:=by kernel_rfl
theorem Tryz.TC:Tryz.prog.bytesOf 44=24:=by kernel_rfl
theorem TD(s:ByteArray):∃d,Bytes d∧strOfNums d=s∧d.length=s.size:=by
 refine⟨s.data.toList.map fun b=>(b.toNat:Int),fun x hx=>?_,?_,by rw[List.length_map];rfl⟩
 ·obtain⟨b,_,rfl⟩:=iM.1 hx;have:=b.toNat_lt;omega
 ·obtain⟨⟨l⟩⟩:=s;simp only[strOfNums];congr 2;simp only[List.map_map]
  conv=>rhs;rw[←List.map_id l]
  apply gK;intro b hb;simp
def kC.cells (x:kC):List Value:=[.int .i64 x.pe,.int .i64 x.k,.string (strOfNums x.d)]
variable {H:Type} {w:World} {fuel:Nat} {spare:Nat→Bool} {held:Bool}
theorem TE{enc:TypeId×Value→H}{base:Nat}{cs:List Value}{x:DataW H×List MemPlace}(h:DataW.trod enc Tryz.prog w base spare held fuel 43 cs=some x)(hw:∀m∈x.1.weights Tryz.prog 43,m≤reachBytes):∃r:kC,cs=r.cells∧Bytes r.d∧r.d.length≤reachBytes:=by
 obtain⟨xs,n,_,hx,hlen,f,k⟩:=DataW.trod_struct Tryz.underlying43 h;rw[Tryz.Bd]at hlen
 match cs,hlen with
 |[c0,c1,c2],_ =>
  have g:∀i,i<3→∃y,xs[i]?=some y:=fun i A=>⟨xs[i]'(by rw[f];exact A),by simp⟩
  obtain⟨B,D⟩:=g 0 (by omega);obtain⟨E,F⟩:=g 1 (by omega);obtain⟨q,z⟩:=g 2 (by omega);have f0:DataW.trod enc Tryz.prog w base spare held n 3 (List.take (Tryz.prog.cellsOf 3) (List.drop 0 [c0,c1,c2]))=some B:=(k 0 _ rfl).trans D;rw[Tryz.rn]at f0;have f1:DataW.trod enc Tryz.prog w base spare held n 3 (List.take (Tryz.prog.cellsOf 3) (List.drop 1 [c0,c1,c2]))=some E:=(k 1 _ rfl).trans F;rw[Tryz.rn]at f1;have f2:DataW.trod enc Tryz.prog w base spare held n 9 (List.take (Tryz.prog.cellsOf 9) (List.drop 2 [c0,c1,c2]))=some q:=(k 2 _ rfl).trans z;rw[Tryz.TB]at f2;obtain⟨l,G,_,_⟩:=jO Tryz.underlying3 f0;obtain⟨g',I,_,_⟩:=jO Tryz.underlying3 f1;obtain⟨s,J,o,hsz⟩:=DataW.trod_string Tryz.underlying9 f2;obtain rfl:c0=.int .i64 l:=by simpa using G
  obtain rfl:c1=.int .i64 g':=by simpa using I
  obtain rfl:c2=.string s:=by simpa using J
  obtain⟨d,k1,rfl,K⟩:=TD s;refine⟨⟨l,g',d⟩,rfl,k1,?_⟩;show d.length≤_;rw[K];apply hw;rw[hx];simp only[DataW.weights,Tryz.underlying43];refine jP (j:=2) (t:=9) rfl (d:=q.1) (by simp[z]) _ ?_;rw[o];simp only[DataW.weights,iy];rfl
variable {v:Value}
theorem TF{enc:TypeId×Value→H}{x:DataW H×List MemPlace}(j3:∀b,spare b=true)(h:DataW.trod enc Tryz.prog w 0 spare held fuel 44 [v]=some x)(hw:∀m∈x.1.weights Tryz.prog 44,m≤reachBytes):∃(n:Nat)(r:Nat→kC),Sl w 3 v n (fun i=>(r i).cells)∧n≤4398046511103∧Dz w v∧∀i<n,Bytes (r i).d∧(r i).d.length≤reachBytes:=by
 obtain⟨n,c,D,o,hb,g⟩:=xp (size:=3) (bytes:=32) Tryz.underlying44 Tryz.Bd (by omega) Tryz.Tz h hw;have hr:∀i<n,∃r:kC,c i=r.cells∧Bytes r.d∧r.d.length≤reachBytes:=fun i f=>by
  obtain⟨⟨m,y,q,j⟩,k⟩:=g i f;exact TE q (by rw[j];exact k)
 obtain⟨r,hr⟩:=yC (⟨0,0,[]⟩:kC) hr;exact⟨n,r,o.congr fun i f=>(hr i f).1.symm,by omega,Bc j3 Tryz.underlying44 (by rw[Tryz.Bd];decide) h,fun i f=>(hr i f).2⟩
theorem TG{enc:TypeId×Value→H}{x:DataW H×List MemPlace}(j3:∀b,spare b=true)(h:DataW.trod enc Tryz.prog w 0 spare held fuel 47 [v]=some x)(hw:∀m∈x.1.weights Tryz.prog 47,m≤reachBytes):∃(n:Nat)(u:Nat→Value),Sl w 1 v n (fun i=>[u i])∧Dz w v∧∀i<n,∃(m:Nat)(r:Nat→kC),Sl w 3 (u i) m (fun i=>(r i).cells)∧m≤4398046511103∧Dz w (u i)∧∀j<m,Bytes (r j).d∧(r j).d.length≤reachBytes:=by
 obtain⟨n,c,D,z,hb,g⟩:=xp (size:=1) (bytes:=24) Tryz.underlying47 Tryz.FF (by omega) Tryz.TC h hw;have hr:∀i<n,∃u:Value,c i=[u]∧∃(m:Nat)(r:Nat→kC),Sl w 3 u m (fun i=>(r i).cells)∧m≤4398046511103∧Dz w u∧∀j<m,Bytes (r j).d∧(r j).d.length≤reachBytes:=fun i f=>by
  obtain⟨⟨m,y,k,o⟩,q⟩:=g i f;obtain⟨u,hu⟩:∃u,c i=[u]:=by
   rcases open_slice Tryz.underlying44 k with⟨s,_⟩|⟨a,len,cap,_,_,_,_,s,_⟩
   ·exact⟨_,s⟩
   ·exact⟨_,s⟩
  rw[hu]at k;exact⟨u,hu,TF j3 k (by rw[o];exact q)⟩
 obtain⟨u,hu⟩:=yC (.bool true) hr;exact⟨n,u,z.congr fun i f=>(hu i f).1.symm,Bc j3 Tryz.underlying47 (by rw[Tryz.FF];decide) h,fun i f=>(hu i f).2⟩
end
section
open Go Go.Conc Go.RowKit Go.Proofs.YtjnkcibpkkjniaaGreat.j7 Go.Proofs.YtjnkcibpkkjniaaGreat.kj
variable {W:World}
theorem TH{wS:World}(f:@vz jT W wS)(hsz:wS.heap.size=W.heap.size){u q:Value}{m:Nat}{r:Nat→kC}(h:Sl W 3 u m (fun i=>(r i).cells))(hu:@uK jT W q u)(hd:Dz W u):xg wS q ((List.range m).map r) (fun b=>b<wS.heap.size):=by
 obtain⟨ao,cap,rfl,z,D,A⟩:=h;rcases FD hu hd z with rfl|⟨rfl,rfl,a',rfl⟩
 ·by_cases hm:m=0
  ·subst hm;exact⟨ao,0,0,cap,rfl,fun h=>absurd rfl h,fun h=>absurd rfl h,fun j x hx=>by simp at hx⟩
  obtain⟨b,o,rfl,s⟩:=A (by omega);have hb:b<wS.heap.size:=by
   rw[hsz];exact ju _ _ (s 0 (by omega) 0 _ rfl)
  refine⟨some ⟨b,o,none⟩,b,o,cap,by simp,fun _=>rfl,fun _=>hb,fun j x hx=>?_⟩;have y:j<m:=by
   have:=(je.1 hx).1;simpa using this
  obtain rfl:r j=x:=by
   have:((List.range m).map r)[j]?=some (r j):=by simp[y]
   rw[this]at hx;exact eX hx
  have g:=fun k u B=>s j y k u B
  refine⟨?_,?_,?_⟩
  ·have:=@rX jT W wS f _ _ _ (g 0 _ rfl) rfl;rw[show o+3*j=o+j*3+0 by omega];exact this
  ·have:=@rX jT W wS f _ _ _ (g 1 _ rfl) rfl;rw[show o+3*j+1=o+j*3+1 by omega];exact this
  ·have:=@rX jT W wS f _ _ _ (g 2 _ rfl) rfl;rw[show o+3*j+2=o+j*3+2 by omega];exact this
 ·exact⟨some a',0,0,0,rfl,fun h=>absurd rfl h,fun h=>absurd rfl h,fun j x hx=>by simp at hx⟩
def Arg (W:World) (ao:Option Addr):Prop:=∀a,ao=some a→∃C e fr,W.heap[a.block]?=some (.cells C e fr)
variable {ao:Option Addr}
theorem Be(h:Arg W ao)(l c:Nat):@VR jT (n9 W) (.slice ao l c) (.slice ao l c):=by
 cases ao with
 |none=>exact @VR.lW jT _ _ _
 |some a =>
  obtain⟨C,e,fr,hW⟩:=h a rfl;obtain⟨p,hp⟩:=A8 hW;exact @VR.slice jT _ _ _ _ _ ⟨by rw[rK];exact eI _,p,hp,(vy hp).1.symm,by rw[(vy hp).2];omega,rfl⟩
variable {P:Nat→Pr}
theorem TI:∀(m k:Nat),rh P k m=0→∀j,k≤j→j<k+m→mY (P j)=true:=by
 intro m
 induction m with
 |zero=>intro k _ j f g;omega
 |succ m o =>
  intro k h j f g;unfold rh at h
  by_cases hp:mY (P k)=true
  ·rw[dj hp]at h
   by_cases e:j=k
   ·rw[e];exact hp
   ·exact o (k+1) h j (by omega) (by omega)
  ·rw[dk hp]at h;omega
variable {au id:Int} {n:Nat}
theorem TJ(h:(mR au id n P).1=0):n≤8∧∀i,i<n→0≤(P i).hold∧(P i).hold≤65535:=by
 unfold mR at h
 by_cases f:rS au id n=true
 ·rw[dj f]at h
  by_cases g:rh P 0 n=0
  ·refine⟨?_,fun i k=>?_⟩
   ·unfold rS at f;simp only[eh,ed]at f;exact f.2
   ·have hp:=TI n 0 g i (eI _) (by omega);unfold mY at hp;simp only[eh]at hp;have j:=hp.1.1.1.1.1.2;unfold holdB oH at j;simp only[dZ,eh,ed,beq_iff_eq]at j;omega
  ·rw[dk g]at h;simp at h
 ·rw[dk f]at h;simp at h
theorem TK(W:World){nh:Int}{ta ia:Option Addr}{cap nt tc ni ic:Nat}(Y:ot W (.slice ao n cap) n P)(s:∀i<n,Dz W (P i).im∧Dz W (P i).ex)(hid:0≤id)(A:nt≤4611686018427387904)(Z:∀i,i<nt→∃tb to t,ta=some ⟨tb,to,none⟩∧W.cell? ⟨tb,to+i,none⟩=some (.int .i64 t))(hI:∀i,i<ni→∃(k q:Nat)(u:Value)(m:Nat)(r:Nat→kC),ia=some ⟨k,q,none⟩∧W.cell? ⟨k,q+i,none⟩=some u∧Sl W 3 u m (fun i=>kC.cells (r i))∧m≤4398046511103∧Dz W u∧∀j<m,Bytes (r j).d∧(r j).d.length≤140737488351232)(D:Arg W ao)(E:Arg W ta)(F:Arg W ia):∃N last o w' t',runNT Tryz.prog (N+1) (solo (G (Frame.enter Tryz.prog 9 #[.agg #[.int .i64 au,.int .u32 id,.int .u32 nh,.slice ao n cap],.slice ta nt tc,.slice ia ni ic] .normal) []) W) #[]=(.ended o w',t')∧runN Tryz.prog N (solo (G (Frame.enter Tryz.prog 9 #[.agg #[.int .i64 au,.int .u32 id,.int .u32 nh,.slice ao n cap],.slice ta nt tc,.slice ia ni ic] .normal) []) W)=.next last∧step Tryz.prog last=.ended o w' ∧
   Conc.Good Tryz.prog (fun v w'=>v=.bool true∧(∀B,B<W.heap.size→w'.heap[B]?=W.heap[B]?)∧w'.os=W.os∧w'.output=W.output) last o w' t':=by
 obtain⟨wS,s1,s2,f⟩:=@Tl jT rK rfl W;have f:@vz jT W wS:=f;obtain⟨P',I⟩:=Ty f Y s;have hIn:∀i,i<nt→i<ni→A7 wS ta ia i:=fun i J h2=>by
  obtain⟨tb,to,t,K,U⟩:=Z i J;obtain⟨k,q,u,m,r,e3,V,e5,e6,e7,e8⟩:=hI i h2;obtain⟨u',q1,q2,_⟩:=@yB jT W wS f _ _ _ V;refine⟨tb,to,t,k,q,u',(List.range m).map r,K,e3,?_,?_,@rX jT W wS f _ _ _ U rfl,q1,TH f s1 e5 q2 e7,by simpa using e6,fun x hx=>?_⟩
  ·rw[s1];exact ju _ _ U
  ·rw[s1];exact ju _ _ V
  ·obtain⟨j,hj,rfl⟩:=iM.1 hx;have:=e8 j (fZ.1 hj);exact⟨this.1,by omega⟩
 have X:=Th (au:=au) (id:=id) (nh:=nh) (tc:=tc) (ic:=ic) I hid A hIn (fun h=>TJ h);have he:∀x y z,Frame.enter Tryz.prog 9 #[x,y,z] .normal=(base 9).at { tmps:=#[x,y,z]++Array.replicate 123 undef,defers:=[] } [.code (Tryz.f9.body.getD .skip)]:=fun x y z=>by
  unfold Frame.enter;simp only[Tryz.func9];rfl
 rw[←he]at X;have L:@HR jT (n9 W) wS W:=@Tm jT rK rfl W wS s1 s2 f;refine @IC jT Tryz.prog _ _ _ (.bool true) _ _ Tryz.func9 rfl (by kernel_rfl) (fun ρ v' h=>by cases h;rfl) rfl #[.agg #[.int .i64 au,.int .u32 id,.int .u32 nh,.slice ao n cap],.slice ta nt tc,.slice ia ni ic] _ wS W (n9 W) L
  (@mq.mk jT _ _ _ _ _ rfl fun i v v' a b=>?_) X (fun ρ' aa w' hle hh M O R g=>⟨rfl,fun B hB=>?_,R,g⟩)
 ·match i,a,b with
  |0,a,b =>
   simp at a b;subst a;subst b;refine .inl (@VR.agg jT _ _ _ rfl fun j v v' c d=>?_)
   match j,c,d with
   |0,c,d=>simp at c d;subst c;subst d;exact @VR.int jT _ _ _
   |1,c,d=>simp at c d;subst c;subst d;exact @VR.int jT _ _ _
   |2,c,d=>simp at c d;subst c;subst d;exact @VR.int jT _ _ _
   |3,c,d=>simp at c d;subst c;subst d;exact Be D _ _
   |j+4,c,d=>simp at c
  |1,a,b=>simp at a b;subst a;subst b;exact .inl (Be E _ _)
  |2,a,b=>simp at a b;subst a;subst b;exact .inl (Be F _ _)
  |i+3,a,b=>simp at a
 ·by_cases hd:∃p,n9 W B=some p∧p.part=none
  ·obtain⟨p,hp,S⟩:=hd;obtain⟨C,e,fr,hW,hc⟩:=A9 hp;rcases hc with⟨_,rfl⟩|⟨hz,rfl⟩
   ·cases S
   obtain⟨c,k1,k2,k3⟩:=f B C e fr hW;rw[dk hz]at k1;obtain⟨o,o',r1,r2,T⟩:=@HR.obj jT _ _ _ hh B _ (hle _ _ hp);have K:=(M B (by rw[s1];exact hB)).trans k1;rw[K]at r1;obtain rfl:=eX r1;have T:@OR jT ρ' _ o':=T
   cases T with
   | @cells _ C' _ _ hv =>
    have J:C'=C:=by
     have:=@jW.size jT _ _ _ hv;rw[fA (xs:=C') (by omega),fA (xs:=C) (by omega)]
    rw[hW,←J];exact r2
  ·refine O B hB fun b p hp e=>?_
   rw[(vy hp).1]at e;subst e;rcases Ba hp with rfl|⟨ty,rfl⟩
   ·exact absurd ⟨_,hp,rfl⟩ hd
   ·exact⟨ty,rfl⟩
end
end Go.Proofs.YtjnkcibpkkjniaaGreat
