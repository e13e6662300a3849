import Derived.Test.YtjnkcibpkkjniaaGreatA00
import Derived.Test.YtjnkcibpkkjniaaGreatA28
set_option linter.all false
set_option maxHeartbeats 1600000
set_option maxRecDepth 20000
namespace Go.Proofs.YtjnkcibpkkjniaaGreat
section
open Go Go.RowKit
open Go.Proofs.YtjnkcibpkkjniaaGreat.kj (kH lf uC rP)
def mi (sp cb B0 S0:Nat) (au id:Int) (p:Pz) (k:Nat) (xs:List Value) (sv:Value):Nat→Value→World→Prop
 |0,v,_=>v=.pointer (some ⟨sp,0,none⟩)
 |1,v,_=>v=.pointer (some ⟨sp,0,none⟩)
 |2,v,_=>v=.pointer (some ⟨sp,0,none⟩)
 |3,v,_=>v=.pointer (some ⟨sp,1,none⟩)
 |4,v,_=>v=sv
 |5,v,_=>v=.pointer (some ⟨cb,0,none⟩)
 |6,v,_=>v=.int .i64 au
 |7,v,_=>v=.pointer (some ⟨cb,1,none⟩)
 |8,v,_=>v=.int .u32 id
 |9,v,_=>v=.agg p.cells
 |10,v,_=>v=.agg (j5 au id p 0 0 0 0 (.slice none 0 0))
 |11,v,w=>∃nb,v=.slice (some ⟨nb,0,none⟩) 1 1∧S0≤nb∧w.heap[nb]?=some (.cells (j5 au id p 0 0 0 0 (.slice none 0 0)) 100 (0,0))
 |12,v,w=>w.ownsRow B0 100 14 v (k+1) (xs++(j5 au id p 0 0 0 0 (.slice none 0 0)).toList)∧o7 Pl w v ((k+1)*14)∧(v.ownBlock=sv.ownBlock∨∃j,v.ownBlock=some j∧S0≤j)
 |13,v,_=>v=.pointer (some ⟨sp,0,none⟩)
 |14,v,_=>v=.pointer (some ⟨sp,1,none⟩)
 |_,_,_=>True
variable {sp cb B0 k:Nat} {au id:Int} {p:Pz} {xs:List Value} {sv:Value}
theorem R7{e:Nat}(w w':World)(i:Nat)(u:Value)(hB:Below w.heap.size w w')(h:mi sp cb B0 e au id p k xs sv i u w):mi sp cb B0 e au id p k xs sv i u w':=by
 unfold mi at h ⊢;split at h
 iterate 11 exact h
 ·obtain⟨nb,a,c,b⟩:=h;exact⟨nb,a,c,(hB.block _ (dp.1 b).1).trans b⟩
 ·obtain⟨a,c,b⟩:=h;exact⟨lL a fun k d=>hB.block k (iX a k d).2,c.keep fun k d=>hB.block k (iX a k d).2,b⟩
 ·exact h
 ·exact h
 ·trivial
def A3 (i:Nat):Bool:=i == 4 || i == 6 || i == 8 || i == 9 || i == 10 || i == 11
theorem R8:kH pB [1,3,5,7,18,19,20] 42=true:=RY
theorem R9:rP pB 12 A3=true:=by kernel_rfl
variable {Q:Exit→Act→World→Prop} {w0:World}
theorem Sa{f:Nat}(j3:sp<w0.heap.size)(r:cb<w0.heap.size)(h:f<w0.heap.size)(s1:w0.cell? ⟨sp,1,none⟩=some sv)(c0:w0.cell? ⟨cb,0,none⟩=some (.int .i64 au))(c1:w0.cell? ⟨cb,1,none⟩=some (.int .u32 id))(d0:w0.cell? ⟨f,0,none⟩=some (.int .i64 p.au))(d1:w0.cell? ⟨f,1,none⟩=some (.int .i64 p.hold))(d2:w0.cell? ⟨f,2,none⟩=some (.int .i64 p.nF))(d3:w0.cell? ⟨f,3,none⟩=some (.int .i64 p.nG))(d4:w0.cell? ⟨f,4,none⟩=some (.int .i64 p.wait))(d5:w0.cell? ⟨f,5,none⟩=some (.slice p.ia p.il p.ic))(d6:w0.cell? ⟨f,6,none⟩=some (.slice p.ea p.el p.ec))(i:Nat)(o:Oper)(a:Act)(w:World)(x:i<15)(u:i≠12)(s:pB[i]?=some o)(f1:a.tmps[1]?=some (.pointer (some ⟨cb,0,none⟩)))(f5:a.tmps[5]?=some (.pointer (some ⟨sp,0,none⟩)))(f7:a.tmps[7]?=some (.pointer (some ⟨f,0,none⟩)))(b:∀(j:Nat)(o':Oper)(d:Nat),pB[j]?=some o'→o'.dst=some d→(∃e∈o.after,e.on=j∧Region.binds .any e=true)→∃v,a.tmps[d]?=some v∧mi sp cb B0 w0.heap.size au id p k xs sv j v w)(m:A3 i=true→Below w0.heap.size w0 w)(K:Act→World→Prop)(l:∀v w',mi sp cb B0 w0.heap.size au id p k xs sv i v w'→Below w.heap.size w w'→K (a.put o.dst v) w'):o.wp Tryz.prog a w K Q:=by
 obtain rfl|rfl|rfl|rfl|rfl|rfl|rfl|rfl|rfl|rfl|rfl|rfl|rfl|rfl:i=0∨i=1∨i=2∨i=3∨i=4∨i=5∨i=6∨i=7∨i=8∨i=9∨i=10∨i=11∨i=13∨i=14:=by omega
 all_goals
  simp only[pB,Tryz.f20,opsOf,dW]at s;simp[]at s;subst s
 ·unfold Oper.wp execOp;simp only[Act.eval,du,f5,ez];go_simp;exact l _ _ rfl (iD _ _)
 ·unfold Oper.wp execOp;simp only[Act.eval,du,f5,ez];go_simp;exact l _ _ rfl (iD _ _)
 ·obtain⟨q,g,c⟩:=b 1 _ _ rfl rfl ⟨⟨1,.data⟩,by simp,rfl,rfl⟩;simp only[mi]at c
  try subst c
  unfold Oper.wp execOp;simp only[Act.eval,du,g,ez];go_simp;exact l _ _ rfl (iD _ _)
 ·obtain⟨q,g,c⟩:=b 2 _ _ rfl rfl ⟨⟨2,.data⟩,by simp,rfl,rfl⟩;simp only[mi]at c
  try subst c
  unfold Oper.wp execOp;simp only[Act.eval,du,g,ez];go_simp;exact l _ _ rfl (iD _ _)
 ·obtain⟨q,g,c⟩:=b 3 _ _ rfl rfl ⟨⟨3,.data⟩,by simp,rfl,rfl⟩;simp only[mi]at c
  try subst c
  have y:=((m rfl).cell (p:=⟨sp,1,none⟩) j3).trans s1;unfold Oper.wp execOp;simp only[Act.eval,du,g,ez];go_simp;exact l _ _ rfl (iD _ _)
 ·unfold Oper.wp execOp;simp only[Act.eval,du,f1,ez];go_simp;exact l _ _ rfl (iD _ _)
 ·obtain⟨q,g,c⟩:=b 5 _ _ rfl rfl ⟨⟨5,.data⟩,by simp,rfl,rfl⟩;simp only[mi]at c
  try subst c
  have z:=((m rfl).cell (p:=⟨cb,0,none⟩) r).trans c0;unfold Oper.wp execOp;simp only[Act.eval,du,g,ez];go_simp;exact l _ _ rfl (iD _ _)
 ·unfold Oper.wp execOp;simp only[Act.eval,du,f1,ez];go_simp;exact l _ _ rfl (iD _ _)
 ·obtain⟨q,g,c⟩:=b 7 _ _ rfl rfl ⟨⟨7,.data⟩,by simp,rfl,rfl⟩;simp only[mi]at c
  try subst c
  have A:=((m rfl).cell (p:=⟨cb,1,none⟩) r).trans c1;unfold Oper.wp execOp;simp only[Act.eval,du,g,ez];go_simp;exact l _ _ rfl (iD _ _)
 ·have b0:=((m rfl).cell (p:=⟨f,0,none⟩) h).trans d0;have b1:=((m rfl).cell (p:=⟨f,1,none⟩) h).trans d1;have b2:=((m rfl).cell (p:=⟨f,2,none⟩) h).trans d2;have B:=((m rfl).cell (p:=⟨f,3,none⟩) h).trans d3;have C:=((m rfl).cell (p:=⟨f,4,none⟩) h).trans d4;have D:=((m rfl).cell (p:=⟨f,5,none⟩) h).trans d5;have E:=((m rfl).cell (p:=⟨f,6,none⟩) h).trans d6;unfold Oper.wp execOp;simp only[Act.eval,du,f7,ez];go_simp;exact l _ _ rfl (iD _ _)
 ·obtain⟨q,g,c⟩:=b 6 _ _ rfl rfl ⟨⟨6,.data⟩,by simp,rfl,rfl⟩;simp only[mi]at c
  try subst c
  obtain⟨F,G,t⟩:=b 8 _ _ rfl rfl ⟨⟨8,.data⟩,by simp,rfl,rfl⟩;simp only[mi]at t
  try subst t
  obtain⟨H,I,p2⟩:=b 9 _ _ rfl rfl ⟨⟨9,.data⟩,by simp,rfl,rfl⟩;simp only[mi]at p2
  try subst p2
  unfold Oper.wp execOp;simp only[];go_simp;refine(Dl au id p w).mono ?_;rintro e w1 ⟨rfl,hB⟩;exact l _ _ rfl hB
 ·obtain⟨q,g,c⟩:=b 10 _ _ rfl rfl ⟨⟨10,.data⟩,by simp,rfl,rfl⟩;simp only[mi]at c
  try subst c
  simp only[j5]at g;have hsz:=(m rfl).size;unfold Oper.wp execOp;simp only[Act.eval,du];go_simp;exact l _ _ ⟨w.heap.size,rfl,hsz,jl w _⟩ ((iD _ _).alloc (dx _) _)
 ·obtain⟨q,g,c⟩:=b 0 _ _ rfl rfl ⟨⟨0,.data⟩,by simp,rfl,rfl⟩;simp only[mi]at c
  try subst c
  unfold Oper.wp execOp;simp only[Act.eval,du,g,ez];go_simp;exact l _ _ rfl (iD _ _)
 ·obtain⟨q,g,c⟩:=b 13 _ _ rfl rfl ⟨⟨13,.data⟩,by simp,rfl,rfl⟩;simp only[mi]at c
  try subst c
  unfold Oper.wp execOp;simp only[Act.eval,du,g,ez];go_simp;exact l _ _ rfl (iD _ _)
theorem Sb(z:B0≤w0.heap.size)(Y:k≤2147483647)(c:w0.ownsRow B0 100 14 sv k xs)(M:o7 Pl w0 sv (k*14))(o:Oper)(a:Act)(w:World)(A:pB[12]?=some o)(f:∀(j:Nat)(o':Oper)(d:Nat),pB[j]?=some o'→o'.dst=some d→(∃e∈o.after,e.on=j∧Region.binds .any e=true)→∃v,a.tmps[d]?=some v∧mi sp cb B0 w0.heap.size au id p k xs sv j v w)(B:Below w0.heap.size w0 w)(l:w0.grownBy w sv.ownBlock)(b:(k+1)*160≤140737488355328)(K:Act→World→Prop)(N:∀v w',mi sp cb B0 w0.heap.size au id p k xs sv 12 v w'→(∀j u,j≠12→mi sp cb B0 w0.heap.size au id p k xs sv j u w→mi sp cb B0 w0.heap.size au id p k xs sv j u w')→w0.grownBy w' sv.ownBlock→K (a.put o.dst v) w'):o.wp Tryz.prog a w K Q:=by
 simp only[pB,Tryz.f20,opsOf,dW]at A;simp[]at A;subst A;obtain⟨y,O,H⟩:=f 4 _ _ rfl rfl ⟨⟨4,.data⟩,by simp,rfl,rfl⟩;simp only[mi]at H;subst H;obtain⟨Z,R,I⟩:=f 11 _ _ rfl rfl ⟨⟨11,.data⟩,by simp,rfl,rfl⟩;simp only[mi]at I;obtain⟨bb,rfl,S,m⟩:=I;obtain⟨i0,T,q,C⟩:=RX;have r:=iX c;have s:∀j,y.ownBlock=some j→w.heap[j]?=w0.heap[j]?:=fun j D=>B.block j (r j D).2
 have g:w.ownsRow B0 100 14 y k xs:=lL c s;have E:∀(j:Nat)(u:Value),(j5 au id p 0 0 0 0 (.slice none 0 0)).toList[j]?=some u→w.cell? ((⟨bb,0,none⟩:Addr).add j)=some u:=fun j u hu=>by
  have e:(⟨bb,0,none⟩:Addr).add j=⟨bb,j,none⟩:=by unfold Addr.add;split<;>simp_all
  rw[e];exact(jV m j).trans (by simpa using hu)
 obtain⟨v',w',t,r1,r2,U,V⟩:=Rh (P:=Tryz.prog) (w:=w) Pl B0 89 89 100 i0 T 14 160 Tryz.underlying89 q.info q.zero q.size q.bytes q.cells (by decide) y k xs g ⟨bb,0,none⟩ 1 1 (j5 au id p 0 0 0 0 (.slice none 0 0)).toList rfl E (by intro u hu;simp[j5]at hu;rcases hu with rfl|rfl|rfl|rfl|rfl|rfl|rfl|rfl|rfl|rfl|rfl<;>rfl) (by unfold maxLen;omega) b (dz z B.size) C (M.keep s);have F:a.eval (.tmp 28)=y:=by simp[Act.eval,du,O]
 have G:a.eval (.tmp 35)=.slice (some ⟨bb,0,none⟩) 1 1:=by simp[Act.eval,du,R]
 have hsz:=B.size;unfold Oper.wp;simp[execOp,resolve,invoke,builtin,F,G,t,Result.andThen];refine N _ _ ⟨r1,U,V.imp (fun e=>e) fun e=>⟨_,e,hsz⟩⟩ (fun j u D h=>?_) ⟨r2.os.trans l.os,r2.tape.trans l.tape,r2.output.trans l.output,dz l.size r2.size,fun i J hr=>(r2.block i (dA J l.size) hr).trans (l.block i J hr)⟩;unfold mi at h ⊢;split at h
 iterate 11 exact h
 ·obtain⟨x,W,X,L⟩:=h;exact⟨x,W,X,(r2.block _ (dp.1 L).1 fun e=>by have:=(r x e.symm).2;omega).trans L⟩
 ·exact absurd rfl D
 ·exact h
 ·exact h
 ·trivial
theorem Sd(j3:sp<w0.heap.size)(g:sv.ownBlock≠some sp)(s1:w0.cell? ⟨sp,1,none⟩=some sv)(q:w0.frozen? ⟨sp,1,none⟩=false)(o:Oper)(a:Act)(w:World)(h:pB[15]?=some o)(b:∀(j:Nat)(o':Oper)(d:Nat),pB[j]?=some o'→o'.dst=some d→(∃e∈o.after,e.on=j∧Region.binds .any e=true)→∃v,a.tmps[d]?=some v∧mi sp cb B0 w0.heap.size au id p k xs sv j v w)(i:w0.grownBy w sv.ownBlock)(K:Act→World→Prop)(r:∀v w',(∃f v',w0.grownBy f sv.ownBlock∧f.ownsRow B0 100 14 v' (k+1) (xs++(j5 au id p 0 0 0 0 (.slice none 0 0)).toList)∧o7 Pl f v' ((k+1)*14)∧(v'.ownBlock=sv.ownBlock∨∃j,v'.ownBlock=some j∧w0.heap.size≤j)∧w'=f.setCell ⟨sp,1,none⟩ v')→K (a.put o.dst v) w'):o.wp Tryz.prog a w K Q:=by
 have hb:=i.block sp j3 (fun e=>g e.symm);have x:=(jx (a:=⟨sp,1,none⟩) hb).trans s1;have y:=(World.frozen?_of_block (a:=⟨sp,1,none⟩) hb).trans q;simp only[pB,Tryz.f20,opsOf,dW]at h;simp[]at h;subst h;obtain⟨z,s,l⟩:=b 14 _ _ rfl rfl ⟨⟨14,.data⟩,by simp,rfl,rfl⟩;simp only[mi]at l;subst l;obtain⟨A,t,m⟩:=b 12 _ _ rfl rfl ⟨⟨12,.data⟩,by simp,rfl,rfl⟩;simp only[mi]at m;obtain⟨c,u,hw⟩:=m;obtain⟨ao,B,rfl,_⟩:=p6 c;unfold Oper.wp execOp;simp only[Act.eval,du,s,t,ez];go_simp;exact r undef _ ⟨w,_,i,c,u,hw,rfl⟩
end
end Go.Proofs.YtjnkcibpkkjniaaGreat
namespace Go.Proofs.YtjnkcibpkkjniaaGreat.j7
section
open Go Go.Proofs.YtjnkcibpkkjniaaGreat
def qD (au id:Int) (d:Nat→SD):Nat→List Value
 |0=>[]
 |k+1=>qD au id d k++((d k).cells au id).toList
theorem yx(au id:Int)(d:Nat→SD):∀k,(qD au id d k).length=14*k
 |0=>rfl
 |k+1=>by
  have h:((d k).cells au id).toList.length=14:=rfl;rw[qD,iF,yx au id d k,h];omega
theorem Se(au id:Int)(d:Nat→SD):∀n i j,i<n→j<14→(qD au id d n)[14*i+j]?=((d i).cells au id)[j]?:=by
 intro n
 induction n with
 |zero=>intro i j a;omega
 |succ n b =>
  intro i j a c;rw[qD]
  by_cases e:i=n
  ·subst e;rw[jD (by rw[yx];omega),yx,show 14*i+j-14*i=j by omega,jA]
  ·rw[jC (by rw[yx];omega)];exact b i j (by omega) c
variable {w:World} {n:Nat} {au id:Int}
theorem Fi{B:Nat}{v:Value}{d:Nat→SD}(h:w.ownsRow B 100 14 v n (qD au id d n))(b:o7 Pl w v (n*14))(q:0<n):∃xb xc Z,v=.slice (some ⟨xb,0,none⟩) n xc∧B≤xb∧(∃C,w.heap[xb]?=some (.cells C 100 (0,0))∧Flat C n Z au id d)∧∀u∈Z,Pl u:=by
 rcases h.2 with⟨_,e⟩|⟨g,cap,cur,rfl,k2,a,c,r,f,l⟩
 ·omega
 ·have hle:n*14≤cap*14:=ef 14 c;refine⟨g,cap,cur.toList.drop (n*14),rfl,k2,⟨cur,a,?_,fun i m j o=>?_,fun j=>?_⟩,b g cur _ _ rfl a⟩
  ·rw[iU,Array.length_toList,f];omega
  ·have e:(cur.toList.take (n*14))[14*i+j]?=(qD au id d n)[14*i+j]?:=by rw[l]
   rw[jm (by omega),jA]at e;rw[e];exact Se au id d n i j m o
  ·rw[jq,jA,dT n 14]
def pb (p:Pz):SD:=⟨p,nH,none,0,0⟩
theorem vu{p:Pz}{b:Nat}(h:(pb p).nm b):pK p b:=by
 rcases h with h|h|⟨ad,e,_⟩
 ·exact .inl h
 ·exact .inr h
 ·cases e
theorem Fj{xb:Nat}{Z:List Value}{p:Nat→Pz}(hb:∃C,w.heap[xb]?=some (.cells C 100 (0,0))∧Flat C n Z au id (fun i=>pb (p i)))(e:∀u∈Z,Pl u)(hr:∀i,i<n→∀b,pK (p i) b→b≠xb∧lO w b)(f:∀i i',i<n→i'<n→i≠i'→∀b,pK (p i) b→¬pK (p i') b):nR w xb n Z au id (fun i=>pb (p i)) :=
 ⟨hb,e,fun i a b h=>hr i a b (vu h),fun i a=>py.nil w,fun i a k g=>(by cases g),fun i i' a c d b h h'=>f i i' a c d b (vu h) (vu h')⟩
end
end Go.Proofs.YtjnkcibpkkjniaaGreat.j7
namespace Go.Proofs.YtjnkcibpkkjniaaGreat
section
open Go Go.RowKit
open Go.Proofs.YtjnkcibpkkjniaaGreat.kj (kH lf nO)
open Go.Proofs.YtjnkcibpkkjniaaGreat.j7 (lO o4 mQ)
theorem Fl{C:Array Value}(h:C.size=42):∃c0 c1 c2 c3 c4 N O R S T a b c kJ d e f g i j m o q r s t u x y z A B D E F G H I J K L M,C=#[c0,c1,c2,c3,c4,N,O,R,S,T,a,b,c,kJ,d,e,f,g,i,j,m,o,q,r,s,t,u,x,y,z,A,B,D,E,F,G,H,I,J,K,L,M]:=by
 obtain⟨l⟩:=C
 match l,h with
 |c0::c1::c2::c3::c4::N::O::R::S::T::a::b::c::kJ::d::e::f::g::i::j::m::o::q::r::s::t::u::x::y::z::A::B::D::E::F::G::H::I::J::K::L::M::[],_=>exact⟨_,_,_,_,_,_,_,_,_,_,_,_,_,_,_,_,_,_,_,_,_,_,_,_,_,_,_,_,_,_,_,_,_,_,_,_,_,_,_,_,_,_,rfl⟩
end
section
open Go Go.RowKit
open Go.Proofs.YtjnkcibpkkjniaaGreat.kj (kH lf uC rP)
open Go.Proofs.YtjnkcibpkkjniaaGreat.j7 (lO pK nR qD pb Fi Fj)
variable {au id:Int} {n:Nat} {P:Nat→Pr}
theorem Sf(h:(mR au id n P).1=0):rS au id n=true∧(∀i<n,mY (P i)=true):=by
 unfold mR at h;split at h
 ·rename_i e;refine⟨e,?_⟩;split at h
  ·rename_i m;intro i f
   cases hp:mY (P i)
   ·exfalso;have:∀d,d≤i→(∀j,j<d→mY (P j)=true):=by
     intro d
     induction d with
     |zero=>intro _ j b;omega
     |succ d c =>
      intro hd j b;rcases jE.1 b with a|a
      ·exact c (by omega) j a
      ·subst a
       cases g:mY (P j)
       ·have:=AZ n 0 j (by omega) (fun x _ l=>c (by omega) x (by omega)) (by rw[dB];exact g);omega
       ·rfl
    have:=AZ n 0 i f (fun x _ l=>this i (dx _) x (by omega)) (by rw[dB];exact hp);omega
   ·rfl
  ·simp at h
 ·simp at h
theorem Sg:(mR au id n P).1=0∧(mR au id n P).2=0∨(mR au id n P).1=1:=by
 unfold mR;split
 ·split
  ·exact .inl ⟨rfl,rfl⟩
  ·exact .inr rfl
 ·exact .inr rfl
structure Fo (w:World) (g B n:Nat) (P:Nat→Pr) (t:Nat→Nat) (pz:Nat→Pz):Prop where
 at_:∀i,i<n→(pz i).au=(P i).au∧(pz i).hold=(P i).hold∧∀k u,(pz i).cells.toList[k]?=some u→w.cell? ⟨g,i*7+k,none⟩=some u
 im:∀i,i<n→∀ad,(pz i).ia=some ad→t (2*i)≤ad.block∧ad.block<t (2*i+1)∧lO w ad.block
 ex:∀i,i<n→∀ad,(pz i).ea=some ad→t (2*i+1)≤ad.block∧ad.block<t (2*i+2)∧lO w ad.block
theorem Si{w:World}{g B:Nat}{t:Nat→Nat}(c:n7 w g n P)(d:mZ w g B n t):∃pz,Fo w g B n P t pz:=by
 have:∀i,∃p:Pz,i<n→(p.au=(P i).au∧p.hold=(P i).hold∧∀k u,p.cells.toList[k]?=some u→w.cell? ⟨g,i*7+k,none⟩=some u)∧(∀ad,p.ia=some ad→t (2*i)≤ad.block∧ad.block<t (2*i+1)∧lO w ad.block)∧∀ad,p.ea=some ad→t (2*i+1)≤ad.block∧ad.block<t (2*i+2)∧lO w ad.block:=by
  intro i
  by_cases a:i<n
  ·obtain⟨⟨v5,e,f,j,l,rfl,m⟩,v6,o,q,r,s,rfl,x⟩:=d.at_ i a;refine⟨⟨(P i).au,(P i).hold,(P i).nF,(P i).nG,(P i).wait,f,j,l,q,r,s⟩,fun _=>⟨⟨rfl,rfl,fun k u hu=>?_⟩,m,x⟩⟩;have y:k<7:=(je.1 hu).1;obtain rfl|rfl|rfl|rfl|rfl|rfl|rfl:k=0∨k=1∨k=2∨k=3∨k=4∨k=5∨k=6:=by omega
   ·exact c i a 0 u hu
   ·exact c i a 1 u hu
   ·exact c i a 2 u hu
   ·exact c i a 3 u hu
   ·exact c i a 4 u hu
   ·cases hu;exact e
   ·cases hu;exact o
  ·exact⟨⟨0,0,0,0,0,none,0,0,none,0,0⟩,fun h=>absurd h a⟩
 obtain⟨pz,b⟩:=Classical.axiomOfChoice this;exact⟨pz,fun i a=>(b i a).1,fun i a=>(b i a).2.1,fun i a=>(b i a).2.2⟩
def Sj (w:World) (au id:Int) (n:Nat) (P:Nat→Pr) (e:Ending) (w':World):Prop :=
  ∃ p,e=.returned (.tuple #[.pointer p, .agg #[.int .i64 (mR au id n P).1, .int .i64 (mR au id n P).2]])∧Below w.heap.size w w' ∧
    (((mR au id n P).1≠0∧p=none)∨((mR au id n P).1=0∧(mR au id n P).2=0∧∃ sp sv,p=some ⟨sp,0,none⟩∧w.heap.size≤sp∧w'.heap[sp]? = some (.cells #[.int .i64 0,sv] 91 (0,0)) ∧
      ((n=0∧sv=.slice none 0 0)∨∃ (xb xc:Nat) (Z:List Value) (pz:Nat→Pz),0 < n∧sv=.slice (some ⟨xb,0,none⟩) n xc∧w.heap.size≤xb∧sp≠xb∧nR w' xb n Z au id (fun i=>pb (pz i))∧(∀ i,i < n→(pz i).au=(P i).au∧(pz i).hold=(P i).hold)∧∀ i,i < n→∀ b,pK (pz i) b→w.heap.size≤b∧b≠sp)))
theorem Sk{a b c:World}{row:Option Nat}(h:a.grownBy b row)(k:Below b.heap.size b c):a.grownBy c row :=
 ⟨k.os.trans h.os,k.tape.trans h.tape,k.output.trans h.output,dz h.size k.size,fun i d hr=>(k.block i (dA d h.size)).trans (h.block i d hr)⟩
structure NI (w W3:World) (sp g n gc:Nat) (au id:Int) (pz:Nat→Pz) (ao:Option Addr) (a:Act) (wr:World):Prop where
 kG:a.defers=[]
 hsz:a.tmps.size=42
 f1:a.tmps[1]?=some (.pointer (some ⟨w.heap.size,0,none⟩))
 f3:a.tmps[3]?=some (.pointer (some ⟨w.heap.size+1,0,none⟩))
 f5:a.tmps[5]?=some (.pointer (some ⟨sp,0,none⟩))
 f18:a.tmps[18]?=some (.slice ao n gc)
 f19:a.tmps[19]?=some (.int .i64 (n:Int))
 rest:∃k:Nat,a.tmps[20]?=some (.int .i64 (k:Int))∧k≤n∧Below sp W3 wr∧(∀b,b<W3.heap.size→b≠sp→wr.heap[b]?=W3.heap[b]?) ∧
  ∃sv,wr.heap[sp]?=some (.cells #[.int .i64 0,sv] 91 (0,0))∧wr.ownsRow W3.heap.size 100 14 sv k (qD au id (fun i=>pb (pz i)) k)∧o7 Pl wr sv (k*14)∧(k=0→sv=.slice none 0 0)
def Fp (n:Nat) (a:Act):Nat:=match a.tmps[20]? with|some (Value.int _ k)=>n-k.toNat|_=>0
theorem Sm(au id nh:Int)(ao:Option Addr)(n cap:Nat)(w:World):Sem.run Tryz.prog (Instr.field 25 (.agg #[.int .i64 au,.int .u32 id,.int .u32 nh,.slice ao n cap]) 3) w=.ok (.slice ao n cap) w:=by
 simp[Instr.field,part,isAgg,asAgg,go_sem]
theorem Fq(au id nh:Int)(ao:Option Addr)(n cap:Nat)(P:Nat→Pr)(w:World)(h:ot w (.slice ao n cap) n P):Calls Tryz.prog 20 #[.agg #[.int .i64 au,.int .u32 id,.int .u32 nh,.slice ao n cap]] w fun e w'=>Sj w au id n P e w':=by
 have H:Hid (ot w (.slice ao n cap) n P):=h;clear h;go_enter Tryz.func20,Tryz.ntmps20
 go_wp2_with fail
 refine(RD _ _ _ _ _ _ P _ (H.out.cell (((iD _ _).alloc (dx _) _).alloc (by simp) _))).mono ?_;rintro e w1 ⟨rfl,hB⟩;have aA:Below w.heap.size w w1:=(((iD _ _).alloc (dx _) _).alloc (by simp) _).trans (hB.mono (by simp only[iI];omega));have hz:w.heap.size+1<w1.heap.size:=by have:=hB.size;simp only[iI]at this;omega
 have G:w1.heap[w.heap.size]?=some (.cells #[.int .i64 au,.int .u32 id,.int .u32 nh,.slice ao n cap] 25):=by
  rw[hB.block _ (by simp only[iI];omega)];exact heap_alloc2_old _ _ _
 have I:w1.heap[w.heap.size+1]?=some (.cells #[.int .i64 0,.int .i64 0] 50):=by
  rw[hB.block _ (by simp only[iI];omega)];exact heap_alloc2_new _ _ _
 have aL:w1.cell? ⟨w.heap.size,0,none⟩=some (.int .i64 au):=jI _ _ _ _ _ _ G;have aM:w1.cell? ⟨w.heap.size,1,none⟩=some (.int .u32 id):=jI _ _ _ _ _ _ G;have aN:w1.cell? ⟨w.heap.size,2,none⟩=some (.int .u32 nh):=jI _ _ _ _ _ _ G;have aO:w1.cell? ⟨w.heap.size,3,none⟩=some (.slice ao n cap):=jI _ _ _ _ _ _ G;have aP:w1.cell? ⟨w.heap.size+1,0,none⟩=some (.int .i64 0):=jI _ _ _ _ _ _ I;have aQ:w1.cell? ⟨w.heap.size+1,1,none⟩=some (.int .i64 0):=jI _ _ _ _ _ _ I;have aR:w1.frozen? ⟨w.heap.size+1,0,none⟩=false:=jL _ _ _ _ _ I;have aS:w1.frozen? ⟨w.heap.size+1,1,none⟩=false:=jL _ _ _ _ _ I;clear hB;rcases Sg (au:=au) (id:=id) (n:=n) (P:=P)with⟨E,h2⟩|E
 ·have aB:=Sf E;rw[E,h2];have Hf:Hid (_):=aB;have H1:Hid (_):=E;have H2:Hid (_):=h2;clear E h2 aB;have h8:n≤8:=by have:=Hf.out.1;simp[rS]at this;omega
  have Hr:Hid (∀i<n,(P i).ni≤8∧(P i).ne≤8):=by
   intro i f;have:=Hf.out.2 i f;simp[mY,vq]at this;omega
  have aa:w.heap.size<w1.heap.size:=by omega
  go_upto_region 5 with fail
  have eW:∃W,W=(w1.alloc (.cells #[.int .i64 0,.int .i64 0] 50)).alloc (.cells #[.int .i64 0,.slice none 0 0] 91):=⟨_,rfl⟩;obtain⟨W,eW⟩:=eW;have bd:W.heap.size=w1.heap.size+2:=by rw[eW];simp
  have J:Below w.heap.size w W:=by rw[eW];exact(aA.alloc (by omega) _).alloc (by simp only[iI];omega) _
  have hold:∀b,b<w1.heap.size→W.heap[b]?=w1.heap[b]?:=fun b hb=>by
   rw[eW,heap_alloc_old _ _ (by simp only[iI];omega),heap_alloc_old _ _ hb]
  have es:W.heap[w1.heap.size+1]?=some (.cells #[.int .i64 0,.slice none 0 0] 91 (0,0)):=by
   have:=iN (w1.alloc (.cells #[.int .i64 0,.int .i64 0] 50)) (.cells #[.int .i64 0,.slice none 0 0] 91);rw[eW];simpa using this
  have e0:=(hold _ (by omega)).trans G;have e1:=(hold _ (by omega)).trans I;have x0:=jV e0 0;have x1:=jV e0 1;have x2:=jV e0 2;have x3:=jV e0 3;simp at x0 x1 x2 x3;have aC:Hid (_):=e0;have aD:Hid (_):=e1;have aE:Hid (_):=es;rw[←eW];clear eW hold e0 e1 es aL aM aN aO aP aQ aR aS G I;have ab:=fun(R:Option Addr) (d:Nat) N=>Go.Proofs.YtjnkcibpkkjniaaGreat.Sm au id nh R n d N
  go_wp2_with fail
  refine(RV _ _ _ _ _ _ P _ (ot.cell H.out J) h8 Hr.out).mono ?_;rintro e w2 ⟨R,d,rfl,x,S⟩;have aT:=ab R d;have be:=x.size;have F:∃g B t,(0<n→n≤d∧W.heap.size≤g∧g<B∧R=some ⟨g,0,none⟩∧mZ w2 g B n t∧W.heap.size≤B)∧∃pz,Fo w2 g B n P t pz:=by
   by_cases z:0<n
   ·obtain⟨q1,g,B,t,q2,q3,q4,q5,q6⟩:=S z;exact⟨g,B,t,fun _=>⟨q1,q2,q3,q4,q6,by omega⟩,Si q5 q6⟩
   ·exact⟨0,0,fun _=>0,fun h=>absurd h z,fun _=>⟨0,0,0,0,0,none,0,0,none,0,0⟩,⟨fun i f=>absurd (ix (eI _) f) z,fun i f=>absurd (ix (eI _) f) z,fun i f=>absurd (ix (eI _) f) z⟩⟩
  obtain⟨g,B,t,F,pz,aF⟩:=F;have ai:Hid (_):=F;have ap:Hid (Fo w2 g B n P t pz):=aF;have bf:Hid (_):=x;have aU:Hid (w2.heap[w.heap.size]?=_):=(x.block _ (by omega)).trans aC.out;have aV:Hid (w2.heap[w.heap.size+1]?=_):=(x.block _ (by omega)).trans aD.out;have aW:Hid (w2.heap[w1.heap.size+1]?=_):=(x.block _ (by omega)).trans aE.out;have aX:Hid (Below w.heap.size w w2):=J.trans (x.mono (by omega));clear F aF x S x0 x1 x2 x3 aC aD aE J
  go_wp2_with fail
  refine wp_loop (NI w w2 (w1.heap.size+1) g n d au id pz R) (fun a _=>Fp n a) ⟨rfl,rfl,rfl,rfl,rfl,rfl,rfl,0,rfl,eI _,iD _ _,fun _ _ _=>rfl,_,aW.out,iR _ _ _ _,o7.nil _ _ _,fun _=>rfl⟩ ?_;intro a wr hI;obtain⟨kG,hsz,f1,f3,f5,f18,f19,k,f20,hk,U,A,sv,ae,l,af,aa⟩:=hI;obtain⟨tm,df⟩:=a;simp only at kG hsz f1 f3 f5 f18 f19 f20;subst kG;obtain⟨q0,q1,q2,q3,q4,q5,q6,q7,q8,q9,bg,bh,bi,bj,bk,bl,bm,bn,bo,bp,bq,br,bs,bt,bu,bv,bw,bx,bz,bA,bB,bC,bD,bE,bF,bG,bH,bI,bJ,bK,bL,bM,rfl⟩:=Fl hsz;simp only[fR,gx,fS,dR]at f1 f3 f5 f18 f19 f20;subst f1 f3 f5 f18 f19 f20
  by_cases L:k<n
  ·have aG:decide ((k:Int)<(n:Int))=true:=by simpa using L
   have aY:(0:Int)≤(k:Int):=by omega
   have aZ:(k:Int)<(n:Int):=by omega
   obtain⟨aH,a0,a1,a2,hL,J⟩:=ai.out (by omega);subst a2;have a3:g<w2.heap.size:=ju _ _ ((ap.out.at_ k L).2.2 0 _ rfl);have m:∀j u,(pz k).cells.toList[j]?=some u→wr.cell? ⟨g,k*7+j,none⟩=some u:=fun j u hu=>(jx (a:=⟨g,k*7+j,none⟩) (A g a3 (by omega))).trans ((ap.out.at_ k L).2.2 j u hu)
   have c0:wr.cell? ⟨g,k*7,none⟩=some (.int .i64 (pz k).au):=m 0 _ rfl;have c1:=m 1 _ rfl;have c2:=m 2 _ rfl;have c3:=m 3 _ rfl;have c4:=m 4 _ rfl;have c5:=m 5 _ rfl;have c6:=m 6 _ rfl;have V:=iX l;have aI:sv.ownBlock≠some (w1.heap.size+1):=fun e=>by have:=(V _ e).1;omega
   have X:Hid (_):=l;have aq:Hid (o7 Pl wr sv (k*14)):=af;have aj:Hid (_):=V;have ar:Hid (_):=U;have av:Hid (_):=A;have ag:Hid (_):=ae;have a4:Hid (wr.heap[w.heap.size]?=_):=(A w.heap.size (by omega) (by omega)).trans aU.out;have a5:Hid (_):=aI;have bN:w2.heap.size≤wr.heap.size:=U.size;clear l af V U A ae aI m aa hL J aT
   go_wp2_with fail
   have g3:=jl wr (.cells #[.int .i64 (pz k).au,.int .i64 (pz k).hold,.int .i64 (pz k).nF,.int .i64 (pz k).nG,.int .i64 (pz k).wait,.slice (pz k).ia (pz k).il (pz k).ic,.slice (pz k).ea (pz k).el (pz k).ec] 69);have gk:∀b,b<wr.heap.size→(wr.alloc (.cells #[.int .i64 (pz k).au,.int .i64 (pz k).hold,.int .i64 (pz k).nF,.int .i64 (pz k).nG,.int .i64 (pz k).wait,.slice (pz k).ia (pz k).il (pz k).ic,.slice (pz k).ea (pz k).el (pz k).ec] 69)).heap[b]?=wr.heap[b]?:=fun b hb=>Go.heap_alloc_old _ _ hb
   have a6:(wr.alloc (.cells #[.int .i64 (pz k).au,.int .i64 (pz k).hold,.int .i64 (pz k).nF,.int .i64 (pz k).nG,.int .i64 (pz k).wait,.slice (pz k).ia (pz k).il (pz k).ic,.slice (pz k).ea (pz k).el (pz k).ec] 69)).heap.size=wr.heap.size+1:=by simp
   have aJ:Hid (Below wr.heap.size wr (wr.alloc (.cells #[.int .i64 (pz k).au,.int .i64 (pz k).hold,.int .i64 (pz k).nF,.int .i64 (pz k).nG,.int .i64 (pz k).wait,.slice (pz k).ia (pz k).il (pz k).ic,.slice (pz k).ea (pz k).el (pz k).ec] 69))):=(iD _ _).alloc (dx _) _;clear c0 c1 c2 c3 c4 c5 c6;generalize(wr.alloc (.cells #[.int .i64 (pz k).au,.int .i64 (pz k).hold,.int .i64 (pz k).nF,.int .i64 (pz k).nG,.int .i64 (pz k).wait,.slice (pz k).ia (pz k).il (pz k).ic,.slice (pz k).ea (pz k).el (pz k).ec] 69))=w3 at g3 gk a6 aJ ⊢;have ak:w1.heap.size+1<wr.heap.size:=by omega
   have b2:=(gk _ ak).trans ag.out;have b0:=(gk w.heap.size (by omega)).trans a4.out;have s1:=jV b2 1;have m1:=kK b2 1;have c0:=jV b0 0;have c1:=jV b0 1;have d0:=jV g3 0;have d1:=jV g3 1;have d2:=jV g3 2;have d3:=jV g3 3;have d4:=jV g3 4;have d5:=jV g3 5;have d6:=jV g3 6;simp at s1 c0 c1 d0 d1 d2 d3 d4 d5 d6;have aw:∀j,sv.ownBlock=some j→w3.heap[j]?=wr.heap[j]?:=fun j hj=>gk j (aj.out j hj).2
   have Y:=lL X.out aw;have al:=aq.out.keep aw;refine uC (D:=[]) (ops:=pB) (val:=mi (w1.heap.size+1) w.heap.size w2.heap.size w3.heap.size au id (pz k) k (qD au id (fun i=>pb (pz i)) k) sv) (ia:=12) (mem:=A3) (fix:=[(1,.pointer (some ⟨w.heap.size,0,none⟩)),(3,.pointer (some ⟨w.heap.size+1,0,none⟩)),(5,.pointer (some ⟨w1.heap.size+1,0,none⟩)),(7,.pointer (some ⟨wr.heap.size,0,none⟩)),(18,.slice (some ⟨g,0,none⟩) n d),(19,.int .i64 (n:Int)),(20,.int .i64 (k:Int))]) (T:=42) (A0:=fun N=>Below w3.heap.size w3 N) (Rel:=fun N=>w3.grownBy N sv.ownBlock) (n:=15) (Post:=fun _ w'=>∃O v',w3.grownBy O sv.ownBlock∧O.ownsRow w2.heap.size 100 14 v' (k+1) (qD au id (fun i=>pb (pz i)) k++(j5 au id (pz k) 0 0 0 0 (.slice none 0 0)).toList)∧o7 Pl O v' ((k+1)*14)∧(v'.ownBlock=sv.ownBlock∨∃j,v'.ownBlock=some j∧w3.heap.size≤j)∧w'=O.setCell ⟨w1.heap.size+1,1,none⟩ v') (by kernel_rfl) R8 RZ R6 (by decide) R9 R7 (fun a b hB h=>h.trans (hB.mono h.size)) (fun a b hB h=>Sk h hB)
    (fun i o a N f r ho c s hA _ K hK=>Sa (by omega) (by omega) (by omega) s1 c0 c1 d0 d1 d2 d3 d4 d5 d6 i o a N f r ho (c (1,.pointer (some ⟨w.heap.size,0,none⟩)) (by simp)) (c (5,.pointer (some ⟨w1.heap.size+1,0,none⟩)) (by simp)) (c (7,.pointer (some ⟨wr.heap.size,0,none⟩)) (by simp)) s hA K hK)
    (fun o a N ho c s hA hR K hK=>Sb (by omega) (by omega) Y al o a N ho s hA hR (by omega) K hK)
    (fun o a N ho c s hR K hK=>Sd (by omega) a5.out s1 m1 o a N ho s hR K hK)
    (fun a N kG hsz c hP=>?_) rfl rfl ?_ ⟨⟨rfl,rfl,rfl,dx _,fun _ _=>rfl⟩,⟨rfl,rfl,rfl,dx _,fun _ _ _=>rfl⟩⟩
   rotate_left
   ·intro y hy;simp at hy;rcases hy with rfl|rfl|rfl|rfl|rfl|rfl|rfl<;>rfl
   obtain⟨O,v',M,ax,aK,a7,rfl⟩:=hP;have f1:a.tmps[1]?=some (.pointer (some ⟨w.heap.size,0,none⟩)):=c (1,.pointer (some ⟨w.heap.size,0,none⟩)) (by simp);have f3:a.tmps[3]?=some (.pointer (some ⟨w.heap.size+1,0,none⟩)):=c (3,.pointer (some ⟨w.heap.size+1,0,none⟩)) (by simp);have f5:a.tmps[5]?=some (.pointer (some ⟨w1.heap.size+1,0,none⟩)):=c (5,.pointer (some ⟨w1.heap.size+1,0,none⟩)) (by simp);have f18:a.tmps[18]?=some (.slice (some ⟨g,0,none⟩) n d):=c (18,.slice (some ⟨g,0,none⟩) n d) (by simp);have f19:a.tmps[19]?=some (.int .i64 (n:Int)):=c (19,.int .i64 (n:Int)) (by simp);have f20:a.tmps[20]?=some (.int .i64 (k:Int)):=c (20,.int .i64 (k:Int)) (by simp);have r:∀b,b<wr.heap.size→b<w2.heap.size→O.heap[b]?=wr.heap[b]?:=fun b hb bO=>(M.block b (by omega) (fun e=>by have:=(aj.out b e.symm).1;omega)).trans (gk b hb)
   have ay:=iX ax;have am:Below (w1.heap.size+1) w2 (O.setCell ⟨w1.heap.size+1,1,none⟩ v')∧(∀b,b<w2.heap.size→b≠w1.heap.size+1→(O.setCell ⟨w1.heap.size+1,1,none⟩ v').heap[b]?=w2.heap[b]?)∧∃sv,(O.setCell ⟨w1.heap.size+1,1,none⟩ v').heap[w1.heap.size+1]?=some (.cells #[.int .i64 0,sv] 91 (0,0))∧(O.setCell ⟨w1.heap.size+1,1,none⟩ v').ownsRow w2.heap.size 100 14 sv (k+1) (qD au id (fun i=>pb (pz i)) (k+1))∧o7 Pl (O.setCell ⟨w1.heap.size+1,1,none⟩ v') sv ((k+1)*14)∧(k+1=0→sv=.slice none 0 0):=by
    refine⟨?_,fun b hb z=>?_,v',?_,?_,?_,fun h=>absurd h (by omega)⟩
    ·refine iL (p:=⟨w1.heap.size+1,1,none⟩) ?_ (show w1.heap.size+1≤w1.heap.size+1 from dx _) v';have E:=ar.out;have h2:=aJ.out;refine⟨(M.os.trans h2.os).trans E.os,(M.tape.trans h2.tape).trans E.tape,(M.output.trans h2.output).trans E.output,dz E.size (dz h2.size M.size),fun b hb=>?_⟩;exact(r b (by omega) (by omega)).trans (E.block b hb)
    ·exact(kn (dE z) 1 _).trans ((r b (by omega) hb).trans (av.out b hb z))
    ·rw[lj ((r _ ak (by omega)).trans ag.out)];rfl
    ·exact lL ax fun j hj=>kn (by have:=(ay j hj).1;omega) 1 _
    ·exact aK.keep fun j hj=>kn (by have:=(ay j hj).1;omega) 1 _
   have an:Hid _:=am;clear am M ax aK a7 r ay Y al aw b0 b2 s1 m1 c0 c1 d0 d1 d2 d3 d4 d5 d6 g3 gk c;generalize(O.setCell ⟨w1.heap.size+1,1,none⟩ v')=wq at an ⊢;obtain⟨tm,df⟩:=a;simp only at kG hsz f1 f3 f5 f18 f19 f20;subst kG;obtain⟨z0,z1,z2,z3,z4,z5,z6,z7,z8,z9,bP,bQ,bR,bS,bT,bU,bV,bW,bX,bY,bZ,b1,b3,b4,b5,b6,b7,b8,b9,ca,cc,cd,ce,cf,cg,ch,ci,cj,ck,cl,cm,cn,rfl⟩:=Fl hsz;simp only[fR,gx,fS,dR]at f1 f3 f5 f18 f19 f20;subst f1 f3 f5 f18 f19 f20;have co:IntKind.i64.wrap ((k:Int)+1)=((k+1:Nat):Int):=by
    rw[iw]<;>omega
   have HK:Hid (k+1≤n):=L;clear aG aY aZ L aH
   go_wp2_with fail
   obtain⟨r1,r2,r3⟩:=an.out;refine⟨⟨rfl,rfl,rfl,rfl,rfl,rfl,rfl,k+1,rfl,HK.out,r1,r2,r3⟩,?_⟩;simp only[Fp,fR,gx,fS];have:=HK.out;omega
  ·have aG:decide ((k:Int)<(n:Int))=false:=by simpa using L
   obtain rfl:k=n:=by omega
   have e1:=(A (w.heap.size+1) (by omega) (by omega)).trans aV.out;have y0:=jV e1 0;have y1:=jV e1 1;have z0:=kK e1 0;have z1:=kK e1 1;simp at y0 y1;have X:Hid (_):=l;have aq:Hid (o7 Pl wr sv (k*14)):=af;have ag:Hid (_):=ae;have ar:Hid (Below w.heap.size w wr):=aX.out.trans (U.mono (by omega));have av:Hid (_):=A;have a8:Hid (_):=aa;have az:Hid (∀b,b≠w.heap.size+1→((wr.setCell ⟨w.heap.size+1,0,none⟩ (.int .i64 0)).setCell ⟨w.heap.size+1,1,none⟩ (.int .i64 0)).heap[b]?=wr.heap[b]?):=fun b hb=>by
    rw[kn hb.symm 1 _,kn hb.symm 0 _]
   clear l af ae U A aa e1
   go_wp2_with fail
   refine iZ (v:=.tuple #[.pointer (some ⟨w1.heap.size+1,0,none⟩),.agg #[.int .i64 0,.int .i64 0]]) (by simp[results,Tryz.results20,go_sem, *]<;>rfl) rfl ⟨some _,by rw[H1.out,H2.out],iL (iL ar.out (by simp) _) (by simp) _,.inr ⟨H1.out,H2.out,_,sv,rfl,by omega,(az.out _ (by omega)).trans ag.out,?_⟩⟩
   by_cases z:k=0
   ·exact .inl ⟨z,a8.out z⟩
   ·have z:0<k:=by omega
    obtain⟨xb,xc,Z,rfl,cp,⟨C,hC,a9⟩,hZ⟩:=Fi X.out aq.out z;obtain⟨_,a0,a1,_,hL,J⟩:=ai.out z;have hP:=ap.out;have bc:=hL.top;have ah:∀i,i<k→∀b,pK (pz i) b→W.heap.size≤b∧b<w2.heap.size∧t (2*i)≤b∧b<t (2*i+2)∧lO w2 b∧(t (2*i)≤b∧b<t (2*i+1)∨t (2*i+1)≤b∧b<t (2*i+2)):=by
     intro i f b hb;have l0:=hL.le (i:=0) (j:=2*i) (by omega) (by omega);have l1:=hL.step (2*i) (by omega);have l2:t (2*i+1)≤t (2*i+2):=hL.step (2*i+1) (by omega);have l3:=hL.le (i:=2*i+2) (j:=2*k) (by omega) (by omega);have l4:=hL.low;rcases hb with⟨ad,e,rfl⟩|⟨ad,e,rfl⟩
     ·obtain⟨m1,m2,m3⟩:=hP.im i f ad e;exact⟨by omega,by omega,by omega,by omega,m3,.inl ⟨m1,m2⟩⟩
     ·obtain⟨m1,m2,m3⟩:=hP.ex i f ad e;exact⟨by omega,by omega,by omega,by omega,m3,.inr ⟨m1,m2⟩⟩
    have hM:nR ((wr.setCell ⟨w.heap.size+1,0,none⟩ (.int .i64 0)).setCell ⟨w.heap.size+1,1,none⟩ (.int .i64 0)) xb k Z au id (fun i=>pb (pz i)):=by
     refine Fj ⟨C,(az.out xb (by omega)).trans hC,a9⟩ hZ (fun i f b hb=>?_) (fun i i' f ba r b hb bb=>?_)
     ·obtain⟨m1,m2,_,_,m5,_⟩:=ah i f b hb;exact⟨by omega,m5.keep ((az.out b (by omega)).trans (av.out b (by omega) (by omega)))⟩
     ·obtain⟨_,_,m3,m4,_,_⟩:=ah i f b hb;obtain⟨_,_,r3,r4,_,_⟩:=ah i' ba b bb;rcases Nat.lt_or_gt_of_ne r with h|h
      ·have:=hL.le (i:=2*i+2) (j:=2*i') (by omega) (by omega);omega
      ·have:=hL.le (i:=2*i'+2) (j:=2*i) (by omega) (by omega);omega
    exact .inr ⟨xb,xc,Z,pz,z,rfl,by omega,by omega,hM,fun i f=>⟨(hP.at_ i f).1,(hP.at_ i f).2.1⟩,fun i f b hb=>by
     have:=(ah i f b hb).1;exact⟨by omega,by omega⟩⟩
 ·rw[E];obtain⟨q,hq⟩:∃q,(mR au id n P).2=q:=⟨_,rfl⟩;rw[hq];have H1:Hid (_):=E;have H2:Hid (_):=hq;clear E hq
  go_wp2_with fail
  go_region
  all_goals go_wp2_with fail
  all_goals exact iZ (v:=.tuple #[.pointer none,.agg #[.int .i64 1,.int .i64 q]]) (by simp[results,Tryz.results20,go_sem, *]) rfl ⟨none,by rw[H1.out,H2.out],by
   repeat(first|exact aA|refine iG ?_|refine iL ?_ (by first|omega|(simp only[];omega)|simp) _|refine iH ?_ (by first|omega|(simp only[iJ];omega)|simp) _),.inl ⟨by rw[H1.out];decide,rfl⟩⟩
end
end Go.Proofs.YtjnkcibpkkjniaaGreat
