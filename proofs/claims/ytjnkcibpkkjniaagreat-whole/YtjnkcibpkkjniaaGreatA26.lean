import Derived.Test.YtjnkcibpkkjniaaGreatA00
import Derived.Test.YtjnkcibpkkjniaaGreatA25
set_option linter.all false
set_option maxHeartbeats 2000000
set_option maxRecDepth 20000
namespace Go.Proofs.YtjnkcibpkkjniaaGreat
section
open Go Go.RowKit
open Go.Proofs.YtjnkcibpkkjniaaGreat.kj (kH lf uC rP)
def qZ (pe k:Int) (s:List Int):List Value:=[.int .i64 pe,.int .i64 k,.string (strOfNums s)]
def mz (nb n ob pk:Nat) (k:Int) (s:List Int) (B0 S0 c:Nat) (xs:List Value) (mv:Value):Nat→Value→World→Prop
 |0,v,_=>v=.slice (some ⟨nb,0,none⟩) n n
 |1,v,_=>v=.pointer (some ⟨ob,0,none⟩)
 |2,v,_=>v=.int .i64 (pk:Int)
 |3,v,_=>v=.slice (some ⟨nb,0,none⟩) n n
 |4,v,_=>v=.pointer (some ⟨ob,0,none⟩)
 |5,v,_=>v=.int .i64 (pk:Int)
 |6,v,_=>v=.pointer (some ⟨nb,pk,none⟩)
 |7,v,_=>v=mv
 |8,v,_=>v=.agg #[.int .i64 (pk:Int),.int .i64 k,.string (strOfNums s)]
 |9,v,w=>∃bb,v=.slice (some ⟨bb,0,none⟩) 1 1∧S0≤bb∧w.heap[bb]?=some (.cells #[.int .i64 (pk:Int),.int .i64 k,.string (strOfNums s)] 43 (0,0))
 |10,v,w=>w.ownsRow B0 43 3 v (c+1) (xs++qZ pk k s)∧kS Pl w v∧(v.ownBlock=mv.ownBlock∨∃j,v.ownBlock=some j∧S0≤j)
 |11,v,_=>v=.pointer (some ⟨nb,pk,none⟩)
 |_,_,_=>True
theorem Qh{nb n ob pk:Nat}{k:Int}{s:List Int}{B0 g c:Nat}{xs:List Value}{mv:Value}(w w':World)(j:Nat)(u:Value)(hB:Below w.heap.size w w')(h:mz nb n ob pk k s B0 g c xs mv j u w):mz nb n ob pk k s B0 g c xs mv j u w':=by
 unfold mz at h ⊢;split at h
 iterate 9 exact h
 ·obtain⟨bb,a,e,d⟩:=h;exact⟨bb,a,e,(hB.block _ (dp.1 d).1).trans d⟩
 ·obtain⟨a,e,d⟩:=h;exact⟨lL a fun k f=>hB.block k (iX a k f).2,e.keep fun k f=>hB.block k (iX a k f).2,d⟩
 ·exact h
 ·trivial
noncomputable def pJ:Array Oper:=((Tryz.f36.body).bind (opsOf 6)).getD #[]
def AH (i:Nat):Bool:=i == 7 || i == 8 || i == 9
theorem Qi:lf pJ=true:=by kernel_rfl
theorem Qj:pJ.size=13:=by kernel_rfl
theorem Qk:rP pJ 10 AH=true:=by kernel_rfl
section
variable {Q:Exit→Act→World→Prop} {nb n ob pk:Nat} {k:Int} {s:List Int} {B0 c:Nat} {xs:List Value} {mv:Value} {wr:World}
theorem Ql(y:nb<wr.heap.size)(z:ob<wr.heap.size)(F:pk<n)(m0:wr.cell? ⟨nb,pk,none⟩=some mv)(hI:pI wr ob 0 (pk:Int) k s)(B:mv.ownBlock≠some ob)(i:Nat)(o:Oper)(a:Act)(w:World)(R:i<12)(G:i≠10)(C:pJ[i]?=some o)(f5:a.tmps[5]?=some (.slice (some ⟨nb,0,none⟩) n n))(f7:a.tmps[7]?=some (.pointer (some ⟨ob,0,none⟩)))(f:∀(j:Nat)(o':Oper)(d:Nat),pJ[j]?=some o'→o'.dst=some d→(∃e∈o.after,e.on=j∧Region.binds .any e=true)→∃v,a.tmps[d]?=some v∧mz nb n ob pk k s B0 wr.heap.size c xs mv j v w)(E:AH i=true→Below wr.heap.size wr w)(H:wr.grownBy w mv.ownBlock)(K:Act→World→Prop)(h:∀v w',mz nb n ob pk k s B0 wr.heap.size c xs mv i v w'→Below w.heap.size w w'→K (a.put o.dst v) w'):o.wp Tryz.prog a w K Q:=by
 obtain⟨I,J,L⟩:=hI.keep (H.block ob z fun e=>B e.symm);simp only[dB]at I J L;have M:(pk:Int)<(n:Int):=by omega
 have N:(0:Int)≤(pk:Int):=by omega
 clear hI;obtain rfl|rfl|rfl|rfl|rfl|rfl|rfl|rfl|rfl|rfl|rfl:i=0∨i=1∨i=2∨i=3∨i=4∨i=5∨i=6∨i=7∨i=8∨i=9∨i=11:=by omega
 all_goals
  simp only[pJ,Tryz.f36,opsOf,dW]at C;simp[]at C;subst C
 ·unfold Oper.wp execOp;simp only[Act.eval,du,f5,ez];go_simp;exact h _ _ rfl (iD _ _)
 ·unfold Oper.wp execOp;simp only[Act.eval,du,f7,ez];go_simp;exact h _ _ rfl (iD _ _)
 ·obtain⟨t,m,g⟩:=f 1 _ _ rfl rfl ⟨⟨1,.data⟩,by simp,rfl,rfl⟩;simp only[mz]at g
  try subst g
  unfold Oper.wp execOp;simp only[Act.eval,du,m,ez];go_simp;exact h _ _ rfl (iD _ _)
 ·unfold Oper.wp execOp;simp only[Act.eval,du,f5,ez];go_simp;exact h _ _ rfl (iD _ _)
 ·unfold Oper.wp execOp;simp only[Act.eval,du,f7,ez];go_simp;exact h _ _ rfl (iD _ _)
 ·obtain⟨t,m,g⟩:=f 4 _ _ rfl rfl ⟨⟨4,.data⟩,by simp,rfl,rfl⟩;simp only[mz]at g
  try subst g
  unfold Oper.wp execOp;simp only[Act.eval,du,m,ez];go_simp;exact h _ _ rfl (iD _ _)
 ·obtain⟨t,m,g⟩:=f 3 _ _ rfl rfl ⟨⟨3,.data⟩,by simp,rfl,rfl⟩;simp only[mz]at g
  try subst g
  obtain⟨O,D,u⟩:=f 5 _ _ rfl rfl ⟨⟨5,.data⟩,by simp,rfl,rfl⟩;simp only[mz]at u
  try subst u
  unfold Oper.wp execOp;simp only[Act.eval,du,m,D,ez];go_simp;exact h _ _ (by simp[mz]) (iD _ _)
 ·obtain⟨t,m,g⟩:=f 6 _ _ rfl rfl ⟨⟨6,.data⟩,by simp,rfl,rfl⟩;simp only[mz]at g
  try subst g
  have T:=((E rfl).cell (p:=⟨nb,pk,none⟩) y).trans m0;unfold Oper.wp execOp;simp only[Act.eval,du,m,ez];go_simp;exact h _ _ rfl (iD _ _)
 ·unfold Oper.wp execOp;simp only[Act.eval,du,f7,ez];go_simp;exact h _ _ rfl (iD _ _)
 ·obtain⟨t,m,g⟩:=f 8 _ _ rfl rfl ⟨⟨8,.data⟩,by simp,rfl,rfl⟩;simp only[mz]at g
  try subst g
  have hB:=E rfl;unfold Oper.wp execOp;simp only[Act.eval,du];go_simp;exact h _ _ ⟨w.heap.size,rfl,hB.size,iN w _⟩ ((iD _ _).alloc (dx _) _)
 ·obtain⟨t,m,g⟩:=f 0 _ _ rfl rfl ⟨⟨0,.data⟩,by simp,rfl,rfl⟩;simp only[mz]at g
  try subst g
  obtain⟨O,D,u⟩:=f 2 _ _ rfl rfl ⟨⟨2,.data⟩,by simp,rfl,rfl⟩;simp only[mz]at u
  try subst u
  unfold Oper.wp execOp;simp only[Act.eval,du,m,D,ez];go_simp;exact h _ _ (by simp[mz]) (iD _ _)
theorem Qm(G:B0≤wr.heap.size)(hc:c≤1152921504606846)(g:wr.ownsRow B0 43 3 mv c xs)(X:kS Pl wr mv)(o:Oper)(a:Act)(w:World)(H:pJ[10]?=some o)(m:∀(j:Nat)(o':Oper)(d:Nat),pJ[j]?=some o'→o'.dst=some d→(∃e∈o.after,e.on=j∧Region.binds .any e=true)→∃v,a.tmps[d]?=some v∧mz nb n ob pk k s B0 wr.heap.size c xs mv j v w)(I:Below wr.heap.size wr w)(y:wr.grownBy w mv.ownBlock)(f:(c+1)*32≤140737488355328)(K:Act→World→Prop)(Y:∀v w',mz nb n ob pk k s B0 wr.heap.size c xs mv 10 v w'→(∀j u,j≠10→mz nb n ob pk k s B0 wr.heap.size c xs mv j u w→mz nb n ob pk k s B0 wr.heap.size c xs mv j u w')→wr.grownBy w' mv.ownBlock→K (a.put o.dst v) w'):o.wp Tryz.prog a w K Q:=by
 simp only[pJ,Tryz.f36,opsOf,dW]at H;simp[]at H;subst H;obtain⟨F,Z,R⟩:=m 7 _ _ rfl rfl ⟨⟨7,.data⟩,by simp,rfl,rfl⟩;simp only[mz]at R;subst R;obtain⟨u1,h1,T⟩:=m 9 _ _ rfl rfl ⟨⟨9,.data⟩,by simp,rfl,rfl⟩;simp only[mz]at T;obtain⟨bb,rfl,aa,z⟩:=T;obtain⟨i0,z0,B,J⟩:=Ep;have C:=iX g;have U:∀j,F.ownBlock=some j→w.heap[j]?=wr.heap[j]?:=fun j L=>I.block j (C j L).2
 have t:w.ownsRow B0 43 3 F c xs:=lL g U;have M:∀(j:Nat)(u:Value),(qZ pk k s)[j]?=some u→w.cell? ((⟨bb,0,none⟩:Addr).add j)=some u:=fun j u hu=>by
  have e:(⟨bb,0,none⟩:Addr).add j=⟨bb,j,none⟩:=by unfold Addr.add;split<;>simp_all
  rw[e];exact(jV z j).trans (by simpa[qZ]using hu)
 obtain⟨v',w',D,r1,r2,r3,r4⟩:=Eo (P:=Tryz.prog) (w:=w) Pl B0 44 44 43 i0 z0 3 32 Tryz.underlying44 B.info B.zero B.size B.bytes B.cells (by decide) F c xs t ⟨bb,0,none⟩ 1 1 (qZ pk k s) rfl M (by intro u hu;simp[qZ]at hu;rcases hu with rfl|rfl|rfl<;>rfl) (by unfold maxLen;omega) f (dz G I.size) J (by intro u hu;simp[qZ]at hu;rcases hu with rfl|rfl|rfl;exact Pl.int _ _;exact Pl.int _ _;exact Pl.string _) (X.keep U);have N:a.eval (.tmp 31)=F:=by simp[Act.eval,du,Z]
 have O:a.eval (.tmp 33)=.slice (some ⟨bb,0,none⟩) 1 1:=by simp[Act.eval,du,h1]
 have hsz:=I.size;unfold Oper.wp;simp[execOp,resolve,invoke,builtin,N,O,D,Result.andThen];refine Y _ _ ⟨r1,r3,r4.imp id fun e=>⟨_,e,hsz⟩⟩ (fun j u L h=>?_) ⟨r2.os.trans y.os,r2.tape.trans y.tape,r2.output.trans y.output,dz y.size r2.size,fun i V hr=>(r2.block i (dA V y.size) hr).trans (y.block i V hr)⟩;unfold mz at h ⊢;split at h
 iterate 9 exact h
 ·obtain⟨E,e1,e2,W⟩:=h;exact⟨E,e1,e2,(r2.block _ (dp.1 W).1 fun e=>by have:=(C E e.symm).2;omega).trans W⟩
 ·exact absurd rfl L
 ·exact h
 ·trivial
theorem Qn(t:nb<wr.heap.size)(u:mv.ownBlock≠some nb)(m0:wr.cell? ⟨nb,pk,none⟩=some mv)(D:wr.frozen? ⟨nb,pk,none⟩=false)(o:Oper)(a:Act)(w:World)(y:pJ[12]?=some o)(g:∀(j:Nat)(o':Oper)(d:Nat),pJ[j]?=some o'→o'.dst=some d→(∃e∈o.after,e.on=j∧Region.binds .any e=true)→∃v,a.tmps[d]?=some v∧mz nb n ob pk k s B0 wr.heap.size c xs mv j v w)(z:wr.grownBy w mv.ownBlock)(K:Act→World→Prop)(E:∀v w',(∃m f,wr.grownBy m mv.ownBlock∧m.ownsRow B0 43 3 f (c+1) (xs++qZ pk k s)∧kS Pl m f∧(f.ownBlock=mv.ownBlock∨∃j,f.ownBlock=some j∧wr.heap.size≤j)∧w'=m.setCell ⟨nb,pk,none⟩ f)→K (a.put o.dst v) w'):o.wp Tryz.prog a w K Q:=by
 have hb:=z.block nb t (fun e=>u e.symm);have I:=(jx (a:=⟨nb,pk,none⟩) hb).trans m0;have J:=(World.frozen?_of_block (a:=⟨nb,pk,none⟩) hb).trans D;simp only[pJ,Tryz.f36,opsOf,dW]at y;simp[]at y;subst y;obtain⟨L,F,B⟩:=g 11 _ _ rfl rfl ⟨⟨11,.data⟩,by simp,rfl,rfl⟩;simp only[mz]at B;subst B;obtain⟨M,G,C⟩:=g 10 _ _ rfl rfl ⟨⟨10,.data⟩,by simp,rfl,rfl⟩;simp only[mz]at C;obtain⟨h,H,hw⟩:=C;obtain⟨ao,cp,rfl,_⟩:=p6 h;unfold Oper.wp execOp;simp only[Act.eval,du,F,G,ez];go_simp;exact E undef _ ⟨w,_,z,h,H,hw,rfl⟩
end
end
section
open Go Go.RowKit
theorem Er(w:World)(sp:Nat)(a:Option Addr)(l c:Nat)(g:w.cell? ⟨sp,1,none⟩=some (.slice a l c))(pe:Int):Calls Tryz.prog 37 #[.pointer (some ⟨sp,0,none⟩),.int .i64 pe] w fun e w'=>e=.returned (.bool (decide (0≤pe∧pe<(l:Int))))∧w'=w:=by
 by_cases d:0≤pe
 ·have d0:decide (0≤pe)=true:=by simpa using d
  by_cases f:pe<(l:Int)
  ·have d1:decide (pe<(l:Int))=true:=by simpa using f
   have e:decide (0≤pe∧pe<(l:Int))=true:=by simp[d,f]
   rw[e];clear e;go_enter Tryz.func37,Tryz.ntmps37
   go_wp2
   all_goals go_ret
   all_goals exact⟨rfl,rfl⟩
  ·have d1:decide (pe<(l:Int))=false:=by simpa using f
   have e:decide (0≤pe∧pe<(l:Int))=false:=by simp;omega
   rw[e];clear e;go_enter Tryz.func37,Tryz.ntmps37
   go_wp2
   all_goals go_ret
   all_goals exact⟨rfl,rfl⟩
 ·have d0:decide (0≤pe)=false:=by simpa using d
  have e:decide (0≤pe∧pe<(l:Int))=false:=by simp;omega
  rw[e];clear e;go_enter Tryz.func37,Tryz.ntmps37
  go_wp2
  all_goals go_ret
  all_goals exact⟨rfl,rfl⟩
theorem Es(w:World)(sp xb l c:Nat)(i:Nat)(st:Int)(d:w.cell? ⟨sp,1,none⟩=some (.slice (some ⟨xb,0,none⟩) l c))(t:i<l)(h:w.cell? ⟨xb,i*14+9,none⟩=some (.int .i64 st)):Calls Tryz.prog 18 #[.pointer (some ⟨sp,0,none⟩),.int .i64 (i:Int)] w fun e w'=>e=.returned (.int .i64 st)∧w'=w:=by
 have a:(i:Int)<(l:Int):=by omega
 have f:(0:Int)≤(i:Int):=by omega
 have g:¬((l:Int)≤(i:Int)):=by omega
 have hd:decide ((0:Int)≤(i:Int)∧(i:Int)<(l:Int))=true:=by simp[a]
 have m:Hid (Calls Tryz.prog 37 #[.pointer (some ⟨sp,0,none⟩),.int .i64 (i:Int)] w fun e w'=>e=.returned (.bool true)∧w'=w):=by
  have:=Er w sp _ l c d (i:Int);rw[hd]at this;exact this
 have o:Hid (Calls Tryz.prog 38 #[.pointer (some ⟨xb,i*14,none⟩)] w fun e w'=>e=.returned (.int .i64 st)∧w'=w):=P6 w xb (i*14) st h;clear hd;go_enter Tryz.func18,Tryz.ntmps18
 go_wp2_with (first
  |(go_at_call 37;go_loud (refine m.out.mono ?_);go_loud (rintro e w1 ⟨rfl,rfl⟩))
  |(go_at_call 38;go_loud (refine o.out.mono ?_);go_loud (rintro e w1 ⟨rfl,rfl⟩)))
 go_ret;exact⟨rfl,rfl⟩
end
section
open Go Go.RowKit
open Go.Proofs.YtjnkcibpkkjniaaGreat.kj (kH lf nO)
variable {w:World} {base qB tb sb:Nat} {now:Int} {cl ov:Bool} {S:Array Value}
theorem TS.AJ{sent:List Int}(h:TS w base tb sb now (.slice none 0 0) [] cl ov S)(hb:base≤qB)(a:qB≤w.heap.size):TS w qB tb sb now (.slice none 0 0) [] cl ov S :=
 ⟨h.t,h.s,iR _ _ _ _,⟨by have:=h.lt;omega,by have:=h.lt;omega,a⟩,h.ne⟩
theorem TS.lower{sv:Value}{sent:List Int}(h:TS w qB tb sb now sv sent cl ov S)(hb:base≤qB)(a:tb<base)(d:sb<base):TS w base tb sb now sv sent cl ov S :=
 ⟨h.t,h.s,Ao h.own hb,⟨a,d,by have:=h.lt;omega⟩,h.ne⟩
theorem Et{C:Array Value}(h:C.size=27):∃c0 c1 c2 c3 c4 H I J K L a d e kJ f g m o t u y z B D E F G,C=#[c0,c1,c2,c3,c4,H,I,J,K,L,a,d,e,kJ,f,g,m,o,t,u,y,z,B,D,E,F,G]:=by
 obtain⟨l⟩:=C
 match l,h with
 |c0::c1::c2::c3::c4::H::I::J::K::L::a::d::e::kJ::f::g::m::o::t::u::y::z::B::D::E::F::G::[],_=>exact⟨_,_,_,_,_,_,_,_,_,_,_,_,_,_,_,_,_,_,_,_,_,_,_,_,_,_,_,rfl⟩
end
section
open Go Go.RowKit
open Go.Proofs.YtjnkcibpkkjniaaGreat.kj (kH lf wK)
variable {q:Option Nat}
variable {Q:Exit→Act→World→Prop} {tb ib io n cp j:Nat} {pe kd:Int} {s:List Int} {w0:World}
theorem Qo{bx:Nat}(I:j<n)(m:bx<w0.heap.size)(t:ib<w0.heap.size)(B:w0.cell? ⟨bx,0,none⟩=some (.pointer (some ⟨tb,0,none⟩)))(hI:pI w0 ib (io+3*j) pe kd s)(i:Nat)(o:Oper)(a:Act)(w:World)(J:i<5)(u:rQ[i]?=some o)(f1:a.tmps[1]?=some (.slice (some ⟨ib,io,none⟩) n cp))(f2:a.tmps[2]?=some (.pointer (some ⟨bx,0,none⟩)))(f4:a.tmps[4]?=some (.int .i64 (j:Int)))(f:∀(y:Nat)(o':Oper)(d:Nat),rQ[y]?=some o'→o'.dst=some d→(∃e∈o.after,e.on=y∧Region.binds .any e=true)→∃v,a.tmps[d]?=some v∧qe tb ib io n cp pe kd s j y v w)(C:Below w0.heap.size w0 w)(K:Act→World→Prop)(g:∀v w',qe tb ib io n cp pe kd s j i v w'→Below w.heap.size w w'→K (a.put o.dst v) w'):o.wp Tryz.prog a w K Q:=by
 have L:=(C.cell (p:=⟨bx,0,none⟩) m).trans B;obtain⟨M,N,O⟩:=hI.keep (C.block ib t);have E:(j:Int)<(n:Int):=by omega
 have F:(0:Int)≤(j:Int):=by omega
 clear B hI;obtain rfl|rfl|rfl|rfl|rfl:i=0∨i=1∨i=2∨i=3∨i=4:=by omega
 all_goals
  simp only[rQ,Tryz.f79,opsOf,dW]at u;simp[]at u;subst u
 ·unfold Oper.wp execOp;simp only[Act.eval,du,f2,ez];go_simp;exact g _ _ rfl (iD _ _)
 ·unfold Oper.wp execOp;simp only[Act.eval,du,f1,ez];go_simp;exact g _ _ rfl (iD _ _)
 ·unfold Oper.wp execOp;simp only[Act.eval,du,f4,ez];go_simp;exact g _ _ rfl (iD _ _)
 ·obtain⟨G,z,h⟩:=f 1 _ _ rfl rfl ⟨⟨1,.data⟩,by simp,rfl,rfl⟩;simp only[qe]at h
  try subst h
  obtain⟨R,H,D⟩:=f 2 _ _ rfl rfl ⟨⟨2,.data⟩,by simp,rfl,rfl⟩;simp only[qe]at D
  try subst D
  unfold Oper.wp execOp;simp only[Act.eval,du,z,H,ez];go_simp;exact g _ _ (by simp[qe];try omega) (iD _ _)
 ·obtain⟨G,z,h⟩:=f 3 _ _ rfl rfl ⟨⟨3,.data⟩,by simp,rfl,rfl⟩;simp only[qe]at h
  try subst h
  unfold Oper.wp execOp;simp only[Act.eval,du,z,ez];go_simp;exact g _ _ rfl (iD _ _)
theorem Qp{D:List Deferred}{P0:World→Prop}{P1:List PanicEntry→World→Prop}(z:Hid (∀w,Below w0.heap.size w0 w→Calls Tryz.prog 119 #[.pointer (some ⟨tb,0,none⟩),.agg #[.int .i64 pe,.int .i64 kd,.string (strOfNums s)]] w fun e w'=>((∃v,e=.returned v)∧P0 w')∨(∃ch,e=.panicked ch∧P1 ch w')))(B:∀(a:Act)(w:World)(ch:List PanicEntry),a.defers=D→P1 ch w→Q (.panic ch) a w)(o:Oper)(a:Act)(w:World)(hd:Hid (a.defers=D))(g:rQ[5]?=some o)(f:∀(h:Nat)(o':Oper)(d:Nat),rQ[h]?=some o'→o'.dst=some d→(∃e∈o.after,e.on=h∧Region.binds .any e=true)→∃v,a.tmps[d]?=some v∧qe tb ib io n cp pe kd s j h v w)(C:Below w0.heap.size w0 w)(K:Act→World→Prop)(E:∀v w',P0 w'→K (a.put o.dst v) w'):o.wp Tryz.prog a w K Q:=by
 simp only[rQ,Tryz.f79,opsOf,dW]at g;simp[]at g;subst g;obtain⟨F,G,u⟩:=f 0 _ _ rfl rfl ⟨⟨0,.data⟩,by simp,rfl,rfl⟩;simp only[qe]at u
 try subst u
 obtain⟨H,I,y⟩:=f 4 _ _ rfl rfl ⟨⟨4,.data⟩,by simp,rfl,rfl⟩;simp only[qe]at y
 try subst y
 unfold Oper.wp execOp;simp only[];go_simp;refine(z.out w C).mono ?_;rintro e w1 (⟨⟨v,rfl⟩,m⟩|⟨ch,rfl,t⟩)
 ·exact E v w1 m
 ·exact B _ _ _ hd.out t
end
section
open Go Go.RowKit
variable {q:Option Nat}
def qf (A hd au id now:Int) (s:SV) (ins:List kC):TR :=
 if pq s.st s.hold s.heard now then .over true (j9 3 [4,0])
 else if oY s.st s.hold s.spoke now then runM A hd au id now { s with spoke:=now } (j9 4 []) ins
 else runM A hd au id now s [] ins
theorem Qq(A hd au id now:Int)(s:SV)(ins:List kC):p9 A hd au id now s ins=oF (qf A hd au id now s ins):=by
 unfold p9 qf;split
 ·rfl
 ·split<;>rfl
def tB (q:Option Nat) (w:World) (base tb sb:Nat) (now au id:Int) (p:Pz) (r:TR) (w':World):Prop :=
 kh q base tb sb w w'∧match r with
  | .go s sent=>∃sv pv,lQ q w' base tb sb now sv sent false false au id p s pv∧(s.st=0→pv=.slice none 0 0)
  | .over cl sent=>∃sv,TS w' base tb sb now sv sent cl true (j5 au id p 0 0 0 0 (.slice none 0 0))
  | .bad _ _=>False
def vp (q:Option Nat) (w:World) (base tb sb:Nat) (now au id:Int) (p:Pz) (r:TR) (ch:List PanicEntry) (w':World):Prop :=
 kh q base tb sb w w'∧match r with
  | .bad t sent=>ch=[{ v:=t.val,recovered:=false }]∧∃sv s pv,lQ q w' base tb sb now sv sent false false au id p s pv
  |_=>False
variable {w w':World} {base tb sb:Nat} {now au id:Int} {p:Pz} {r:TR}
theorem TQ.split{e:Ending}(h:TQ q w base tb sb now au id p r e w'):((∃v,e=.returned v)∧tB q w base tb sb now au id p r w')∨(∃ch,e=.panicked ch∧vp q w base tb sb now au id p r ch w'):=by
 obtain⟨d,a⟩:=h
 cases r with
 |go s sent=>exact .inl ⟨a.1,d,a.2⟩
 |over cl sent=>exact .inl ⟨a.1,d,a.2⟩
 |bad t sent=>exact .inr ⟨_,a.1,d,rfl,a.2⟩
variable {w0:World}
theorem tB.from(h:tB q w base tb sb now au id p r w')(a:kh q base tb sb w0 w):tB q w0 base tb sb now au id p r w':=⟨a.trans h.1,h.2⟩
theorem vp.from{ch:List PanicEntry}(h:vp q w base tb sb now au id p r ch w')(a:kh q base tb sb w0 w):vp q w0 base tb sb now au id p r ch w':=⟨a.trans h.1,h.2⟩
variable {sv:Value} {sent:List Int} {cl ov:Bool}
theorem ko.idle(h:TS w base tb sb now sv sent cl ov (j5 au id p 0 0 0 0 (.slice none 0 0))):lQ q w base tb sb now sv sent cl ov au id p nH (.slice none 0 0):=by
 refine⟨h,by simp[j5],iR _ _ _ _,fun k a=>(by cases a),kS.nil _ _,fun k a=>(by cases a)⟩
theorem ko.old{sv':Value}{sent':List Int}{cl' ov':Bool}{S S':Array Value}{pv:Value}{xs:List Int}(h:ko q w base tb sb now sv sent cl ov S pv xs)(e:∀k,pv.ownBlock=some k→k<base)(f:TS w' base tb sb now sv' sent' cl' ov' S')(g:Rest base tb sb w w')(d:S'[13]?=some pv):ko q w' base tb sb now sv' sent' cl' ov' S' pv xs:=by
 have a:∀k,pv.ownBlock=some k→w'.heap[k]?=w.heap[k]?:=fun k a=>g.heap k (e k a) (h.ne k a).2.1 (h.ne k a).2.2
 refine⟨f,d,lL h.own a,fun k m o=>?_,h.pl.keep a,h.wh⟩;have:=(iX f.own k o).1;have:=e k m;omega
theorem ko.AJ{w:World}{base qB tb sb:Nat}{now:Int}{cl ov:Bool}{S:Array Value}{pv:Value}{xs:List Int}(h:ko q w base tb sb now (.slice none 0 0) [] cl ov S pv xs)(d:∀k,pv.ownBlock=some k→q=some k)(hb:base≤qB)(e:qB≤w.heap.size):ko q w qB tb sb now (.slice none 0 0) [] cl ov S pv xs :=
 ⟨h.ts.AJ (sent:=[]) hb e,h.kJ,h.own,h.mf,h.pl,fun k a=>.inr ⟨d k a,(h.ne k a).2⟩⟩
theorem ko.lower{w:World}{base qB tb sb:Nat}{now:Int}{sv:Value}{sent:List Int}{cl ov:Bool}{S:Array Value}{pv:Value}{xs:List Int}(h:ko q w qB tb sb now sv sent cl ov S pv xs)(hb:base≤qB)(a:tb<base)(d:sb<base):ko q w base tb sb now sv sent cl ov S pv xs :=
 ⟨h.ts.lower hb a d,h.kJ,h.own,h.mf,h.pl,fun k f=>(h.wh k f).imp (fun e=>by omega) fun e=>e⟩
def pt (q:Option Nat) (base tb sb:Nat) (now au id:Int) (p:Pz) (ins:List kC) (r:TR) (wr:World):Prop :=
 (∃s sent sv pv,lQ q wr base tb sb now sv sent false false au id p s pv∧lV s∧sA s sent∧(s.st=0→pv=.slice none 0 0)∧runM p.au p.hold au id now s sent ins=r) ∨
 (∃cl sent sv,r=.over cl sent∧TS wr base tb sb now sv sent cl true (j5 au id p 0 0 0 0 (.slice none 0 0)))
def WQ (q:Option Nat) (w:World) (base tb sb:Nat) (now au id:Int) (p:Pz) (r:TR) (w':World):Prop :=
 kh q base tb sb w w'∧∃sv pv ov,lQ q w' base tb sb now sv (oF r).2.1 (oF r).2.2 ov au id p (oF r).1 pv∧((oF r).1.st=0→pv=.slice none 0 0)
theorem pt.step{x:kC}{xs:List kC}{s:SV}(h:tB q w base tb sb now au id p (ly p.au p.hold au id now s sent x.k x.d) w')(hr:runM p.au p.hold au id now s sent (x::xs)=r)(o:lV s)(f:sA s sent)(g:0≤p.hold∧p.hold≤65535)(u:kO now)(hb:Bytes x.d):pt q base tb sb now au id p xs r w':=by
 obtain⟨k1,k2,z⟩:=ym (A:=p.au) (hd:=p.hold) (au:=au) (id:=id) (k:=x.k) o f g u hb;have a:=h.2;unfold runM at hr;rcases e:ly p.au p.hold au id now s sent x.k x.d with⟨s',sent'⟩|⟨cl,sent'⟩|⟨t,sent'⟩
 ·rw[e]at a hr;obtain⟨sv,pv,m,y⟩:=a;obtain⟨b1,b2⟩:=k1 _ _ e;exact .inl ⟨s',sent',sv,pv,m,b1,b2,y,hr⟩
 ·rw[e]at a hr;obtain⟨sv,m⟩:=a;exact .inr ⟨cl,sent',sv,hr.symm,m⟩
 ·rw[e]at a;exact a.elim
theorem pt.done(h:pt q base tb sb now au id p [] r w')(d:kh q base tb sb w w'):WQ q w base tb sb now au id p r w':=by
 rcases h with⟨s,sent,sv,pv,a,g,m,f,e⟩|⟨cl,sent,sv,rfl,a⟩
 ·simp only[runM]at e;subst e;exact⟨d,sv,pv,false,a,f⟩
 ·exact⟨d,sv,_,true,ko.idle a,fun _=>rfl⟩
theorem pt.over{base tb sb:Nat}{now au id:Int}{p:Pz}{cl:Bool}{sent:List Int}{sv:Value}{w w':World}(a:TS w' base tb sb now sv sent cl true (j5 au id p 0 0 0 0 (.slice none 0 0)))(d:kh q base tb sb w w'):WQ q w base tb sb now au id p (.over cl sent) w' :=
 ⟨d,sv,_,true,ko.idle a,fun _=>rfl⟩
section
variable {w:World} {base tb sb:Nat} {now:Int} {au id:Int} {p:Pz} {s:SV} {pv:Value}
theorem Eu(h:lQ q w base tb sb now (.slice none 0 0) [] false false au id p s pv)(a:lV s)(u:s.st=0→pv=.slice none 0 0)(y:∀k,pv.ownBlock=some k→k<base)(t:kO now)(ins:List kC):Calls Tryz.prog 118 #[.pointer (some ⟨tb,0,none⟩)] w fun e w'=>(∃v,e=.returned v)∧Rest base tb sb w w'∧pt q base tb sb now au id p ins (qf p.au p.hold au id now s ins) w':=by
 obtain⟨pa,pl,pc,rfl⟩:=h.slice
 cases hb:pq s.st s.hold s.heard now
 ·have g:0≤s.hold∧s.hold≤100000:=by have:=a.hold;omega
  cases d:oY s.st s.hold s.spoke now
  ·refine(OO h.ts t a.heard a.spoke g hb d).mono ?_;rintro e w' ⟨m,o,f⟩;refine⟨m,f,.inl ⟨s,[],_,_,ko.old h y o f (by simp[j5]),a,⟨fun _=>rfl,fun _=>by simp,by simp⟩,u,?_⟩⟩;simp[qf,hb,d]
  ·refine(ON h.ts t a.heard a.spoke g hb d (by simp)).mono ?_;rintro e w' ⟨m,sv',o,f⟩;have z:s.st=2∨s.st=3:=by
    unfold oY at d;simp at d;exact d.1
   refine⟨m,f,.inl ⟨{ s with spoke:=now },j9 4 [],sv',_,ko.old h y o f (by simp[j5]),⟨a.part,a.st,fun e=>?_,a.hold,a.heard,t⟩,⟨fun e=>?_,fun e=>?_,?_⟩,fun e=>?_,?_⟩⟩
   ·simp at e;omega
   ·simp at e;omega
   ·simp at e;omega
   ·simp[rM]
   ·simp at e;omega
   ·simp[qf,hb,d]
 ·refine(OM h.ts t a.heard hb (by simp)).mono ?_;rintro e w' ⟨m,sv',o,f⟩;refine⟨m,f,.inr ⟨true,j9 3 [4,0],sv',?_,o⟩⟩;simp[qf,hb]
end
end
section
open Go Go.RowKit
open Go.Proofs.YtjnkcibpkkjniaaGreat.kj (kH lf wK)
variable {q:Option Nat}
def pw (w:World) (ib io:Nat) (ins:List kC):Prop:=∀j x,ins[j]?=some x→pI w ib (io+3*j) x.pe x.k x.d
theorem pw.keep{w w':World}{ib io:Nat}{ins:List kC}(h:pw w ib io ins)(e:w'.heap[ib]?=w.heap[ib]?):pw w' ib io ins:=fun j x hx=>(h j x hx).keep e
def Qr (q:Option Nat) (w1:World) (base tb sb:Nat) (now au id:Int) (p:Pz) (D:List Deferred) (ib io cp bx:Nat) (ins:List kC) (r:TR) (a:Act) (wr:World):Prop :=
 a.defers=D∧a.tmps.size=27∧a.tmps[1]?=some (.slice (some ⟨ib,io,none⟩) ins.length cp)∧a.tmps[2]?=some (.pointer (some ⟨bx,0,none⟩))∧kh q base tb sb w1 wr∧∃j:Nat,a.tmps[4]?=some (.int .i64 (j:Int))∧j≤ins.length∧pt q base tb sb now au id p (ins.drop j) r wr
def Ev (n:Nat) (a:Act):Nat:=match a.tmps[4]? with
 |some (Value.int _ j)=>((n:Int)-j).toNat
 |_=>0
theorem Qs{w:World}{base tb sb:Nat}{now:Int}{au id:Int}{p:Pz}{s:SV}{pv:Value}(h:lQ q w base tb sb now (.slice none 0 0) [] false false au id p s pv)(aj:lV s)(ak:s.st=0→pv=.slice none 0 0)(aa:∀k,pv.ownBlock=some k→q=some k)(ab:∀k,q=some k→k<base)(hn:kO now)(hid:0≤id)(al:0≤p.hold∧p.hold≤65535){ib io cp:Nat}{ins:List kC}(hlen:ins.length≤1152921504606846976)(hb:∀x∈ins,Bytes x.d∧x.d.length≤1152921504606846976)(am:ib<base∧ib≠tb∧ib≠sb∧q≠some ib)(an:pw w ib io ins):Calls Tryz.prog 79 #[.pointer (some ⟨tb,0,none⟩),.slice (some ⟨ib,io,none⟩) ins.length cp] w fun e w'=>(∃v,e=.returned v)∧WQ q w base tb sb now au id p (qf p.au p.hold au id now s ins) w':=by
 have a7:∀(fn:Fn)(first cap:Array Value)(w:World),(Instr.makeFunc fn first cap).run Tryz.prog w=.ok (.func fn first cap) w:=fun _ _ _ _=>rfl
 have ad:=h.ts.lt;have HB:Below w.heap.size w (w.alloc (.cells #[.pointer (some ⟨tb,0,none⟩)] 169)):=(iD _ _).alloc (dx _) _;have H0:Hid (lQ q (w.alloc (.cells #[.pointer (some ⟨tb,0,none⟩)] 169)) (w.heap.size+1) tb sb now (.slice none 0 0) [] false false au id p s pv):=ko.AJ (ko.below h HB) aa (by omega) (by simp);have HW:Hid (Calls Tryz.prog 118 #[.pointer (some ⟨tb,0,none⟩)] (w.alloc (.cells #[.pointer (some ⟨tb,0,none⟩)] 169)) fun e w'=>(∃v,e=.returned v)∧Rest (w.heap.size+1) tb sb (w.alloc (.cells #[.pointer (some ⟨tb,0,none⟩)] 169)) w'∧pt q (w.heap.size+1) tb sb now au id p ins (qf p.au p.hold au id now s ins) w') :=
  Eu H0.out aj ak (fun k hk=>by have:=ab k (aa k hk);omega) hn ins
 have ao:(w.alloc (.cells #[.pointer (some ⟨tb,0,none⟩)] 169)).heap[w.heap.size]?=some (.cells #[.pointer (some ⟨tb,0,none⟩)] 169 (0,0)):=jl w _;have O:(w.alloc (.cells #[.pointer (some ⟨tb,0,none⟩)] 169)).heap[ib]?=w.heap[ib]?:=HB.block ib (by omega);have R0:Hid (kh q base tb sb w (w.alloc (.cells #[.pointer (some ⟨tb,0,none⟩)] 169))):=kh.below HB ad.2.2;have aD:Hid (∀w' s' sent sv ae x,lQ q w' (w.heap.size+1) tb sb now sv sent false false au id p s' ae→lV s'→(s'.st=0→ae=.slice none 0 0)→sA s' sent→x∈ins→Calls Tryz.prog 119 #[.pointer (some ⟨tb,0,none⟩),.agg #[.int .i64 x.pe,.int .i64 x.k,.string (strOfNums x.d)]] w' fun e af=>TQ q w' (w.heap.size+1) tb sb now au id p (ly p.au p.hold au id now s' sent x.k x.d) e af) :=
  fun w' s' sent sv ae x R U h3 h4 hx=>PO R U h3 h4 hid (hb x hx).1 (hb x hx).2 x.pe x.k
 have HI:Hid (pw w ib io ins):=an;have Hb:Hid (∀x∈ins,Bytes x.d∧x.d.length≤1152921504606846976):=hb;have ap:Hid (0≤p.hold∧p.hold≤65535):=al;have Hn:Hid (kO now):=hn;have HL:Hid (ins.length≤1152921504606846976):=hlen;have z:Hid (ib<base∧ib≠tb∧ib≠sb∧q≠some ib):=am;have m:Hid (tb<base∧sb<base∧base≤w.heap.size):=ad;have V:∀k,k<w.heap.size+1→base≤k→q≠some k:=fun k R U e=>by have:=ab k e;omega
 have aq:Hid (∀k,k<w.heap.size+1→base≤k→q≠some k):=V;generalize qf p.au p.hold au id now s ins=r at HW ⊢;clear h aj ak aa ab hn hid al hlen hb am an HB ad V
 go_enter_defers Tryz.func79,Tryz.ntmps79
 go_wp2_with (go_at_call 118;go_loud (refine HW.out.mono ?_);go_loud (rintro e w1 ⟨⟨v1,rfl⟩,J,ar⟩))
 have g1:=(J.heap w.heap.size (by omega) (by have:=m.out;omega) (by have:=m.out;omega)).trans ao;have g2:=(J.heap ib (by have:=m.out;have:=z.out.1;omega) z.out.2.1 z.out.2.2.1).trans O;have Hx:Hid (w1.heap[w.heap.size]?=some (.cells #[.pointer (some ⟨tb,0,none⟩)] 169 (0,0))):=g1;have aE:Hid (pw w1 ib io ins):=HI.out.keep g2;have R1:Hid (kh q base tb sb w w1):=R0.out.trans (J.wide.lower (by have:=m.out;omega));have aF:Hid (pt q (w.heap.size+1) tb sb now au id p ins r w1):=ar;clear g1 g2 J ar HW R0 H0 ao O HI;refine wp_loop (Qr q w1 (w.heap.size+1) tb sb now au id p _ ib io cp w.heap.size ins r) (fun a _=>Ev ins.length a) ⟨rfl,rfl,rfl,rfl,kh.refl _ _ _ _ _,0,rfl,eI _,aF.out⟩ ?_;intro a wr hI;obtain⟨kG,hsz,f1,f2,L,j,f4,hj,C⟩:=hI;obtain⟨tm,df⟩:=a;simp only at kG hsz f1 f2 f4;subst kG;obtain⟨k0,k1,k2,k3,k4,k5,k6,k7,k8,k9,aG,aH,aI,aJ,aK,aL,aM,aN,aO,aP,aQ,aR,aS,aT,aU,aV,aW,rfl⟩:=Et hsz;simp only[fR,gx,fS,dR]at f1 f2 f4;subst f1 f2 f4;have W:wr.heap[w.heap.size]?=some (.cells #[.pointer (some ⟨tb,0,none⟩)] 169 (0,0)):=(L.heap w.heap.size (by omega) (by have:=m.out;omega) (by have:=m.out;omega) (aq.out _ (by omega) (by have:=m.out;omega))).trans Hx.out;have x0:=jV W 0;simp at x0;have av:Hid (kh q (w.heap.size+1) tb sb w1 wr):=L;have M:Hid (kh q base tb sb w wr):=R1.out.trans (L.lower (by have:=m.out;omega));clear L
 by_cases N:j<ins.length
 ·have aX:decide ((j:Int)<(ins.length:Int))=true:=by simpa using N
  rcases C with⟨s1,g,B,G,hS,X,Y,Z,u⟩|⟨cl,g,B,hr,hT⟩
  ·obtain⟨⟨c0,c1,c2,c3,c4⟩,z2,z3,z4⟩:=hS.ts.facts;have HS:Hid (lQ q wr (w.heap.size+1) tb sb now B g false false au id p s1 G):=hS;have ag:Hid (lV s1):=X;have ah:Hid (sA s1 g):=Y;have aY:Hid (s1.st=0→G=.slice none 0 0):=Z;have aw:Hid (runM p.au p.hold au id now s1 g (ins.drop j)=r):=u;have E:Hid (j<ins.length):=N;clear hS X Y Z u N hj
   go_wp2_with fail
   obtain⟨x,hx⟩:∃x,ins[j]?=some x:=⟨ins[j]'E.out,jf E.out⟩;have ai:x∈ins:=gn hx;have aZ:ins.drop j=x::ins.drop (j+1):=by
    obtain⟨R,U⟩:=je.1 hx;rw[←U];exact List.drop_eq_getElem_cons R
   have u:=aw.out;rw[aZ]at u;have ax:=HS.out.ts.lt;have a0:w.heap.size<wr.heap.size:=by omega
   have a1:ib<wr.heap.size:=by have:=m.out;have:=z.out.1;omega
   have ay:pI wr ib (io+3*j) x.pe x.k x.d:=(aE.out.keep (av.out.heap ib (by have:=m.out;have:=z.out.1;omega) z.out.2.1 z.out.2.2.1 z.out.2.2.2)) j x hx;have HG:Hid (∀wy,Below wr.heap.size wr wy→Calls Tryz.prog 119 #[.pointer (some ⟨tb,0,none⟩),.agg #[.int .i64 x.pe,.int .i64 x.k,.string (strOfNums x.d)]] wy fun e w'=>((∃v,e=.returned v)∧tB q wr (w.heap.size+1) tb sb now au id p (ly p.au p.hold au id now s1 g x.k x.d) w')∨(∃ch,e=.panicked ch∧vp q wr (w.heap.size+1) tb sb now au id p (ly p.au p.hold au id now s1 g x.k x.d) ch w')):=fun wy hB=>by
    refine(aD.out wy s1 g B G x (ko.below HS.out hB) ag.out aY.out ah.out ai).mono ?_;intro e w' hT;have hR:kh q (w.heap.size+1) tb sb wr wy:=kh.below hB ax.2.2;rcases hT.split with⟨hv,k⟩|⟨ch,he,k⟩
    ·exact .inl ⟨hv,k.from hR⟩
    ·exact .inr ⟨ch,he,k.from hR⟩
   clear c0 c1 c2 c3 c4 z2 z3 z4;refine wK (D:=_) (ops:=rQ) (val:=qe tb ib io ins.length cp x.pe x.k x.d j) (fix:=[(1,.slice (some ⟨ib,io,none⟩) ins.length cp),(2,.pointer (some ⟨w.heap.size,0,none⟩)),(4,.int .i64 (j:Int))]) (T:=27) (w0:=wr) (Post:=fun _ w'=>tB q wr (w.heap.size+1) tb sb now au id p (ly p.au p.hold au id now s1 g x.k x.d) w') (n:=5) (by kernel_rfl) Qe Qf Qg Qd
    (fun i o a wx _ hi ho y H hs K hK=>Qo E.out a0 a1 x0 ay i o a wx hi ho (y (1,.slice (some ⟨ib,io,none⟩) ins.length cp) (by simp)) (y (2,.pointer (some ⟨w.heap.size,0,none⟩)) (by simp)) (y (4,.int .i64 (j:Int)) (by simp)) H hs K hK)
    (fun o a wx hd ho y H hs K hK=>Qp (P1:=vp q wr (w.heap.size+1) tb sb now au id p (ly p.au p.hold au id now s1 g x.k x.d)) HG (fun a w2 ch hd a2=>?_) o a wx hd ho H hs K hK) (fun a wx kG hsz y hP=>?_) rfl rfl ?_ ?_
   rotate_left 2
   ·intro x hx;simp at hx;rcases hx with rfl|rfl|rfl<;>rfl
   ·exact⟨rfl,rfl,rfl,dx _,fun _ _=>rfl⟩
   ·show Leaves _ _ _ _ _ _ _;rw[hd];obtain⟨az,F⟩:=a2;rcases I:ly p.au p.hold au id now s1 g x.k x.d with⟨s',sent'⟩|⟨cl,sent'⟩|⟨t,sent'⟩
    ·rw[I]at F;exact F.elim
    ·rw[I]at F;exact F.elim
    rw[I]at F;obtain⟨rfl,a8,s2,a9,aA⟩:=F;obtain⟨ba,bb,bc,rfl⟩:=aA.slice;obtain⟨_,kb,_⟩:=ym (A:=p.au) (hd:=p.hold) (au:=au) (id:=id) (k:=x.k) ag.out ah.out ap.out Hn.out (Hb.out x ai).1;obtain⟨ht,bd⟩:=kb _ _ I;have hr:r=.bad t sent':=by rw[←u,runM,I]
    have aB:w2.cell? ⟨w.heap.size,0,none⟩=some (.pointer (some ⟨tb,0,none⟩)):=by
     have:=(az.heap w.heap.size (by omega) (by have:=m.out;omega) (by have:=m.out;omega) (aq.out _ (by omega) (by have:=m.out;omega))).trans W;have:=jV this 0;simpa using this
    refine leaves_cons (f:=116) (args:=#[.pointer (some ⟨w.heap.size,0,none⟩)]) (by simp) (by simp[go_sem]) ?_;refine(PS (bx:=w.heap.size) aA.ts aB t ht (by omega)).mono ?_;rintro e u' w3 ⟨rfl,rfl,a3,a4,a5⟩;show Leaves _ _ _ _ [] .returning w3;refine⟨.tuple #[],by simp[results,Tryz.results79,go_sem],⟨_,rfl⟩,?_⟩;rw[hr];exact⟨M.out.trans ((az.trans a5.wide).lower (by have:=m.out;omega)),a3,_,true,ko.idle (a4.lower (by have:=m.out;omega) m.out.1 m.out.2.1),fun _=>rfl⟩
   ·have f1:a.tmps[1]?=some (.slice (some ⟨ib,io,none⟩) ins.length cp):=y (1,.slice (some ⟨ib,io,none⟩) ins.length cp) (by simp);have f2:a.tmps[2]?=some (.pointer (some ⟨w.heap.size,0,none⟩)):=y (2,.pointer (some ⟨w.heap.size,0,none⟩)) (by simp);have f4:a.tmps[4]?=some (.int .i64 (j:Int)):=y (4,.int .i64 (j:Int)) (by simp);have HP:Hid (tB q wr (w.heap.size+1) tb sb now au id p (ly p.au p.hold au id now s1 g x.k x.d) wx):=hP;have be:IntKind.i64.wrap ((j:Int)+1)=((j+1:Nat):Int):=by
     have:=HL.out;have:=E.out;rw[iw]<;>omega
    clear HG ay x0 y hP;obtain⟨tm,df⟩:=a;simp only at kG hsz f1 f2 f4;subst kG;obtain⟨k0,k1,k2,k3,k4,k5,k6,k7,k8,k9,aG,aH,aI,aJ,aK,aL,aM,aN,aO,aP,aQ,aR,aS,aT,aU,aV,aW,rfl⟩:=Et hsz;simp only[fR,gx,fS,dR]at f1 f2 f4;subst f1 f2 f4
    go_wp2_with fail
    have a6:pt q (w.heap.size+1) tb sb now au id p (ins.drop (j+1)) r wx:=pt.step HP.out u ag.out ah.out ap.out Hn.out (Hb.out x ai).1;refine⟨⟨rfl,rfl,rfl,rfl,av.out.trans HP.out.1,j+1,rfl,E.out,a6⟩,?_⟩;simp only[Ev,fR,gx,fS];have:=E.out;omega
  ·have HT:Hid (TS wr (w.heap.size+1) tb sb now B g cl true (j5 au id p 0 0 0 0 (.slice none 0 0))):=hT;obtain⟨⟨c0,c1,c2,c3,c4⟩,z2,z3,z4⟩:=hT.facts;clear hT hj
   go_wp2_with fail
   refine leaves_cons (f:=116) (args:=#[.pointer (some ⟨w.heap.size,0,none⟩)]) (by simp) (by simp[go_sem]) ?_;refine(An ⟨w.heap.size,0,none⟩ _).mono ?_;rintro e u' af ⟨rfl,rfl,rfl⟩;refine⟨.tuple #[],by simp[results,Tryz.results79,go_sem],⟨_,rfl⟩,?_⟩;rw[hr];exact pt.over (HT.out.lower (by have:=m.out;omega) m.out.1 m.out.2.1) M.out
 ·have aX:decide ((j:Int)<(ins.length:Int))=false:=by simpa using N
  obtain rfl:j=ins.length:=by omega
  rw[List.drop_length]at C;have HM:Hid (WQ q w base tb sb now au id p r wr):=by
   have aC:base≤w.heap.size+1:=by have:=m.out;omega
   rcases C with⟨s1,g,B,G,R,U,h3,h4,h5⟩|⟨cl,g,B,R,U⟩
   ·exact pt.done (.inl ⟨s1,g,B,G,ko.lower R aC m.out.1 m.out.2.1,U,h3,h4,h5⟩) M.out
   ·exact pt.done (.inr ⟨cl,g,B,R,U.lower aC m.out.1 m.out.2.1⟩) M.out
  clear C hj
  go_wp2_with fail
  refine leaves_cons (f:=116) (args:=#[.pointer (some ⟨w.heap.size,0,none⟩)]) (by simp) (by simp[go_sem]) ?_;refine(An ⟨w.heap.size,0,none⟩ _).mono ?_;rintro e u' af ⟨rfl,rfl,rfl⟩;exact⟨.tuple #[],by simp[results,Tryz.results79,go_sem],⟨_,rfl⟩,HM.out⟩
end
section
open Go Go.RowKit
open Go.Proofs.YtjnkcibpkkjniaaGreat.kj (kH lf uC rP)
def kU (i:Nat) (ins:List kC):List kC:=ins.filter fun x=>decide (x.pe=(i:Int))
def px (l:List kC):List Value:=l.flatMap fun x=>qZ x.pe x.k x.d
theorem Qt(n:Nat)(g:n≤2147483647)(w:World):(Instr.makeSlice 47 (.int .i64 (n:Int)) (.int .i64 (n:Int))).run Tryz.prog w=.ok (.slice (some ⟨w.heap.size,0,none⟩) n n) (w.alloc (.cells (Array.replicate n (.slice none 0 0)) 44)):=by
 have f:((Tryz.prog.info? 44).map fun i=>(i.size,i.bytes))=some (1,24):=by kernel_rfl
 have a:((Tryz.prog.info? 44).bind (·.zero))=some (.slice none 0 0):=by kernel_rfl
 obtain⟨i,d,e⟩:=eg.1 f;rw[d]at a;simp only[eC,dW]at e a;have hb:i.bytes=24:=e.2;have:=run_make w 47 44 i (.slice none 0 0) Tryz.underlying47 d a .i64 .i64 n n (by omega) (Int.le_refl _) (by rw[hb];omega) (by omega);have hm:madeCells (Value.slice none 0 0).cells n=Array.replicate n (.slice none 0 0):=by
  apply Array.toList_inj.1;rw[show(Value.slice none 0 0).cells=#[.slice none 0 0] from rfl,toList_madeCells_one];simp
 rw[this,e.1,Nat.mul_one,Int.toNat_natCast,hm]
theorem Ew{C:Array Value}(h:C.size=38):∃c0 c1 c2 c3 c4 V W X Y Z a d e kJ f g m o t u y z B D E F G H I J K L M N O R T U,C=#[c0,c1,c2,c3,c4,V,W,X,Y,Z,a,d,e,kJ,f,g,m,o,t,u,y,z,B,D,E,F,G,H,I,J,K,L,M,N,O,R,T,U]:=by
 obtain⟨l⟩:=C
 match l,h with
 |c0::c1::c2::c3::c4::V::W::X::Y::Z::a::d::e::kJ::f::g::m::o::t::u::y::z::B::D::E::F::G::H::I::J::K::L::M::N::O::R::T::U::[],_=>exact⟨_,_,_,_,_,_,_,_,_,_,_,_,_,_,_,_,_,_,_,_,_,_,_,_,_,_,_,_,_,_,_,_,_,_,_,_,_,_,rfl⟩
theorem Qu:kH pJ [0,5,7,14,15,16] 38=true:=by kernel_rfl
structure Given (w wr:World) (n nb:Nat) (l:List kC):Prop where
 below:Below w.heap.size w wr
 new:w.heap.size≤nb
 rows:∃(ms:Array Value)(m:Nat→Value),wr.heap[nb]?=some (.cells ms 44 (0,0))∧ms.size=n∧(∀i,i<n→ms[i]?=some (m i))∧(∀i,i<n→wr.ownsRow (nb+1) 43 3 (m i) (kU i l).length (px (kU i l))∧kS Pl wr (m i))∧∀i i',i<n→i'<n→i≠i'→∀b,(m i).ownBlock=some b→(m i').ownBlock≠some b
theorem Given.keep{w wr a:World}{n nb:Nat}{l:List kC}(h:Given w wr n nb l)(hB:Below wr.heap.size wr a):Given w a n nb l:=by
 obtain⟨ms,m,e,f,g,o,t⟩:=h.rows;refine⟨h.below.trans (hB.mono h.below.size),h.new,ms,m,(hB.block nb (dp.1 e).1).trans e,f,g,fun i u=>?_,t⟩;obtain⟨k1,k2⟩:=o i u;exact⟨lL k1 fun k d=>hB.block k (iX k1 k d).2,k2.keep fun k d=>hB.block k (iX k1 k d).2⟩
variable {i:Nat} {l:List kC} {x:kC}
theorem Ex(h:x.pe≠(i:Int)):kU i (l++[x])=kU i l:=by simp[kU,h]
theorem Qv(h:x.pe=(i:Int)):kU i (l++[x])=kU i l++[x]:=by simp[kU,h]
theorem Qw(l:List kC)(x:kC):px (l++[x])=px l++qZ x.pe x.k x.d:=by simp[px]
theorem Given.give{w wr C:World}{n nb pk:Nat}(hB:Below w.heap.size w wr)(t:w.heap.size≤nb){ms:Array Value}{m:Nat→Value}(D:wr.heap[nb]?=some (.cells ms 44 (0,0)))(G:ms.size=n)(R:∀i,i<n→ms[i]?=some (m i))(I:∀i,i<n→wr.ownsRow (nb+1) 43 3 (m i) (kU i l).length (px (kU i l))∧kS Pl wr (m i))(J:∀i i',i<n→i'<n→i≠i'→∀b,(m i).ownBlock=some b→(m i').ownBlock≠some b)(y:pk<n)(hx:x.pe=(pk:Int)){a:Value}(K:wr.grownBy C (m pk).ownBlock)(N:C.ownsRow (nb+1) 43 3 a ((kU pk l).length+1) (px (kU pk l)++qZ pk x.k x.d))(T:kS Pl C a)(hw:a.ownBlock=(m pk).ownBlock∨∃j,a.ownBlock=some j∧wr.heap.size≤j):Given w (C.setCell ⟨nb,pk,none⟩ a) n nb (l++[x]):=by
 have E:nb<wr.heap.size:=(dp.1 D).1;have o:∀i,i<n→∀b,(m i).ownBlock=some b→nb<b∧b<wr.heap.size:=fun i f b hb=>iX (I i f).1 b hb
 have z:∀b,a.ownBlock=some b→nb<b:=fun b hb=>(iX N b hb).1
 have L:C.heap[nb]?=wr.heap[nb]?:=K.block nb E fun e=>by have:=(o pk y nb e.symm).1;omega
 have M:Below w.heap.size w C:=hB.grown K (Nat.le_of_lt (ix t E)) fun j H=>by have:=(o pk y j H).1;omega
 have B:∀i,i<n→i≠pk→∀b,(m i).ownBlock=some b→C.heap[b]?=wr.heap[b]?:=fun i f u b hb=>K.block b (o i f b hb).2 fun e=>J i pk f y u b hb e.symm
 refine⟨M.setCell t _,t,ms.setIfInBounds pk a,fun i=>if i=pk then a else m i,?_,by simp[G],fun i f=>?_,fun i f=>?_,fun i i' f F u b hb g=>?_⟩
 ·exact lj (L.trans D) pk a
 ·by_cases e:i=pk
  ·subst e;dsimp only;rw[dj rfl,ff (by omega)]
  ·dsimp only;rw[dk e,dI (dE e)];exact R i f
 ·by_cases e:i=pk
  ·subst e;simp only[dg];rw[Qv hx,Qw,hx,iF];exact⟨lL N fun b hb=>kn (by have:=z b hb;omega) _ _,T.keep fun b hb=>kn (by have:=z b hb;omega) _ _⟩
  ·dsimp only;rw[dk e,Ex (by rw[hx];omega)];exact⟨lL (I i f).1 fun b hb=>(kn (by have:=(o i f b hb).1;omega) _ _).trans (B i f e b hb),(I i f).2.keep fun b hb=>(kn (by have:=(o i f b hb).1;omega) _ _).trans (B i f e b hb)⟩
 ·dsimp only at hb g;have key:∀j,j<n→j≠pk→∀b,a.ownBlock=some b→(m j).ownBlock≠some b:=fun j H u b D G=>by
   rcases hw with e|⟨b',e,h⟩
   ·rw[e]at D;exact J pk j y H (dE u) b D G
   ·have U:b'=b:=by rw[e]at D;simpa using D
    have:=(o j H b G).2;omega
  by_cases e:i=pk
  ·rw[dj e]at hb;rw[dk (by omega)]at g;exact key i' F (by omega) b hb g
  ·rw[dk e]at hb
   by_cases O:i'=pk
   ·rw[dj O]at g;exact key i f e b g hb
   ·rw[dk O]at g;exact J i i' f F u b hb g
end
section
open Go Go.RowKit
def kN (ms:List (Int×List Int)):List Int:=ms.flatMap fun m=>j9 m.1 m.2
theorem wX(a b:List (Int×List Int)):kN (a++b)=kN a++kN b:=by simp[kN]
theorem yo(k:Int)(b:List Int):kN [(k,b)]=j9 k b:=by simp[kN]
def mK (ms:List (Int×List Int)):Prop:=∀m∈ms,m=(4,[])
theorem mK.nil:mK []:=fun m h=>by cases h
theorem mK.app{a b:List (Int×List Int)}(h:mK a)(k:mK b):mK (a++b):=fun m hm=>by
 rcases gQ.1 hm with hm|hm
 ·exact h m hm
 ·exact k m hm
theorem mK.one:mK [(4,[])]:=fun m h=>by simpa using h
variable {A hd now k:Int} {s:SV}
theorem Qx{s':SV}{b add:List Int}(h:lP A hd now s k b=.go s' add):∃ms,mK ms∧add=kN ms:=by
 unfold lP at h;split at h
 ·cases h
 ·split at h
  ·split at h
   ·cases h
   ·cases h;exact⟨[(4,[])],mK.one,(yo _ _).symm⟩
  ·split at h
   ·cases h;exact⟨[],mK.nil,rfl⟩
   ·split at h
    ·cases h
    ·cases h;exact⟨[],mK.nil,rfl⟩
def sB:FR→List Int
 | .go _ a=>a
 | .shut a=>a
 | .bad _ a=>a
theorem Qy:∀(n:Nat)(s:SV)(acc d:List Int),∃ms,mK ms∧sB (lD A hd now n s acc d)=acc++kN ms:=by
 intro n
 induction n with
 |zero=>intro s acc d;exact⟨[],mK.nil,by simp[lD,sB,kN]⟩
 |succ n h =>
  intro s acc d
  by_cases a:d=[]
  ·rw[a,wL];exact⟨[],mK.nil,by simp[sB,kN]⟩
  ·rcases f:nP s.part d with⟨t,ys⟩|⟨ys⟩|⟨k,b⟩
   ·rw[wM a f];exact⟨[],mK.nil,by simp[sB,kN]⟩
   ·rw[wN a f];exact h _ _ _
   ·rcases g:lP A hd now { s with part:=[] } k b with⟨s2,add⟩|⟨add⟩|⟨t,add⟩
    ·rw[wQ a f g];obtain⟨m,k1,rfl⟩:=Qx g;obtain⟨m2,k2,e⟩:=h s2 (acc++kN m) (d.drop (lN s.part d));exact⟨m++m2,k1.app k2,by rw[e,wX,iz]⟩
    ·rw[wP a f g];exact⟨[],mK.nil,by simp[sB,kN]⟩
    ·rw[wO a f g];exact⟨[],mK.nil,by simp[sB,kN]⟩
def sC (au id hd:Int):List Int:=4::(kB au++(kB hd++(nY id++[0])))
def qg (au id hd:Int) (b:Bool) (st:Int) (sent:List Int):Prop :=
 ∃ms,sent=kN ms∧((st=0∧ms=[]∧b=false)∨(st≠0∧b=true∧mK ms)∨(st≠0∧b=false∧∃rest,ms=(1,sC au id hd)::rest∧mK rest))
variable {au id st:Int} {b:Bool} {sent:List Int}
theorem qg.add{st':Int}(h:qg au id hd b st sent)(d:st≠0)(a:st'≠0){ms:List (Int×List Int)}(hm:mK ms):qg au id hd b st' (sent++kN ms):=by
 obtain⟨m0,rfl,⟨e,_⟩|⟨_,e,k⟩|⟨_,e,rest,rfl,k⟩⟩:=h
 ·exact absurd e d
 ·exact⟨m0++ms,(wX _ _).symm,.inr (.inl ⟨a,e,k.app hm⟩)⟩
 ·exact⟨(1,sC au id hd)::rest++ms,(wX _ _).symm,.inr (.inr ⟨a,e,rest++ms,by simp,k.app hm⟩)⟩
inductive Told (au id hd:Int) (b:Bool):SV×List Int×Bool→Prop
 |go {s:SV} {sent:List Int}:qg au id hd b s.st sent→Told au id hd b (s,sent,false)
 |over {st:Int} {cl:Bool} {sent:List Int}:qg au id hd b st sent→Told au id hd b (nH,sent,cl)
 |AK {st:Int} {sent:List Int} (t:lS):tA t→st≠0→qg au id hd b st sent→Told au id hd b (nH,sent++j9 3 (t.c::t.s::t.d),true)
theorem Qz{d:List Int}(h:qg au id hd b s.st sent):(∀s' sent',ly A hd au id now s sent k d=.go s' sent'→qg au id hd b s'.st sent')∧(∀cl sent',ly A hd au id now s sent k d=.over cl sent'→∃st,qg au id hd b st sent')∧(∀t sent',ly A hd au id now s sent k d=.bad t sent'→∃st,st≠0∧qg au id hd b st sent'):=by
 unfold ly
 by_cases k1:k=1
 ·simp only[k1,dg]
  by_cases a:s.st=0
  ·simp only[a,dg];refine⟨fun s' sent' e=>?_,fun cl sent' e=>(by simp at e),fun t sent' e=>(by simp at e)⟩;simp only[TR.go.injEq]at e;obtain⟨rfl,rfl⟩:=e;obtain⟨m0,rfl,⟨_,rfl,hb⟩|⟨e,_⟩|⟨e,_⟩⟩:=h
   ·exact⟨[(1,sC au id hd)],by rw[yo];simp[kN,wU,sC],.inr (.inr ⟨by simp,hb,[],rfl,mK.nil⟩)⟩
   ·exact absurd a e
   ·exact absurd a e
  ·simp only[a,dh];refine⟨fun s' sent' e=>?_,fun cl sent' e=>(by simp at e),fun t sent' e=>(by simp at e)⟩;simp only[TR.go.injEq]at e;obtain⟨rfl,rfl⟩:=e;exact h
 ·simp only[k1,dh]
  by_cases k2:k=2
  ·simp only[k2,dg]
   by_cases a:s.st=0
   ·simp only[a,dg];refine⟨fun s' sent' e=>?_,fun cl sent' e=>(by simp at e),fun t sent' e=>(by simp at e)⟩;simp only[TR.go.injEq]at e;obtain⟨rfl,rfl⟩:=e;exact h
   ·simp only[a,dh];obtain⟨ms,g,f⟩:=Qy (A:=A) (hd:=hd) (now:=now) d.length s [] d;rcases hm:lD A hd now d.length s [] d with⟨s',add⟩|⟨add⟩|⟨t,add⟩
    ·rw[hm]at f;simp only[sB,ig]at f;refine⟨fun s2 sent' e=>?_,fun cl sent' e=>(by simp at e),fun t sent' e=>(by simp at e)⟩;simp only[TR.go.injEq]at e;obtain⟨rfl,rfl⟩:=e;rw[f];exact h.add a (El _ _ _ _ _ _ a hm) g
    ·rw[hm]at f;simp only[sB,ig]at f;refine⟨fun s2 sent' e=>(by simp at e),fun cl sent' e=>?_,fun t sent' e=>(by simp at e)⟩;simp only[TR.over.injEq]at e;obtain⟨_,rfl⟩:=e;rw[f];exact⟨s.st,h.add a a g⟩
    ·rw[hm]at f;simp only[sB,ig]at f;refine⟨fun s2 sent' e=>(by simp at e),fun cl sent' e=>(by simp at e),fun t2 sent' e=>?_⟩;simp only[TR.bad.injEq]at e;obtain⟨_,rfl⟩:=e;rw[f];exact⟨s.st,a,h.add a a g⟩
  ·simp only[k2,dh]
   by_cases m:k=3
   ·simp only[m,dg];refine⟨fun s2 sent' e=>(by simp at e),fun cl sent' e=>?_,fun t2 sent' e=>(by simp at e)⟩;simp only[TR.over.injEq]at e;obtain⟨_,rfl⟩:=e;exact⟨s.st,h⟩
   ·simp only[m,dh];refine⟨fun s2 sent' e=>?_,fun cl sent' e=>(by simp at e),fun t2 sent' e=>(by simp at e)⟩;simp only[TR.go.injEq]at e;obtain⟨rfl,rfl⟩:=e;exact h
theorem Ey(e:0≤hd∧hd≤65535)(g:kO now):∀(ins:List kC)(s:SV)(sent:List Int),lV s→sA s sent→(∀x∈ins,Bytes x.d)→qg au id hd b s.st sent→Told au id hd b (oF (runM A hd au id now s sent ins)):=by
 intro ins
 induction ins with
 |nil=>intro s sent _ _ _ h;exact .go h
 |cons x xs m =>
  intro s sent o f hb h;obtain⟨u,z,F⟩:=ym (A:=A) (au:=au) (id:=id) (k:=x.k) o f e g (hb x (by simp));obtain⟨f1,f2,f3⟩:=Qz (A:=A) (now:=now) (k:=x.k) (d:=x.d) h;simp only[runM];rcases a:ly A hd au id now s sent x.k x.d with⟨s',sent'⟩|⟨cl,sent'⟩|⟨t,sent'⟩
  ·obtain⟨B,C⟩:=u _ _ a;exact m s' sent' B C (fun y D=>hb y (by simp[D])) (f1 _ _ a)
  ·obtain⟨st,k⟩:=f2 _ _ a;exact .over k
  ·obtain⟨st,E,k⟩:=f3 _ _ a;exact .AK t (z _ _ a).1 E k
theorem QA(h:0≤hd∧hd≤65535)(o:kO now)(m:lV s){ins:List kC}(hb:∀x∈ins,Bytes x.d):Told au id hd (decide (s.st≠0)) (p9 A hd au id now s ins):=by
 have g:s.st≠0→qg au id hd (decide (s.st≠0)) s.st []:=fun f=>⟨[],rfl,.inr (.inl ⟨f,by simpa using f,mK.nil⟩)⟩
 unfold p9;split
 ·rename_i a;have f:s.st≠0:=by
   unfold pq at a;simp at a;exact a.1
  have:=Told.AK (au:=au) (id:=id) (hd:=hd) (sent:=[]) ⟨4,0,[]⟩ ⟨by simp,by simp,Bytes.nil,by simp⟩ f (g f);simpa using this
 ·split
  ·rename_i t;have f:s.st=2∨s.st=3:=by
    unfold oY at t;simp at t;exact t.1
   have u:s.st≠0:=by omega
   refine Ey h o ins { s with spoke:=now } (j9 4 []) ⟨m.part,m.st,fun e=>by simp at e;omega,m.hold,m.heard,o⟩ ⟨fun e=>by simp at e;omega,fun e=>by simp at e;omega,by simp[rM]⟩ hb ?_;have:=(g u).add u u mK.one;rw[yo,ig]at this;exact this
  ·refine Ey h o ins s [] m ⟨fun _=>rfl,fun _=>by simp,by simp⟩ hb ?_
   by_cases f:s.st=0
   ·exact⟨[],rfl,.inl ⟨f,rfl,by simp[f]⟩⟩
   ·exact g f
def mh (now t:Int):Int:=if t<0 then now else if 1099511627776-now<t then 1099511627776 else now+t
theorem Ez{t:Int}(h:0≤now∧now≤1099511627776):now≤mh now t∧mh now t≤1099511627776:=by
 unfold mh;split
 ·omega
 ·split<;>omega
theorem EA(now t:Int)(h:0≤now∧now≤1099511627776)(w:World):Calls Tryz.prog 33 #[.int .i64 now,.int .i64 t] w fun e w'=>e=.returned (.int .i64 (mh now t))∧w'=w:=by
 have k2:wrap64 (1099511627776-now)=1099511627776-now:=by unfold wrap64;omega
 by_cases a:t<0
 ·have e:mh now t=now:=by unfold mh;rw[dj a]
  rw[e];have g:¬1099511627776-now<0:=by omega
  have f:wrap64 (now+0)=now:=by unfold wrap64;omega
  have m:wrap64 now=now:=by unfold wrap64;omega
  go_enter Tryz.func33,Tryz.ntmps33
  go_wp2
  all_goals(exact iZ (v:=.int .i64 now) (by simp[results,Tryz.results33,go_sem]) rfl ⟨rfl,rfl⟩)
 ·by_cases d:1099511627776-now<t
  ·have e:mh now t=1099511627776:=by unfold mh;rw[dk a,dj d]
   rw[e];have f:wrap64 (now+(1099511627776-now))=1099511627776:=by unfold wrap64;omega
   go_enter Tryz.func33,Tryz.ntmps33
   go_wp2
   all_goals(exact iZ (v:=.int .i64 1099511627776) (by simp[results,Tryz.results33,go_sem];omega) rfl ⟨rfl,rfl⟩)
  ·have e:mh now t=now+t:=by unfold mh;rw[dk a,dk d]
   rw[e];exact P5 now t h.1 (by omega) (by omega) w
theorem QB(xs:List Int)(hx:Bytes xs)(C:xs.length≤4)(w:World):Calls Tryz.prog 47 #[.string (strOfNums xs)] w fun e w'=>e=.returned (.int .i64 (kP xs))∧w'=w:=by
 have z:=iE;go_enter Tryz.func47,Tryz.ntmps47
 go_wp2_with fail
 go_loop [3,4] (fun n i=>∃k:Nat,k≤xs.length∧i=.int .i64 k∧n=.int .i64 (kP (xs.take k))) (fun _ i=>xs.length-(intOf i).toNat)
 case atStart=>exact⟨0,eI _,rfl,rfl⟩
 case round =>
  obtain⟨k,D,rfl,rfl⟩:=hrel
  by_cases a:k<xs.length
  ·have d:xs[k]?=some xs[k]:=jf a;have u:=hx _ (jg a);have f:=uv (xs:=xs.take k) (fun x h=>hx x (iV h));have g:(xs.take k).length=k:=by rw[iT];omega
   rw[g]at f;have hp:(256:Int) ^ k≤16777216:=by
    have:k=0∨k=1∨k=2∨k=3:=by omega
    rcases this with rfl|rfl|rfl|rfl<;>decide
   have hsz:k<(strOfNums xs).size:=by rw[z];exact a
   have E:(((strOfNums xs)[k]'hsz).toNat:Int)=xs[k]:=tu hx d hsz;have m:kP (xs.take (k+1))=256*kP (xs.take k)+xs[k]:=by
    rw[List.take_add_one,d];exact Ai _ _
   have o:=f.1;have t:kP (xs.take k)<16777216:=by omega
   have B:Hid (wrap64 (wrap64 (256*kP (xs.take k))+wrap64 xs[k])=kP (xs.take (k+1))):=by
    have w1:wrap64 (256*kP (xs.take k))=256*kP (xs.take k):=by unfold wrap64;omega
    have w2:wrap64 xs[k]=xs[k]:=by unfold wrap64;omega
    have w3:wrap64 (256*kP (xs.take k)+xs[k])=256*kP (xs.take k)+xs[k]:=by unfold wrap64;omega
    rw[w1,w2,w3,m];exact rfl
   clear m f hp d u g o t
   go_wp2_with fail
   go_round
   case rel=>exact⟨k+1,by omega,by go_num,by rw[B.out]⟩
   case measure=>simp[intOf];omega
  ·have y:k=xs.length:=by omega
   subst y
   go_wp2_with fail
   go_ret;exact⟨rfl,rfl⟩
def okW (cl:Bool) (st:Int):Bool→List (Int×List Int)→Prop
 |_,[]=>cl=true→st=0
 |b,m::r=>(m.1=1∨m.1=2∨m.1=3∨m.1=4)∧b=!(m.1 == 1)∧Bytes m.2∧m.2.length≤4077∧(m.1=3→r=[]∧cl=true∧st=0)∧(m.1=2→st=3)∧okW cl st true r
theorem QC{cl:Bool}:∀{ms:List (Int×List Int)} {b:Bool},okW cl st b ms→Bytes (kN ms):=by
 intro ms
 induction ms with
 |nil=>intro b _ x hx;simp[kN]at hx
 |cons m r a =>
  intro b h;obtain⟨g,o,d,t,u,y,f⟩:=h;have e:kN (m::r)=j9 m.1 m.2++kN r:=by simp[kN]
  rw[e];intro x hx;simp only[j9,mark,kB,gQ,fJ,fK,fL]at hx;rcases hx with((h|h|h|h|h|h|h|h|h|h|h|h|h|h|h|h)|(h|h)|h|h)|h
  all_goals first|(exact d x h)|(exact a f x h)|(subst h;omega)
theorem QD{b:List Int}{Y:List Int}(d:0≤k∧k≤255)(hb:Bytes b)(e:b.length≤4077)(a:Bytes Y):Bytes (j9 k b++Y)∧(j9 k b++Y).length=19+b.length+Y.length∧(j9 k b++Y).take 16=mark∧kP (((j9 k b++Y).drop 16).take 2)=19+(b.length:Int)∧((j9 k b++Y).drop 16).take 2=kB (19+(b.length:Int))∧(j9 k b++Y)[18]?=some k∧(j9 k b++Y).drop (19+b.length)=Y:=by
 refine⟨?_,?_,?_,?_,?_,?_,?_⟩
 ·intro x hx;simp only[j9,mark,kB,gQ,fJ,fK,fL]at hx;rcases hx with((h|h|h|h|h|h|h|h|h|h|h|h|h|h|h|h)|(h|h)|h|h)|h
  all_goals first|(exact hb x h)|(exact a x h)|(subst h;omega)
 ·simp[j9,mark,kB];omega
 ·simp[j9,mark,kB]
 ·simp[j9,mark,kB,kP];omega
 ·simp[j9,mark,kB]
 ·simp[j9,mark,kB]
 ·simp[j9,mark,kB];rw[show 19+b.length=b.length+19 by omega];simp
theorem yp{B:Nat}{a w:World}(h:Below B a w)(n:Nat):Below B a (w.drewN n):=⟨h.os,by simpa using h.tape,h.output,by simpa using h.size,fun b hb=>by simpa using h.block b hb⟩
theorem QE(pe:Int)(cl:Bool)(st:Int)(ms:List (Int×List Int))(b:Bool)(h:okW cl st b ms)(w:World):Calls Tryz.prog 22 #[.agg #[.int .i64 pe,.string (strOfNums (kN ms)),.bool cl],.bool b,.int .i64 st] w fun e w'=>e=.returned (.bool true)∧Below w.heap.size w w':=by
 have z:=iE;go_enter Tryz.func22,Tryz.ntmps22
 go_wp2_with fail
 have g0:=jl w (.cells #[.int .i64 pe,.string (strOfNums (kN ms)),.bool cl] 41);have hB:Below w.heap.size w (w.alloc (.cells #[.int .i64 pe,.string (strOfNums (kN ms)),.bool cl] 41)):=(iD _ _).alloc (dx _) _;have G:w.heap.size<(w.alloc (.cells #[.int .i64 pe,.string (strOfNums (kN ms)),.bool cl] 41)).heap.size:=by simp
 generalize(w.alloc (.cells #[.int .i64 pe,.string (strOfNums (kN ms)),.bool cl] 41))=w1 at g0 hB G ⊢;have c2:=jV g0 2;simp at c2;clear g0
 go_loopw [1,7,8,9] (fun b d _ _ wr=>∃ms b0,b=.bool b0∧d=.string (strOfNums (kN ms))∧okW cl st b0 ms∧Below w1.heap.size w1 wr) (fun _ d _ _ _=>match d with | .string s=>s.size|_=>0)
 case atStart=>exact⟨ms,b,rfl,rfl,h,iD _ _⟩
 case round =>
  obtain⟨m0,b0,rfl,rfl,D,f⟩:=hrel;have Y:=(f.cell (p:=⟨w.heap.size,2,none⟩) G).trans c2;have u:Below w.heap.size w wr:=hB.trans (f.mono (Nat.le_of_lt G))
  cases m0 with
  |nil =>
   have D:cl=true→st=0:=D
   cases cl with
   |false =>
    go_wp2_with fail
    all_goals go_ret
    all_goals exact⟨rfl,u⟩
   |true =>
    obtain rfl:=D rfl
    go_wp2_with fail
    all_goals go_ret
    all_goals exact⟨rfl,u⟩
  |cons m r =>
   obtain⟨k,y⟩:=m;obtain⟨K,B,H,I,L,M,J⟩:=D;simp only at K B H I L M;have O:Bytes (kN r):=QC J;obtain⟨f1,f2,f3,f4,f5,f6,f7⟩:=QD (k:=k) (by omega) H I O;have R:kN ((k,y)::r)=j9 k y++kN r:=by simp[kN]
   rw[R];clear R;generalize T:j9 k y++kN r=X at f1 f2 f3 f4 f5 f6 f7 ⊢;clear T;obtain⟨N,hN⟩:∃N,19+y.length=N:=⟨_,rfl⟩;have d1:(0:Int)<(X.length:Int):=by omega
   have d2:decide ((X.length:Int)<19)=false:=by simp;omega
   have d3:¬((N:Int)<19):=by omega
   have d4:¬(4096<(N:Int)):=by omega
   have d5:¬((X.length:Int)<(N:Int)):=by omega
   have U:(strOfNums X).extract 0 16=strOfNums mark:=by rw[p8];simp[f3]
   have V:(strOfNums X).extract 16 18=strOfNums (kB (19+(y.length:Int))):=by rw[p8,f5]
   have t:18<(strOfNums X).size:=by rw[z];omega
   have Z:(((strOfNums X)[18]'t).toNat:Int)=k:=tu f1 f6 t;have E:Hid (∀w,Calls Tryz.prog 47 #[.string (strOfNums (kB (19+(y.length:Int))))] w fun e w'=>e=.returned (.int .i64 (N:Int))∧w'=w):=fun w=>by
    have e:kP (kB (19+(y.length:Int)))=(N:Int):=by rw[←f5,f4];omega
    rw[←e];refine QB _ (fun x hx=>?_) (by simp[kB]) w;simp only[kB,fJ,fK,fL]at hx;omega
   have g:(strOfNums X).extract N X.length=strOfNums (kN r):=by
    rw[p8,←hN,f7,gY (by omega)]
   have C:(kN r).length<X.length:=by omega
   have F:Hid (_):=C;have a:Hid (_):=f;have o:Hid (_):=J;clear f1 f2 f3 f4 f5 f6 f7 C H I J O f u hB c2;have W:N≤X.length:=by omega
   rcases K with rfl|rfl|rfl|rfl
   ·obtain rfl:b0=false:=B
    go_wp2_with fail
    go_quiet ((go_at_call 31;exact jh (sr _)))
    all_goals go_wp2_with (first|(go_at_call 31;refine(sr _).mono ?_;rintro e w1 ⟨rfl,rfl⟩)|(go_at_call 47;refine(E.out _).mono ?_;rintro e w1 ⟨rfl,rfl⟩))
    go_roundw
    case rel=>exact⟨r,true,rfl,by first|rfl|rw[g],o.out,by first|exact a.out|exact yp a.out _⟩
    case measure =>
     have:=F.out;simp[z];omega
   ·obtain rfl:b0=true:=B;obtain rfl:=M rfl
    go_wp2_with fail
    go_quiet ((go_at_call 31;exact jh (sr _)))
    all_goals go_wp2_with (first|(go_at_call 31;refine(sr _).mono ?_;rintro e w1 ⟨rfl,rfl⟩)|(go_at_call 47;refine(E.out _).mono ?_;rintro e w1 ⟨rfl,rfl⟩))
    go_roundw
    case rel=>exact⟨r,true,rfl,by first|rfl|rw[g],o.out,by first|exact a.out|exact yp a.out _⟩
    case measure =>
     have:=F.out;simp[z];omega
   ·obtain rfl:b0=true:=B;obtain⟨rfl,rfl,rfl⟩:=L rfl
    go_wp2_with fail
    go_quiet ((go_at_call 31;exact jh (sr _)))
    all_goals go_wp2_with (first|(go_at_call 31;refine(sr _).mono ?_;rintro e w1 ⟨rfl,rfl⟩)|(go_at_call 47;refine(E.out _).mono ?_;rintro e w1 ⟨rfl,rfl⟩))
    go_roundw
    case rel=>exact⟨[],true,rfl,by first|rfl|rw[g],o.out,by first|exact a.out|exact yp a.out _⟩
    case measure =>
     have:=F.out;simp[z];omega
   ·obtain rfl:b0=true:=B
    go_wp2_with fail
    go_quiet ((go_at_call 31;exact jh (sr _)))
    all_goals go_wp2_with (first|(go_at_call 31;refine(sr _).mono ?_;rintro e w1 ⟨rfl,rfl⟩)|(go_at_call 47;refine(E.out _).mono ?_;rintro e w1 ⟨rfl,rfl⟩))
    go_roundw
    case rel=>exact⟨r,true,rfl,by first|rfl|rw[g],o.out,by first|exact a.out|exact yp a.out _⟩
    case measure =>
     have:=F.out;simp[z];omega
end
end Go.Proofs.YtjnkcibpkkjniaaGreat
namespace Go.Proofs.YtjnkcibpkkjniaaGreat.j7
section
open Go.Conc
def kg {α:Type} (P:Program) (m:Sem α):Prop:=∀w v w',m.run P w=.ok v w'→w'=w
section
variable {P:Program} {α β:Type}
theorem kg.pure(x:α):kg P (Pure.pure x:Sem α):=fun w v w' h=>by simp[go_sem]at h;exact h.2.symm
theorem kg.bind{m:Sem α}{k:α→Sem β}(hm:kg P m)(d:∀x,kg P (k x)):kg P (m >>= k):=fun w v w' h=>by
 rw[gz]at h
 cases hr:m.run P w with
 |ok x w1 =>
  rw[hr]at h;have e:=hm w x w1 hr;subst e;exact d x _ _ _ h
 |halt a b=>rw[hr]at h;cases h
theorem kg.EB{m:Sem α}(h:∀w,∃a w',m.run P w=.halt a w'):kg P m:=fun w v w' k=>by
 obtain⟨a,w1,e⟩:=h w;rw[e]at k;cases k
theorem kg.load(a:Addr):kg P (load a):=fun w v w' h=>by
 simp[go_sem]at h;split at h
 ·cases h;rfl
 ·split at h<;>cases h;rfl
theorem kg.asAddr(v:Value):kg P (asAddr v):=by
 unfold Go.asAddr;split
 ·exact kg.pure _
 ·exact kg.EB fun w=>by simp[go_sem]
 ·exact kg.EB fun w=>by simp[go_sem]
theorem kg.EC(a:Addr):∀(n i:Nat)(acc:Array Value),kg P (loadCellsFrom a i n acc)
 |0,i,acc=>kg.pure _
 |n+1,i,acc=>kg.bind (kg.load _) fun v=>kg.EC a n (i+1) (acc.push v)
theorem kg.typeInfo(t:TypeId):kg P (typeInfo t):=fun w v w' h=>by
 simp[Go.typeInfo,go_sem]at h;split at h<;>simp_all[go_sem]
theorem kg.underlying(t:TypeId):kg P (underlying t):=fun w v w' h=>by
 simp[Go.underlying,go_sem]at h;split at h<;>simp_all[go_sem]
theorem kg.isAgg(t:TypeId):kg P (isAgg t):=kg.bind (kg.underlying t) fun d=>by cases d<;>exact kg.pure _
theorem kg.loadVar(t:TypeId)(a:Addr):kg P (loadVar t a):=kg.bind (kg.isAgg t) fun b=>by
 cases b
 ·exact kg.load a
 ·exact kg.bind (kg.bind (kg.typeInfo t) fun _=>kg.pure _) fun n=>kg.bind (kg.EC a n 0 #[]) fun _=>kg.pure _
theorem kg.results(fn:Func)(tmps:Array Value):kg P (results fn tmps):=by
 unfold Go.results;refine kg.bind ?_ fun _=>kg.pure _
 rw[dP];refine kg.bind ?_ fun _=>kg.pure _
 generalize fn.results.toList=l
 induction l with
 |nil=>simp only[List.mapM_nil];exact kg.pure _
 |cons x l d =>
  simp only[List.mapM_cons];refine kg.bind ?_ fun _=>kg.bind d fun _=>kg.pure _
  cases x with
  |tmp t=>exact kg.pure _
  |cell a t=>exact kg.bind (kg.asAddr _) fun _=>kg.loadVar _ _
end
def lB (s:GStep):Prop:=match s with | .go g _ _=>g.offers=none|_=>True
theorem lB.after{s:GStep}(es:Array Event)(h:lB s):lB (GStep.after es s):=by cases s<;>exact h
theorem lB.go{fr:Frame}{cs:List Frame}{st:GoStatus}{d:Option Dying}{w:World}{es:Array Event}:lB (.go { frame:=fr,callers:=cs,status:=st,dying:=d } w es):=rfl
theorem lB.elim{α:Type}(o:Option α){a:GStep}{f:α→GStep}(d:lB a)(e:∀x,lB (f x)):lB (o.elim a f):=by
 cases o
 ·exact d
 ·exact e _
section
variable {P:Program}
theorem AL(main:Bool)(fr:Frame)(cs:List Frame)(v:Value)(w:World):lB (doReturn P main fr cs none v w):=by
 unfold doReturn
 repeat' (first|exact lB.go|trivial|split)
theorem QF(fr:Frame)(ps:List ByteArray)(m:String)(b:Bool)(w:World):lB (dieOf fr ps m b w):=by
 unfold dieOf
 repeat' (first|exact lB.go|trivial|refine lB.after _ ?_|split)
theorem ED(fr:Frame)(cs:List Frame)(m:String)(w:World):lB (endFatal P fr cs none m w):=by
 unfold endFatal;dsimp only
 repeat' (first|exact lB.go|exact QF _ _ _ _ _|trivial|refine lB.after _ ?_|split)
theorem QG(fr:Frame)(cs:List Frame)(m:Nat)(w:World):lB (early P fr cs none m w):=by
 unfold early
 repeat' (first|exact lB.go|trivial|refine lB.after _ ?_|split|(dsimp only;split)|dsimp only)
theorem QH(fr:Frame)(cs:List Frame)(d:Deferred)(w:World):lB (callDeferred P fr cs none d w):=by
 unfold callDeferred
 repeat' (first|exact lB.go|exact ED _ _ _ _|trivial|refine lB.after _ ?_|split)
theorem EE(main:Bool)(fr:Frame)(cs:List Frame)(w:World):lB (unwind P main fr cs none w):=by
 unfold unwind
 repeat' (first|exact lB.go|exact QH _ _ _ _|exact AL _ _ _ _ _|trivial|refine lB.after _ ?_|split)
theorem EF(main:Bool)(fr:Frame)(cs:List Frame)(s:Sem Next)(w:World)(l:Bool):lB (stepG.apply P l fr cs none s w):=by
 unfold stepG.apply;refine lB.after _ ?_
 repeat' (first|exact lB.go|exact ED _ _ _ _|exact QG _ _ _ _|trivial|split)
theorem QI(main:Bool)(fr:Frame)(cs:List Frame)(w:World)(l:Bool):lB (stepG.exec P main l fr cs none w):=by
 unfold stepG.exec
 repeat' (first|exact lB.go|exact EF main _ _ _ _ _|exact AL _ _ _ _ _|trivial|refine lB.after _ ?_|split)
 all_goals(try unfold stepG.oper)
 all_goals(try dsimp only)
 all_goals(try refine lB.elim _ ?_ (fun x=>?_))
 all_goals(repeat' (first|exact lB.go|exact EF main _ _ _ _ _|exact AL _ _ _ _ _|trivial|refine lB.after _ ?_|split))
theorem QJ(main:Bool)(fr:Frame)(cs:List Frame)(off:Option (Array CommCase×CommShape))(w:World):lB (stepG P main { frame:=fr,callers:=cs,status:=.running,dying:=none,offers:=off } w):=by
 unfold stepG
 cases hm:fr.mode with
 |run=>simp only[hm];exact QI _ _ _ _ _
 |returning=>simp only[hm];exact EE _ _ _ _
 |panicking ch=>simp only[hm];exact EE _ _ _ _
end
end
section
open Go.Conc
variable [Scope] {P:Program}
theorem QK[ki P][lu P]{ρ:jR}{f:FuncId}(hf:Scope.ok f=true){args lF:Array Value}(ha:jW ρ args lF){wS w:World}(hh:HR ρ wS w){R:Value→World→Prop}(hc:∀T,Calls P f args { wS with tape:=T,drawn:=0 } fun e w'=>∃v,e=.returned v∧R v w'):Calls P f lF w fun e w'=>∃v v' wE ρ',e=.returned v'∧R v wE∧HR ρ' wE w'∧VR ρ' v v'∧Grow ρ w ρ'∧Kept ρ w w':=by
 intro cs;obtain⟨K,nT,wE,e,m,⟨v,rfl,hR⟩,U,z,ak⟩:=zb (hc fun j q=>w.tape (w.drawn+j) q) (fun w' ⟨v,h,_⟩=>by cases h);have B:uU P (lone (Frame.enter P f args .normal) [cap P] { wS with tape:=fun j q=>w.tape (w.drawn+j) q,drawn:=0 }) K nT wE:=⟨m,by rw[z.1];simp,z.2.1⟩;have key:∀(n k D:Nat)(a:jR)(gS:Goroutine)(fr:Frame)(ys:List Frame) (o w1:World),k+n=K →
   mV P (lone (Frame.enter P f args .normal) [cap P] { wS with tape:=fun j q=>w.tape (w.drawn+j) q,drawn:=0 }) K (fun j q=>w.tape (w.drawn+j) q) a cs k D gS o { frame:=fr,callers:=ys,status:=.running,dying:=none } w1 →
   Grow ρ w a→Kept ρ w w1→w1.drawn=w.drawn+D→Steps P (lone (Frame.enter P f lF .normal) cs w) (lone fr ys w1) →
   ∃jS w' ρ' V,Steps P (lone (Frame.enter P f lF .normal) cs w) (lone jS cs w')∧HR ρ' wE w'∧Grow ρ w ρ'∧Kept ρ w w'∧nk P ρ' nT jS∧wE.tape=(fun j q=>w.tape (w.drawn+j) q)∧wE.drawn=V∧w'.drawn=w.drawn+V:=by
  intro n
  induction n with
  |zero =>
   intro k D a gS fr ys o w1 hk hr M d hd W;obtain rfl:k=K:=by omega
   have X:=hr.run;rw[m]at X;simp only[lone,eE,Machine.mk.injEq,eF,eG,eH]at X;obtain⟨e0,⟨⟨N,Y,_⟩,_⟩,_⟩:=X;obtain⟨us,vs,q1,q2,q3,_⟩:=hr.gr.callers;have Z:us=[]:=by
    rw[←Y]at q1
    cases us with
    |nil=>rfl
    |cons u us=>have:=dD List.length q1;simp at this
   subst Z
   cases q3
   simp only[ig]at q2;subst q2;have C:=hr.gr.frame;rw[←N]at C;have g:=hr.hr;have E:=hr.tape;have F:=hr.drawn;rw[←e0]at g E F;exact⟨fr,w1,a,D,W,g,M,d,C,E,F,hd⟩
  |succ n ih =>
   intro k D a gS fr ys o w1 hk hr M d hd W;have aa:¬AtEnd [cap P] gS:=fun h=>by have:=(hr.at_end B h).1;omega
   obtain⟨g',w',es,ρ',ab,ad,N,Y,e3,e4,e5⟩:=hr.step B aa true (fun j q _=>by rw[d.tape,hd,dK]);have O:=QJ (P:=P) true fr ys none w1;rw[N]at O;obtain⟨fr2,G,al,am,H⟩:=g';have s1:=e5.gr.status.2;have s2:=e5.gr.dying.2;simp only at s1 s2;subst s1 s2;have O:H=none:=O;subst O;have t:step P (lone fr ys w1)=.next (lone fr2 G w'):=step_lone_go (by rw[N];rfl);refine ih (k+1) _ ρ' ab fr2 G ad w' (by omega) e5 (M.trans d.size Y) (d.trans M e3) ?_ ?_
   ·have:=e3.drawn;omega
   ·exact Steps.trans W (.one t)
 obtain⟨jS,w',ρ',V,k1,k2,k3,k4,y,k6,k7,k8⟩:=key K 0 0 ρ _ _ _ _ _ (by omega) (mV.start hf ha hh cs _ K) (Grow.refl _ _) (Kept.refl hh) (by omega) (Steps.refl _ _);obtain⟨hm,hd,ae,fn,I,J⟩:=z;have hL:TA ⟨none,w.drawn,fun j q=>w.tape (w.drawn+j) q⟩ wE w':=by
  refine⟨?_,k6,fun j q _=>?_⟩
  ·rw[k7,k8];simp only;omega
  ·rw[k6,k7,k4.tape,k8,dK]
 have L:=uO (za (P:=P) (fn:=fn) y.tmps) wE w' #[] k2 hL;rw[J]at L;obtain⟨v',wB,new,af,e,ag,ah,g,_,_,_⟩:=L (fun l z=>by cases z);have er:(results fn jS.tmps).run P w'=.ok v' wB:=by
  have:=dD (·.1) e;rw[dO]at this;exact this
 have ew:=kg.results (P:=P) fn jS.tmps w' v' wB er;subst ew;have ai:jS.mode=.returning:=by
  have:=y.mode;rw[hm]at this
  cases hq:jS.mode<;>rw[hq]at this<;>first|rfl|cases this
 have aj:jS.defers=[]:=by
  have:=y.defers;rw[hd]at this
  cases hq:jS.defers<;>rw[hq]at this<;>first|rfl|cases this
 exact⟨.returned v',wB,jS,⟨v,v',wE,af,rfl,hR,g,ah,k3.trans k4.size ag,k4⟩,k1,y.fn.trans U,ai,aj,y.kind.trans ae,fn,by rw[y.fn];exact I,er⟩
end
end Go.Proofs.YtjnkcibpkkjniaaGreat.j7
