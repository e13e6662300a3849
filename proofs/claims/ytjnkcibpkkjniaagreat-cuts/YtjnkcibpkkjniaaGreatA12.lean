import Derived.Test.YtjnkcibpkkjniaaGreatA00
import Derived.Test.YtjnkcibpkkjniaaGreatA11
set_option linter.all false
set_option maxHeartbeats 2000000
set_option maxRecDepth 20000
namespace Go.Proofs.YtjnkcibpkkjniaaGreat
section
open Go Go.RowKit
open Go.Proofs.YtjnkcibpkkjniaaGreat.kN (lh lO uj rU)
def qP (pe k:Int) (s:List Int):List Value:=[.int .i64 pe,.int .i64 k,.string (strOfNums s)]
def oy (nb n ob pk:Nat) (k:Int) (s:List Int) (B0 S0 c:Nat) (xs:List Value) (mv:Value):Nat→Value→World→Prop
 |0,v,_=>v=.slice (some ⟨nb,0,none⟩) n n
 |1,v,_=>v=.pointer (some ⟨ob,0,none⟩)
 |2,v,_=>v=.int .i64 (pk:Int)
 |3,v,_=>v=.slice (some ⟨nb,0,none⟩) n n
 |4,v,_=>v=.pointer (some ⟨ob,0,none⟩)
 |5,v,_=>v=.int .i64 (pk:Int)
 |6,v,_=>v=.pointer (some ⟨nb,pk,none⟩)
 |7,v,_=>v=mv
 |8,v,_=>v=.agg #[.int .i64 (pk:Int),.int .i64 k,.string (strOfNums s)]
 |9,v,w=>∃bb,v=.slice (some ⟨bb,0,none⟩) 1 1∧S0≤bb∧w.heap[bb]?=some (.cells #[.int .i64 (pk:Int),.int .i64 k,.string (strOfNums s)] 43 (0,0))
 |10,v,w=>w.ownsRow B0 43 3 v (c+1) (xs++qP pk k s)∧lE Pl w v∧(v.ownBlock=mv.ownBlock∨∃j,v.ownBlock=some j∧S0≤j)
 |11,v,_=>v=.pointer (some ⟨nb,pk,none⟩)
 |_,_,_=>True
theorem SX{nb n ob pk:Nat}{k:Int}{s:List Int}{B0 m c:Nat}{xs:List Value}{mv:Value}(w w':World)(j:Nat)(u:Value)(hB:Below w.heap.size w w')(h:oy nb n ob pk k s B0 m c xs mv j u w):oy nb n ob pk k s B0 m c xs mv j u w':=by
 unfold oy at h ⊢;split at h
 iterate 9 exact h
 ·obtain⟨bb,a,e,b⟩:=h;exact⟨bb,a,e,(hB.block _ (dv.1 b).1).trans b⟩
 ·obtain⟨a,e,b⟩:=h;exact⟨lM a fun k f=>hB.block k (jA a k f).2,e.keep fun k f=>hB.block k (jA a k f).2,b⟩
 ·exact h
 ·trivial
noncomputable def qk:Array Oper:=((Tryz.f36.body).bind (opsOf 6)).getD #[]
def BD (i:Nat):Bool:=i == 7 || i == 8 || i == 9
theorem SY:lO qk=true:=by kernel_rfl
theorem SZ:qk.size=13:=by kernel_rfl
theorem S3:rU qk 10 BD=true:=by kernel_rfl
section
variable {Q:Exit→Act→World→Prop} {nb n ob pk:Nat} {k:Int} {s:List Int} {B0 c:Nat} {xs:List Value} {mv:Value} {wr:World}
theorem S4(q:nb<wr.heap.size)(r:ob<wr.heap.size)(E:pk<n)(m0:wr.cell? ⟨nb,pk,none⟩=some mv)(hI:rS wr ob 0 (pk:Int) k s)(u:mv.ownBlock≠some ob)(i:Nat)(o:Oper)(a:Act)(w:World)(O:i<12)(F:i≠10)(y:qk[i]?=some o)(f5:a.tmps[5]?=some (.slice (some ⟨nb,0,none⟩) n n))(f7:a.tmps[7]?=some (.pointer (some ⟨ob,0,none⟩)))(b:∀(j:Nat)(o':Oper)(d:Nat),qk[j]?=some o'→o'.dst=some d→(∃e∈o.after,e.on=j∧Region.binds .any e=true)→∃v,a.tmps[d]?=some v∧oy nb n ob pk k s B0 wr.heap.size c xs mv j v w)(C:BD i=true→Below wr.heap.size wr w)(G:wr.grownBy w mv.ownBlock)(K:Act→World→Prop)(m:∀v w',oy nb n ob pk k s B0 wr.heap.size c xs mv i v w'→Below w.heap.size w w'→K (a.put o.dst v) w'):o.wp Tryz.prog a w K Q:=by
 obtain⟨H,I,J⟩:=hI.keep (G.block ob r fun e=>u e.symm);simp only[dG]at H I J;have L:(pk:Int)<(n:Int):=by omega
 have M:(0:Int)≤(pk:Int):=by omega
 clear hI;obtain rfl|rfl|rfl|rfl|rfl|rfl|rfl|rfl|rfl|rfl|rfl:i=0∨i=1∨i=2∨i=3∨i=4∨i=5∨i=6∨i=7∨i=8∨i=9∨i=11:=by omega
 all_goals
  simp only[qk,Tryz.f36,opsOf,ed]at y;simp[]at y;subst y
 all_goals try
  first
  |(unfold Oper.wp execOp;simp only[Act.eval,dA,f5,f7,eE];go_simp;exact m _ _ rfl (iJ _ _))
  |(obtain⟨z,h,f⟩:=b _ _ _ (by rfl) (by rfl) ⟨_,⟨List.Mem.head _⟩,rfl,rfl⟩;simp only[oy]at f;subst f;unfold Oper.wp execOp;simp only[Act.eval,dA,h,eE];go_simp;exact m _ _ rfl (iJ _ _))
  |(obtain⟨z,h,f⟩:=b _ _ _ (by rfl) (by rfl) ⟨_,⟨List.Mem.head _⟩,rfl,rfl⟩;obtain⟨R,N,D⟩:=b _ _ _ (by rfl) (by rfl) ⟨_,⟨List.Mem.tail _ (List.Mem.head _)⟩,rfl,rfl⟩;simp only[oy]at f D;subst f D;unfold Oper.wp execOp;simp only[Act.eval,dA,h,N,eE];go_simp;exact m _ _ rfl (iJ _ _))
 ·obtain⟨z,h,f⟩:=b 6 _ _ rfl rfl ⟨⟨6,.data⟩,by simp,rfl,rfl⟩;simp only[oy]at f
  try subst f
  have S:=((C rfl).cell (p:=⟨nb,pk,none⟩) q).trans m0;unfold Oper.wp execOp;simp only[Act.eval,dA,h,eE];go_simp;exact m _ _ rfl (iJ _ _)
 ·obtain⟨z,h,f⟩:=b 8 _ _ rfl rfl ⟨⟨8,.data⟩,by simp,rfl,rfl⟩;simp only[oy]at f
  try subst f
  have hB:=C rfl;unfold Oper.wp execOp;simp only[Act.eval,dA];go_simp;exact m _ _ ⟨w.heap.size,rfl,hB.size,jq w _⟩ ((iJ _ _).alloc (dD _) _)
theorem S5(G:B0≤wr.heap.size)(hc:c≤1152921504606846)(f:wr.ownsRow B0 43 3 mv c xs)(X:lE Pl wr mv)(o:Oper)(a:Act)(w:World)(H:qk[10]?=some o)(m:∀(j:Nat)(o':Oper)(d:Nat),qk[j]?=some o'→o'.dst=some d→(∃e∈o.after,e.on=j∧Region.binds .any e=true)→∃v,a.tmps[d]?=some v∧oy nb n ob pk k s B0 wr.heap.size c xs mv j v w)(I:Below wr.heap.size wr w)(r:wr.grownBy w mv.ownBlock)(b:(c+1)*32≤140737488355328)(K:Act→World→Prop)(Y:∀v w',oy nb n ob pk k s B0 wr.heap.size c xs mv 10 v w'→(∀j u,j≠10→oy nb n ob pk k s B0 wr.heap.size c xs mv j u w→oy nb n ob pk k s B0 wr.heap.size c xs mv j u w')→wr.grownBy w' mv.ownBlock→K (a.put o.dst v) w'):o.wp Tryz.prog a w K Q:=by
 simp only[qk,Tryz.f36,opsOf,ed]at H;simp[]at H;subst H;obtain⟨F,h0,R⟩:=m 7 _ _ rfl rfl ⟨⟨7,.data⟩,by simp,rfl,rfl⟩;simp only[oy]at R;subst R;obtain⟨u1,h1,S⟩:=m 9 _ _ rfl rfl ⟨⟨9,.data⟩,by simp,rfl,rfl⟩;simp only[oy]at S;obtain⟨bb,rfl,aa,y⟩:=S;obtain⟨i0,z0,z,J⟩:=zb;have C:=jA f;have T:∀j,F.ownBlock=some j→w.heap[j]?=wr.heap[j]?:=fun j L=>I.block j (C j L).2
 have q:w.ownsRow B0 43 3 F c xs:=lM f T;have M:∀(j:Nat)(u:Value),(qP pk k s)[j]?=some u→w.cell? ((⟨bb,0,none⟩:Addr).add j)=some u:=fun j u hu=>by
  have e:(⟨bb,0,none⟩:Addr).add j=⟨bb,j,none⟩:=by unfold Addr.add;split<;>simp_all
  rw[e];exact(kh y j).trans (by simpa[qP]using hu)
 obtain⟨v',w',D,r1,r2,r3,r4⟩:=FM (P:=Tryz.prog) (w:=w) Pl B0 44 44 43 i0 z0 3 32 Tryz.underlying44 z.info z.zero z.size z.bytes z.cells (by decide) F c xs q ⟨bb,0,none⟩ 1 1 (qP pk k s) rfl M (by intro u hu;simp[qP]at hu;rcases hu with rfl|rfl|rfl<;>rfl) (by unfold maxLen;omega) b (dE G I.size) J (by intro u hu;simp[qP]at hu;rcases hu with rfl|rfl|rfl;exact Pl.int _ _;exact Pl.int _ _;exact Pl.string _) (X.keep T);have N:a.eval (.tmp 31)=F:=by simp[Act.eval,dA,h0]
 have O:a.eval (.tmp 33)=.slice (some ⟨bb,0,none⟩) 1 1:=by simp[Act.eval,dA,h1]
 have hsz:=I.size;unfold Oper.wp;simp[execOp,resolve,invoke,builtin,N,O,D,Result.andThen];refine Y _ _ ⟨r1,r3,r4.imp id fun e=>⟨_,e,hsz⟩⟩ (fun j u L h=>?_) ⟨r2.os.trans r.os,r2.tape.trans r.tape,r2.output.trans r.output,dE r.size r2.size,fun i U hr=>(r2.block i (dF U r.size) hr).trans (r.block i U hr)⟩;unfold oy at h ⊢;split at h
 iterate 9 exact h
 ·obtain⟨E,e1,e2,V⟩:=h;exact⟨E,e1,e2,(r2.block _ (dv.1 V).1 fun e=>by have:=(C E e.symm).2;omega).trans V⟩
 ·exact absurd rfl L
 ·exact h
 ·trivial
theorem S6(q:nb<wr.heap.size)(r:mv.ownBlock≠some nb)(m0:wr.cell? ⟨nb,pk,none⟩=some mv)(D:wr.frozen? ⟨nb,pk,none⟩=false)(o:Oper)(a:Act)(w:World)(u:qk[12]?=some o)(f:∀(j:Nat)(o':Oper)(d:Nat),qk[j]?=some o'→o'.dst=some d→(∃e∈o.after,e.on=j∧Region.binds .any e=true)→∃v,a.tmps[d]?=some v∧oy nb n ob pk k s B0 wr.heap.size c xs mv j v w)(y:wr.grownBy w mv.ownBlock)(K:Act→World→Prop)(E:∀v w',(∃m b,wr.grownBy m mv.ownBlock∧m.ownsRow B0 43 3 b (c+1) (xs++qP pk k s)∧lE Pl m b∧(b.ownBlock=mv.ownBlock∨∃j,b.ownBlock=some j∧wr.heap.size≤j)∧w'=m.setCell ⟨nb,pk,none⟩ b)→K (a.put o.dst v) w'):o.wp Tryz.prog a w K Q:=by
 have hb:=y.block nb q (fun e=>r e.symm);have I:=(jT (a:=⟨nb,pk,none⟩) hb).trans m0;have J:=(jU (a:=⟨nb,pk,none⟩) hb).trans D;simp only[qk,Tryz.f36,opsOf,ed]at u;simp[]at u;subst u;obtain⟨L,F,z⟩:=f 11 _ _ rfl rfl ⟨⟨11,.data⟩,by simp,rfl,rfl⟩;simp only[oy]at z;subst z;obtain⟨M,G,C⟩:=f 10 _ _ rfl rfl ⟨⟨10,.data⟩,by simp,rfl,rfl⟩;simp only[oy]at C;obtain⟨h,H,hw⟩:=C;obtain⟨ao,N,rfl,_⟩:=mV h;unfold Oper.wp execOp;simp only[Act.eval,dA,F,G,eE];go_simp;exact E undef _ ⟨w,_,y,h,H,hw,rfl⟩
end
end
section
open Go Go.RowKit
theorem FN(w:World)(sp:Nat)(a:Option Addr)(l c:Nat)(h:w.cell? ⟨sp,1,none⟩=some (.slice a l c))(pe:Int):Calls Tryz.prog 37 #[.pointer (some ⟨sp,0,none⟩),.int .i64 pe] w fun e w'=>e=.returned (.bool (decide (0≤pe∧pe<(l:Int))))∧w'=w:=by
 by_cases b:0≤pe
 ·have d0:decide (0≤pe)=true:=by simpa using b
  by_cases f:pe<(l:Int)
  ·have d1:decide (pe<(l:Int))=true:=by simpa using f
   have e:decide (0≤pe∧pe<(l:Int))=true:=by simp[b,f]
   rw[e];clear e;go_enter Tryz.func37,Tryz.ntmps37
   go_wp2
   all_goals go_ret
   all_goals exact⟨rfl,rfl⟩
  ·have d1:decide (pe<(l:Int))=false:=by simpa using f
   have e:decide (0≤pe∧pe<(l:Int))=false:=by simp;omega
   rw[e];clear e;go_enter Tryz.func37,Tryz.ntmps37
   go_wp2
   all_goals go_ret
   all_goals exact⟨rfl,rfl⟩
 ·have d0:decide (0≤pe)=false:=by simpa using b
  have e:decide (0≤pe∧pe<(l:Int))=false:=by simp;omega
  rw[e];clear e;go_enter Tryz.func37,Tryz.ntmps37
  go_wp2
  all_goals go_ret
  all_goals exact⟨rfl,rfl⟩
theorem S7(w:World)(sp xb l c:Nat)(i:Nat)(st:Int)(b:w.cell? ⟨sp,1,none⟩=some (.slice (some ⟨xb,0,none⟩) l c))(r:i<l)(h:w.cell? ⟨xb,i*14+9,none⟩=some (.int .i64 st)):Calls Tryz.prog 18 #[.pointer (some ⟨sp,0,none⟩),.int .i64 (i:Int)] w fun e w'=>e=.returned (.int .i64 st)∧w'=w:=by
 have a:(i:Int)<(l:Int):=by omega
 have f:(0:Int)≤(i:Int):=by omega
 have m:¬((l:Int)≤(i:Int)):=by omega
 have hd:decide ((0:Int)≤(i:Int)∧(i:Int)<(l:Int))=true:=by simp[a]
 have o:Hid (Calls Tryz.prog 37 #[.pointer (some ⟨sp,0,none⟩),.int .i64 (i:Int)] w fun e w'=>e=.returned (.bool true)∧w'=w):=by
  have:=FN w sp _ l c b (i:Int);rw[hd]at this;exact this
 have q:Hid (Calls Tryz.prog 38 #[.pointer (some ⟨xb,i*14,none⟩)] w fun e w'=>e=.returned (.int .i64 st)∧w'=w):=SB w xb (i*14) st h;clear hd;go_enter Tryz.func18,Tryz.ntmps18
 go_wp2_with (first
  |(go_at_call 37;go_loud (refine o.out.mono ?_);go_loud (rintro e w1 ⟨rfl,rfl⟩))
  |(go_at_call 38;go_loud (refine q.out.mono ?_);go_loud (rintro e w1 ⟨rfl,rfl⟩)))
 go_ret;exact⟨rfl,rfl⟩
end
section
open Go Go.RowKit
open Go.Proofs.YtjnkcibpkkjniaaGreat.kN (lh lO uj rU)
def kF (i:Nat) (ins:List ky):List ky:=ins.filter fun x=>decide (x.pe=(i:Int))
def lU (l:List ky):List Value:=l.flatMap fun x=>qP x.pe x.k x.d
theorem S8(n:Nat)(h:n≤2147483647)(w:World):(Instr.makeSlice 47 (.int .i64 (n:Int)) (.int .i64 (n:Int))).run Tryz.prog w=.ok (.slice (some ⟨w.heap.size,0,none⟩) n n) (w.alloc (.cells (Array.replicate n (.slice none 0 0)) 44)):=by
 have f:((Tryz.prog.info? 44).map fun i=>(i.size,i.bytes))=some (1,24):=by kernel_rfl
 have a:((Tryz.prog.info? 44).bind (·.zero))=some (.slice none 0 0):=by kernel_rfl
 obtain⟨i,b,e⟩:=eo.1 f;rw[b]at a;simp only[eG,ed]at e a;have hb:i.bytes=24:=e.2;have:=run_make w 47 44 i (.slice none 0 0) Tryz.underlying47 b a .i64 .i64 n n (by omega) (Int.le_refl _) (by rw[hb];omega) (by omega);have hm:madeCells (Value.slice none 0 0).cells n=Array.replicate n (.slice none 0 0):=by
  apply Array.toList_inj.1;rw[show(Value.slice none 0 0).cells=#[.slice none 0 0] from rfl,toList_madeCells_one];simp
 rw[this,e.1,Nat.mul_one,Int.toNat_natCast,hm]
theorem FO{C:Array Value}(h:C.size=38):∃c0 c1 c2 c3 c4 V X Y c8 c9 a b e lf f m o q r u y z D E F G H I J K L M N O R S T U,C=#[c0,c1,c2,c3,c4,V,X,Y,c8,c9,a,b,e,lf,f,m,o,q,r,u,y,z,D,E,F,G,H,I,J,K,L,M,N,O,R,S,T,U]:=by
 obtain⟨l⟩:=C
 match l,h with
 |c0::c1::c2::c3::c4::V::X::Y::c8::c9::a::b::e::lf::f::m::o::q::r::u::y::z::D::E::F::G::H::I::J::K::L::M::N::O::R::S::T::U::[],_=>exact⟨_,_,_,_,_,_,_,_,_,_,_,_,_,_,_,_,_,_,_,_,_,_,_,_,_,_,_,_,_,_,_,_,_,_,_,_,_,_,rfl⟩
theorem S9:lh qk [0,5,7,14,15,16] 38=true:=by kernel_rfl
structure Given (w wr:World) (n nb:Nat) (l:List ky):Prop where
 below:Below w.heap.size w wr
 new:w.heap.size≤nb
 rows:∃(ms:Array Value)(m:Nat→Value),wr.heap[nb]?=some (.cells ms 44 (0,0))∧ms.size=n∧(∀i,i<n→ms[i]?=some (m i))∧(∀i,i<n→wr.ownsRow (nb+1) 43 3 (m i) (kF i l).length (lU (kF i l))∧lE Pl wr (m i))∧∀i i',i<n→i'<n→i≠i'→∀b,(m i).ownBlock=some b→(m i').ownBlock≠some b
theorem Given.keep{w wr a:World}{n nb:Nat}{l:List ky}(h:Given w wr n nb l)(hB:Below wr.heap.size wr a):Given w a n nb l:=by
 obtain⟨ms,m,e,f,o,q,r⟩:=h.rows;refine⟨h.below.trans (hB.mono h.below.size),h.new,ms,m,(hB.block nb (dv.1 e).1).trans e,f,o,fun i u=>?_,r⟩;obtain⟨k1,k2⟩:=q i u;exact⟨lM k1 fun k b=>hB.block k (jA k1 k b).2,k2.keep fun k b=>hB.block k (jA k1 k b).2⟩
variable {i:Nat} {l:List ky} {x:ky}
theorem FP(h:x.pe≠(i:Int)):kF i (l++[x])=kF i l:=by simp[kF,h]
theorem Ta(h:x.pe=(i:Int)):kF i (l++[x])=kF i l++[x]:=by simp[kF,h]
theorem FT(l:List ky)(x:ky):lU (l++[x])=lU l++qP x.pe x.k x.d:=by simp[lU]
variable {w:World} {n:Nat}
theorem Given.give{wr D:World}{nb pk:Nat}(hB:Below w.heap.size w wr)(r:w.heap.size≤nb){ms:Array Value}{m:Nat→Value}(E:wr.heap[nb]?=some (.cells ms 44 (0,0)))(H:ms.size=n)(S:∀i,i<n→ms[i]?=some (m i))(J:∀i,i<n→wr.ownsRow (nb+1) 43 3 (m i) (kF i l).length (lU (kF i l))∧lE Pl wr (m i))(K:∀i i',i<n→i'<n→i≠i'→∀b,(m i).ownBlock=some b→(m i').ownBlock≠some b)(y:pk<n)(hx:x.pe=(pk:Int)){a:Value}(L:wr.grownBy D (m pk).ownBlock)(O:D.ownsRow (nb+1) 43 3 a ((kF pk l).length+1) (lU (kF pk l)++qP pk x.k x.d))(T:lE Pl D a)(hw:a.ownBlock=(m pk).ownBlock∨∃j,a.ownBlock=some j∧wr.heap.size≤j):Given w (D.setCell ⟨nb,pk,none⟩ a) n nb (l++[x]):=by
 have F:nb<wr.heap.size:=(dv.1 E).1;have q:∀i,i<n→∀b,(m i).ownBlock=some b→nb<b∧b<wr.heap.size:=fun i f b hb=>jA (J i f).1 b hb
 have z:∀b,a.ownBlock=some b→nb<b:=fun b hb=>(jA O b hb).1
 have M:D.heap[nb]?=wr.heap[nb]?:=L.block nb F fun e=>by have:=(q pk y nb e.symm).1;omega
 have N:Below w.heap.size w D:=hB.grown L (Nat.le_of_lt (iD r F)) fun j I=>by have:=(q pk y j I).1;omega
 have C:∀i,i<n→i≠pk→∀b,(m i).ownBlock=some b→D.heap[b]?=wr.heap[b]?:=fun i f u b hb=>L.block b (q i f b hb).2 fun e=>K i pk f y u b hb e.symm
 refine⟨N.setCell r _,r,ms.setIfInBounds pk a,fun i=>if i=pk then a else m i,?_,by simp[H],fun i f=>?_,fun i f=>?_,fun i i' f G u b hb o=>?_⟩
 ·exact lp (M.trans E) pk a
 ·by_cases e:i=pk
  ·subst e;dsimp only;rw[dr rfl,fj (by omega)]
  ·dsimp only;rw[dt e,dO (dJ e)];exact S i f
 ·by_cases e:i=pk
  ·subst e;simp only[dn];rw[Ta hx,FT,hx,jh];exact⟨lM O fun b hb=>kA (by have:=z b hb;omega) _ _,T.keep fun b hb=>kA (by have:=z b hb;omega) _ _⟩
  ·dsimp only;rw[dt e,FP (by rw[hx];omega)];exact⟨lM (J i f).1 fun b hb=>(kA (by have:=(q i f b hb).1;omega) _ _).trans (C i f e b hb),(J i f).2.keep fun b hb=>(kA (by have:=(q i f b hb).1;omega) _ _).trans (C i f e b hb)⟩
 ·dsimp only at hb o;have key:∀j,j<n→j≠pk→∀b,a.ownBlock=some b→(m j).ownBlock≠some b:=fun j I u b E H=>by
   rcases hw with e|⟨b',e,h⟩
   ·rw[e]at E;exact K pk j y I (dJ u) b E H
   ·have U:b'=b:=by rw[e]at E;simpa using E
    have:=(q j I b H).2;omega
  by_cases e:i=pk
  ·rw[dr e]at hb;rw[dt (by omega)]at o;exact key i' G (by omega) b hb o
  ·rw[dt e]at hb
   by_cases R:i'=pk
   ·rw[dr R]at o;exact key i f e b o hb
   ·rw[dt R]at o;exact K i i' f G u b hb o
def SI (w:World) (sp n:Nat) (ja:Option Addr) (jc:Nat) (ins:List ky) (a:Act) (wr:World):Prop :=
 a.defers=[]∧a.tmps.size=38∧a.tmps[0]?=some (.pointer (some ⟨sp,0,none⟩))∧a.tmps[5]?=some (.slice (some ⟨w.heap.size,0,none⟩) n n)∧a.tmps[14]?=some (.slice ja ins.length jc)∧a.tmps[15]?=some (.int .i64 (ins.length:Int))∧∃j:Nat,a.tmps[16]?=some (.int .i64 (j:Int))∧j≤ins.length∧Given w wr n w.heap.size (ins.take j)
def BE (n:Nat) (a:Act):Nat:=match a.tmps[16]? with
 |some (Value.int _ j)=>((n:Int)-j).toNat
 |_=>0
def SQ (w:World) (n:Nat) (ins:List ky) (e:Ending) (w':World):Prop:=e=.returned (.slice (some ⟨w.heap.size,0,none⟩) n n)∧Given w w' n w.heap.size ins
theorem Tb{a b c:World}{row:Option Nat}(h:a.grownBy b row)(k:Below b.heap.size b c):a.grownBy c row :=
 ⟨k.os.trans h.os,k.tape.trans h.tape,k.output.trans h.output,dE h.size k.size,fun i e hr=>(k.block i (dF e h.size)).trans (h.block i e hr)⟩
theorem FU{sp jb jo jc:Nat}{ja:Option Addr}{xv:Option Addr}{xc:Nat}{ins:List ky}(hc:w.cell? ⟨sp,1,none⟩=some (.slice xv n xc))(hn:n≤2147483647)(Y:ins≠[]→ja=some ⟨jb,jo,none⟩)(aa:ins≠[]→jb<w.heap.size)(hI:pU w jb jo ins)(hlen:ins.length≤4398046511103):Calls Tryz.prog 36 #[.pointer (some ⟨sp,0,none⟩),.slice ja ins.length jc] w fun e w'=>SQ w n ins e w':=by
 have km:=S8 n hn;have kp:sp<w.heap.size:=iK _ _ hc;have ab:Below w.heap.size w (w.alloc (.cells (Array.replicate n (.slice none 0 0)) 44)):=(iJ _ _).alloc (dD _) _;have ad:Hid (Given w (w.alloc (.cells (Array.replicate n (.slice none 0 0)) 44)) n w.heap.size []):=by
  refine⟨ab,dD _,_,fun _=>.slice none 0 0,jq w _,by simp,fun i G=>by rw[dz,dr G],fun i G=>⟨ju _ _ _ _,lE.nil _ _⟩,fun i i' _ _ _ b hb=>by cases hb⟩
 have Hc:Hid (∀wr,Below w.heap.size w wr→wr.cell? ⟨sp,1,none⟩=some (.slice xv n xc)):=fun wr hB=>(hB.cell (p:=⟨sp,1,none⟩) kp).trans hc
 have HI:Hid (∀wr,Below w.heap.size w wr→pU wr jb jo ins):=fun wr hB=>by
  by_cases h:ins=[]
  ·subst h;intro j x hx;simp at hx
  ·exact hI.keep (hB.block jb (aa h))
 have HJ:Hid (_):=Y;have HL:Hid (_):=hlen;have Hn:Hid (_):=hn;clear ab hI hlen hn Y aa;go_enter Tryz.func36,Tryz.ntmps36
 go_wp2_with fail
 refine wp_loop (SI w sp n ja jc ins) (fun a _=>BE ins.length a) ⟨rfl,rfl,rfl,rfl,rfl,rfl,0,rfl,eP _,ad.out⟩ ?_;clear ad hc;intro a wr hI;obtain⟨kW,hsz,f0,f5,f14,f15,j,f16,hj,U⟩:=hI;obtain⟨tm,df⟩:=a;simp only at kW hsz f0 f5 f14 f15 f16;subst kW;obtain⟨k0,k1,k2,k3,k4,k5,k6,k7,k8,k9,aq,ar,av,aw,ax,ay,az,aA,aB,aC,aD,aE,aF,aG,aH,aI,aJ,aK,aL,aM,aN,aO,aP,aQ,aR,aS,aT,aU,rfl⟩:=FO hsz;simp only[fV,gB,fW,dW]at f0 f5 f14 f15 f16;subst f0 f5 f14 f15 f16
 by_cases F:j<ins.length
 ·obtain rfl:ja=some ⟨jb,jo,none⟩:=HJ.out fun e=>by subst e;simp at F
  have ak:decide ((j:Int)<(ins.length:Int))=true:=by simpa using F
  have aV:(0:Int)≤(j:Int):=by omega
  have aW:(j:Int)<(ins.length:Int):=by omega
  obtain⟨x,hx⟩:∃x,ins[j]?=some x:=⟨ins[j]'F,jH F⟩;have ae:ins.take (j+1)=ins.take j++[x]:=by rw[List.take_add_one,hx];rfl
  have G:=HI.out wr U.below j x hx;have e0:=G.pe;have e1:=G.k;have e2:=G.s;rw[dY 3 j]at e0 e1 e2;have aX:IntKind.i64.wrap ((j:Int)+1)=((j+1:Nat):Int):=by
   have:=HL.out;rw[iC]<;>omega
  have M:Hid (_):=U;have L:Hid (_):=F;have af:Hid (_):=ae;have V:Hid (∀u,Below wr.heap.size wr u→Calls Tryz.prog 37 #[.pointer (some ⟨sp,0,none⟩),.int .i64 x.pe] u fun e w'=>e=.returned (.bool (decide (0≤x.pe∧x.pe<(n:Int))))∧w'=u):=fun u hB=>FN u sp _ n _ (Hc.out u (M.out.below.trans (hB.mono M.out.below.size))) x.pe
  clear U F ae G hj hx;have H:Below wr.heap.size wr (wr.alloc (.cells #[.int .i64 x.pe,.int .i64 x.k,.string (strOfNums x.d)] 43)):=(iJ _ _).alloc (dD _) _
  by_cases hp:0≤x.pe∧x.pe<(n:Int)
  ·rw[show decide (0≤x.pe∧x.pe<(n:Int))=true by simpa using hp]at V;obtain⟨pk,O⟩:∃pk:Nat,x.pe=(pk:Int):=⟨x.pe.toNat,by omega⟩;have ag:Hid (pk<n∧x.pe=(pk:Int)):=⟨by omega,O⟩;rw[O]at e0 V H;clear hp O
   go_wp2_with (go_at_call 37;go_loud (refine jP (V.out _ ji) ?_);go_loud (rintro e w1 ⟨rfl,rfl⟩))
   have z:=M.out.keep H;obtain⟨ms,m,N,h2,X,R,h5⟩:=z.rows;have f:=ag.out.1;have ap:(kF pk (ins.take j)).length≤4398046511103:=by
    have e1:(kF pk (ins.take j)).length≤(ins.take j).length:=gj _ _;have e2:(ins.take j).length≤ins.length:=by rw[jw];omega
    have:=HL.out;omega
   have I:(wr.alloc (.cells #[.int .i64 (pk:Int),.int .i64 x.k,.string (strOfNums x.d)] 43)).heap[wr.heap.size]?=some (.cells #[.int .i64 (pk:Int),.int .i64 x.k,.string (strOfNums x.d)] 43 (0,0)):=jq wr _;have ah:w.heap.size<wr.heap.size:=by
    have:=M.out.rows;obtain⟨ms,m,q,_⟩:=this;exact(dv.1 q).1
   have J:∀b,(m pk).ownBlock=some b→w.heap.size<b∧b<wr.heap.size:=fun b hb=>by
    obtain⟨aY,m',q1,_,q3,q4,_⟩:=M.out.rows;have e:m' pk=m pk:=by
     have r1:=(H.block w.heap.size ah).trans q1;rw[N]at r1;simp only[dW,jE]at r1;have r2:=q3 pk f;rw[←r1.1,X pk f]at r2;exact(ff r2).symm
    have:=jA (q4 pk f).1 b (by rw[e];exact hb);exact⟨by omega,this.2⟩
   generalize aZ:wr.alloc (.cells #[.int .i64 (pk:Int),.int .i64 x.k,.string (strOfNums x.d)] 43)=w2 at N R I H z ⊢;have ai:wr.heap.size<w2.heap.size:=(dv.1 I).1;have m0:w2.cell? ⟨w.heap.size,pk,none⟩=some (m pk):=(kh N pk).trans (X pk f);have z0:=lj N pk;have hIn:rS w2 wr.heap.size 0 (pk:Int) x.k x.d:=⟨kh I 0,kh I 1,kh I 2⟩;have al:(m pk).ownBlock≠some wr.heap.size:=fun e=>by have:=(J _ e).2;omega
   have am:(m pk).ownBlock≠some w.heap.size:=fun e=>by have:=(J _ e).1;omega
   clear e0 e1 e2 V;refine uj (D:=[]) (ops:=qk) (val:=oy w.heap.size n wr.heap.size pk x.k x.d (w.heap.size+1) w2.heap.size (kF pk (ins.take j)).length (lU (kF pk (ins.take j))) (m pk)) (fix:=[(0,.pointer (some ⟨sp,0,none⟩)),(5,.slice (some ⟨w.heap.size,0,none⟩) n n),(7,.pointer (some ⟨wr.heap.size,0,none⟩)),(14,.slice (some ⟨jb,jo,none⟩) ins.length jc),(15,.int .i64 (ins.length:Int)),(16,.int .i64 (j:Int))]) (T:=38) (Post:=fun _ w'=>∃S C,w2.grownBy S (m pk).ownBlock∧S.ownsRow (w.heap.size+1) 43 3 C ((kF pk (ins.take j)).length+1) (lU (kF pk (ins.take j))++qP pk x.k x.d)∧lE Pl S C∧(C.ownBlock=(m pk).ownBlock∨∃j,C.ownBlock=some j∧w2.heap.size≤j)∧w'=S.setCell ⟨w.heap.size,pk,none⟩ C) (n:=12) (ia:=10) (mem:=BD) (A0:=fun u=>Below w2.heap.size w2 u) (Rel:=fun u=>w2.grownBy u (m pk).ownBlock) (by kernel_rfl) S9 SY SZ (by decide) S3 SX (fun a b hB h=>h.trans (hB.mono h.size)) (fun a b hB h=>Tb h hB)
    (fun i o a u G an ho r E hA hR K hK=>S4 (by omega) ai f m0 hIn al i o a u G an ho (r (5,.slice (some ⟨w.heap.size,0,none⟩) n n) (by simp)) (r (7,.pointer (some ⟨wr.heap.size,0,none⟩)) (by simp)) E hA hR K hK)
    (fun o a u ho r E hA hR K hK=>S5 (by omega) (by omega) (R pk f).1 (R pk f).2 o a u ho E hA hR (by omega) K hK)
    (fun o a u ho r E hR K hK=>S6 (by omega) am m0 z0 o a u ho E hR K hK)
    (fun a u kW hsz r hP=>?_) rfl rfl ?_ ⟨⟨rfl,rfl,rfl,dD _,fun _ _=>rfl⟩,⟨rfl,rfl,rfl,dD _,fun _ _ _=>rfl⟩⟩
   rotate_left
   ·intro y hy;simp at hy;rcases hy with rfl|rfl|rfl|rfl|rfl|rfl<;>rfl
   have f0:a.tmps[0]?=some (.pointer (some ⟨sp,0,none⟩)):=r (0,.pointer (some ⟨sp,0,none⟩)) (by simp);have f5:a.tmps[5]?=some (.slice (some ⟨w.heap.size,0,none⟩) n n):=r (5,.slice (some ⟨w.heap.size,0,none⟩) n n) (by simp);have f14:a.tmps[14]?=some (.slice (some ⟨jb,jo,none⟩) ins.length jc):=r (14,.slice (some ⟨jb,jo,none⟩) ins.length jc) (by simp);have f15:a.tmps[15]?=some (.int .i64 (ins.length:Int)):=r (15,.int .i64 (ins.length:Int)) (by simp);have f16:a.tmps[16]?=some (.int .i64 (j:Int)):=r (16,.int .i64 (j:Int)) (by simp);obtain⟨S,C,g1,g2,g3,g4,rfl⟩:=hP;have aj:Hid (Given w (S.setCell ⟨w.heap.size,pk,none⟩ C) n w.heap.size (ins.take (j+1))):=by
    rw[af.out];exact Given.give z.below (dD _) N h2 X R h5 f ag.out.2 g1 g2 g3 g4
   clear r g1 g2 g3 g4 N h2 X R h5 m0 z0 hIn I H z;generalize S.setCell ⟨w.heap.size,pk,none⟩ C=w3 at aj ⊢;obtain⟨tm,df⟩:=a;simp only at kW hsz f0 f5 f14 f15 f16;subst kW;obtain⟨q0,q1,q2,q3,q4,q5,q6,q7,q8,q9,a0,a1,a2,a3,a4,a5,a6,a7,a8,a9,ba,bb,bd,be,bf,bg,bh,bi,bj,bk,bl,bm,bn,bo,bp,bq,br,bs,rfl⟩:=FO hsz;simp only[fV,gB,fW,dW]at f0 f5 f14 f15 f16;subst f0 f5 f14 f15 f16
   go_wp2_with fail
   refine⟨⟨rfl,rfl,rfl,rfl,rfl,rfl,j+1,rfl,L.out,aj.out⟩,?_⟩;simp only[BE,fV,gB,fW];have:=L.out;omega
  ·have HN:Hid (∀i,i<n→x.pe≠(i:Int)):=fun i G e=>hp ⟨by omega,by omega⟩
   rw[show decide (0≤x.pe∧x.pe<(n:Int))=false by simpa using hp]at V;clear hp
   go_wp2_with (go_at_call 37;go_loud (refine jP (V.out _ ji) ?_);go_loud (rintro e w1 ⟨rfl,rfl⟩))
   have z:=M.out.keep H;have ao:Given w (wr.alloc (.cells #[.int .i64 x.pe,.int .i64 x.k,.string (strOfNums x.d)] 43)) n w.heap.size (ins.take (j+1)):=by
    rw[af.out];obtain⟨ms,m,N,h2,X,R,h5⟩:=z.rows;exact⟨z.below,z.new,ms,m,N,h2,X,fun i G=>by rw[FP (HN.out i G)];exact R i G,h5⟩
   refine⟨⟨rfl,rfl,rfl,rfl,rfl,rfl,j+1,rfl,L.out,ao⟩,?_⟩;simp only[BE,fV,gB,fW];have:=L.out;omega
 ·have ak:decide ((j:Int)<(ins.length:Int))=false:=by simpa using F
  obtain rfl:j=ins.length:=by omega
  rw[List.take_length]at U;have M:Hid (_):=U;clear U hj
  go_wp2_with fail
  exact iQ (v:=.slice (some ⟨w.heap.size,0,none⟩) n n) (by simp[results,Tryz.results36,go_sem]) rfl ⟨rfl,M.out⟩
end
end Go.Proofs.YtjnkcibpkkjniaaGreat
namespace Go.Proofs.YtjnkcibpkkjniaaGreat.kN
section
open Go Go.Conc Go.RowKit Go.Proofs.YtjnkcibpkkjniaaGreat.kx
theorem Tc:∀(l:List ky)(j:Nat)(x:ky),l[j]?=some x→(lU l)[3*j]?=some (.int .i64 x.pe)∧(lU l)[3*j+1]?=some (.int .i64 x.k)∧(lU l)[3*j+2]?=some (.string (strOfNums x.d)):=by
 intro l
 induction l with
 |nil=>intro j x h;simp at h
 |cons y l a =>
  intro j x h;have e:lU (y::l)=.int .i64 y.pe::.int .i64 y.k::.string (strOfNums y.d)::lU l:=rfl;rw[e]
  cases j with
  |zero=>simp at h;subst h;exact⟨rfl,rfl,rfl⟩
  |succ j =>
   simp only[gB]at h;obtain⟨b,k1,k2⟩:=a j x h;rw[show 3*(j+1)=3*j+1+1+1 by omega];simp only[gB,dQ];refine⟨?_,?_,?_⟩
   ·exact b
   ·exact k1
   ·exact k2
variable {w:World} {B:Nat} {v:Value}
theorem Td{c:Nat}{xs:List Value}(h:w.ownsRow B 43 3 v c xs)(f:lE Pl w v):tY w v (fun b=>v.ownBlock=some b):=by
 rcases h.2 with⟨rfl,_⟩|⟨g,cap,cur,rfl,_,a,_⟩
 ·exact⟨fun SC ρ _ _=>@VR.mI SC ρ 0 0,fun b hb=>(by cases hb),fun b hb=>(by cases hb)⟩
 ·have hp:mq w g:=⟨cur,_,_,a,f g cur _ _ rfl a,rfl⟩;have:=tY.row (n:=c) (c:=cap) hp;refine⟨fun SC ρ hb m=>this.rel SC ρ hb fun b e=>m b (by subst e;rfl),fun b hb=>this.reach b ?_,fun b hb=>this.plain b ?_⟩
  ·have e:some g=some b:=hb;exact(ff e).symm
  ·have e:some g=some b:=hb;exact(ff e).symm
theorem FV{l:List ky}(h:w.ownsRow B 43 3 v l.length (lU l)):Bx w (fun b=>v.ownBlock=some b) v l:=by
 rcases h.2 with⟨rfl,e⟩|⟨g,cap,cur,rfl,_,a,_,_,_,f⟩
 ·exact .inl ⟨js e,none,0,rfl⟩
 ·refine .inr ⟨g,0,cap,rfl,rfl,fun j x hx=>?_⟩;obtain⟨m,o,q⟩:=Tc l j x hx;have y:j<l.length:=(iV.1 hx).1;have key:∀r u,r<3→(lU l)[3*j+r]?=some u→w.cell? ⟨g,0+3*j+r,none⟩=some u:=fun r u hr hu=>by
   rw[dG,kh a];have:(cur.toList.take (l.length*3))[3*j+r]?=some u:=by rw[f];exact hu
   rw[jF (by omega)]at this;rw[←jR];exact this
  exact⟨key 0 _ (by decide) m,key 1 _ (by decide) o,key 2 _ (by decide) q⟩
theorem Te{w1 w':World}{n:Nat}{ins:List ky}(r:v=.slice (some ⟨w1.heap.size,0,none⟩) n n)(h:Given w1 w' n w1.heap.size ins):∃nb nc ms m E,Bz w1 w' n (fun i=>kF i ins) v nb nc ms m E:=by
 obtain⟨ms,m,u,C,y,e,z⟩:=h.rows;refine⟨w1.heap.size,n,ms,m,fun i b=>(m i).ownBlock=some b,r,dD _,⟨h.below.os,h.below.size,fun b hb=>h.below.block b hb⟩,u,y,fun i a=>Td (e i a).1 (e i a).2,fun i a b hb=>?_,fun i i' a f o b hb q=>z i i' a f o b hb q,fun i a=>FV (e i a).1⟩;have:=(jA (e i a).1 b hb).1;omega
def tA (n:Nat) (x:Nat→SV×List Int×Bool) (v:Value) (w:World):Prop:=∃B,w.ownsRow B 41 3 v (oY (fun i=>(x i).2) n) (pX (fun i=>(x i).2) n)
theorem FW{cs:List Frame}{Q:Frame→List Frame→World→Prop}{xs:List Frame}{sp:Nat}{xv:Value}{now t kV:Int}{kY:Value}{RS:Value→World→Prop}(D:∀w,Calls Tryz.prog 33 #[.int .i64 now,.int .i64 t] w fun e w'=>e=.returned (.int .i64 kV)∧w'=w)(r:w.heap[sp]?=some (.cells #[.int .i64 now,xv] 91 (0,0)))(y:∀w1,w1.heap=(w.setCell ⟨sp,0,none⟩ (.int .i64 kV)).heap→w1.os=w.os→Calls Tryz.prog 36 #[.pointer (some ⟨sp,0,none⟩),kY] w1 fun e w'=>∃v,e=.returned v∧RS v w')(z:∀v w2,RS v w2→GX cs Q (qj sp now t kV kY v) xs w2)(h:lu kY=false):GX cs Q ((base 17).at { tmps:=#[.pointer (some ⟨sp,0,none⟩),.int .i64 t,kY]++Array.replicate 19 undef,defers:=[] } [.code (Tryz.f17.body.getD .skip)]) xs w:=by
 have c0:w.cell? ⟨sp,0,none⟩=some (.int .i64 now):=kh r 0;have M:=lj r 0;have E:Hid (_):=z;have q:Hid (_):=y;clear z y
 (have F:=nF;have G:=ow;have H:=nZ;have I:=m7;have J:=nG;have L:=nH);simp only[Tryz.f17,eE];walk_nrm;refine GX.seq ?_
 (refine GX.region ?_;simp only[gF,gG,gH,dG,List.range,List.range.loop])
 ((refine GX.vz w ?_);walk_nrm);refine GX.kT ?_;refine GX.seq ?_
 (refine GX.region ?_;simp only[gF,gG,gH,Nat.reduceAdd,dG,List.range,List.range.loop])
 iterate 6 ((refine GX.vz w ?_);walk_nrm)
 refine GX.c rfl rfl (by kernel_rfl) (fun T K m=>?_);unfold execOp;go_simp;refine m _ _ _ (fun C=>?_);clear m K;refine jP (D _) ?_;rintro e w' ⟨rfl,rfl⟩;refine⟨_,rfl,GX.lZ (v:=w) ?_ rfl rfl⟩;walk_nrm;clear C
 iterate 2 ((refine GX.vz w ?_);walk_nrm)
 refine GX.u rfl rfl (by kernel_rfl) (fun T K m=>?_);unfold execOp;go_simp;refine m _ ?_;clear m K;refine GX.lZ (v:=w.setCell ⟨sp,0,none⟩ (.int .i64 kV)) ?_ rfl rfl;generalize o:w.setCell ⟨sp,0,none⟩ (.int .i64 kV)=w1;walk_nrm;refine GX.kT ?_;refine GX.seq ?_
 (refine GX.region ?_;simp only[gF,gG,gH,Nat.reduceAdd,dG,List.range,List.range.loop])
 iterate 2 ((refine GX.vz w1 ?_);walk_nrm)
 ((refine GX.vz (hu:=by simp[mR,Op.operands,Act.eval,h]) w1 ?_);walk_nrm);refine GX.c (hu:=by simp[mR,Op.operands,Call.operands,Act.eval,h,show ∀a,lu (.pointer a)=false from fun _=>rfl,show ∀f a b,lu (.func f a b)=false from fun _ _ _=>rfl]) rfl rfl (by kernel_rfl) (fun T K m=>?_);unfold execOp;go_simp;refine m _ _ _ (fun C=>?_);clear m K;refine jP (q.out _ (by rw[o];rfl) (by rw[←o];rfl)) ?_;rintro e w2 ⟨v,rfl,hr⟩;refine⟨_,rfl,?_⟩;walk_nrm;have:=E.out v w2 hr;unfold qj xQ at this;simp only[Tryz.f17]at this;exact this
end
end Go.Proofs.YtjnkcibpkkjniaaGreat.kN
namespace Go.Proofs.YtjnkcibpkkjniaaGreat
section
open Go Go.RowKit
def lC (now t:Int):Int:=if t<0 then now else if 1099511627776-now<t then 1099511627776 else now+t
theorem FX{now t:Int}(h:0≤now∧now≤1099511627776):now≤lC now t∧lC now t≤1099511627776:=by
 unfold lC;split
 ·omega
 ·split<;>omega
theorem FY(now t:Int)(h:0≤now∧now≤1099511627776)(w:World):Calls Tryz.prog 33 #[.int .i64 now,.int .i64 t] w fun e w'=>e=.returned (.int .i64 (lC now t))∧w'=w:=by
 have k2:wrap64 (1099511627776-now)=1099511627776-now:=by unfold wrap64;omega
 by_cases a:t<0
 ·have e:lC now t=now:=by unfold lC;rw[dr a]
  rw[e];have m:¬1099511627776-now<0:=by omega
  have f:wrap64 (now+0)=now:=by unfold wrap64;omega
  have o:wrap64 now=now:=by unfold wrap64;omega
  go_enter Tryz.func33,Tryz.ntmps33
  go_wp2
  all_goals(exact iQ (v:=.int .i64 now) (by simp[results,Tryz.results33,go_sem]) rfl ⟨rfl,rfl⟩)
 ·by_cases b:1099511627776-now<t
  ·have e:lC now t=1099511627776:=by unfold lC;rw[dt a,dr b]
   rw[e];have f:wrap64 (now+(1099511627776-now))=1099511627776:=by unfold wrap64;omega
   go_enter Tryz.func33,Tryz.ntmps33
   go_wp2
   all_goals(exact iQ (v:=.int .i64 1099511627776) (by simp[results,Tryz.results33,go_sem];omega) rfl ⟨rfl,rfl⟩)
  ·have e:lC now t=now+t:=by unfold lC;rw[dt a,dt b]
   rw[e];exact SA now t h.1 (by omega) (by omega) w
end
end Go.Proofs.YtjnkcibpkkjniaaGreat
namespace Go.Proofs.YtjnkcibpkkjniaaGreat.kN
section
open Go Go.Conc Go.RowKit Go.Proofs.YtjnkcibpkkjniaaGreat.kx
variable {cs x2:List Frame} {Q:Frame→List Frame→World→Prop} {c bc:Frame} {ac:Act} {ops:Array Oper} {i sp xb xc n:Nat} {l:List Nat} {kk:List Item} {w:World} {Z:List Value} {now au id t kV:Int} {d:Nat→SD} {kY:Value}
theorem Tf(ak:c=bc.at ac (.inRegion ops (i::l)::kk))(hS:xR w sp xb xc n Z now au id d)(hn:0<n)(aa:n<2147483647)(hid:0≤id)(HL:∀w,Calls Tryz.prog 33 #[.int .i64 now,.int .i64 t] w fun e w'=>e=.returned (.int .i64 kV)∧w'=w)(al:lA kV){ins:Nat→List ky}(am:∀i,i<n→FH kV (d i) (ins i))(HS:∀w1,w1.heap=(w.setCell ⟨sp,0,none⟩ (.int .i64 kV)).heap→w1.os=w.os→Calls Tryz.prog 36 #[.pointer (some ⟨sp,0,none⟩),kY] w1 fun e w'=>∃v,e=.returned v∧∃nb nc ms m E,Bz w1 w' n ins v nb nc ms m E){RO:Value→World→Prop}(HO:∀w3 RB rep v,w.heap.size≤w3.heap.size→yD n rep v→w3.heap[RB]?=some (.cells rep 140 (0,0))→(∀i,i<n→∃a l c,v i=.agg #[.slice a l c,.bool (lF au id kV d ins i).2.2]∧nv w3 (.slice a l c) (lF au id kV d ins i).2.1)→∀w4,w4.heap=w3.heap→w4.os=w3.os→Calls Tryz.prog 34 #[.slice (some ⟨RB,0,none⟩) n n] w4 fun e w'=>∃v,e=.returned v∧RO v w'∧Old w3 w')(an:∀v w',RO v w'→lu v=false)(k:∀w' F d',xR w' sp xb xc n Z kV au id d'→(∀i,i<n→(d' i).s=(lF au id kV d ins i).1∧(d' i).p.au=(d i).p.au∧(d' i).p.hold=(d i).p.hold∧((lF au id kV d ins i).1.st=0→(d' i).v=.slice none 0 0))→RO F w'→(∀b,b<w.heap.size→b≠sp→b≠xb→(∀i,i<n→¬(d i).nm b)→w'.heap[b]?=w.heap[b]?∧∀i,i<n→¬(d' i).nm b)→GX cs Q (c.finish F) x2 w')(ab:lu kY=false:=by rfl):GX cs Q ((base 17).at { tmps:=#[.pointer (some ⟨sp,0,none⟩),.int .i64 t,kY]++Array.replicate 19 undef,defers:=[] } [.code (Tryz.f17.body.getD .skip)]) (c::x2) w:=by
 have aB:sp<w.heap.size:=(dv.1 hS.kp).1;have ad:xb<w.heap.size:=hS.ss.lt;have u:∀i,i<n→∀b,(d i).nm b→b<w.heap.size:=fun i f b hb=>by obtain⟨cur,ty,fr,q,_⟩:=(hS.ss.rows i f b hb).2;exact(dv.1 q).1
 refine FW (RS:=fun v w'=>∃w1 nb nc ms m E,w1.heap=(w.setCell ⟨sp,0,none⟩ (.int .i64 kV)).heap∧w1.os=w.os∧Bz w1 w' n ins v nb nc ms m E) HL hS.kp (fun w1 Y e2=>(HS w1 Y e2).mono fun e w' ⟨v,k1,nb,nc,ms,m,E,k2⟩=>⟨v,k1,w1,nb,nc,ms,m,E,Y,e2,k2⟩) ?_ ab;rintro v w2 ⟨w1,nb,nc,ms,m,E,Y,e2,hO⟩;obtain⟨rfl,aC,o,ae,ao,af,z,C,hx⟩:=hO;have aD:w1.heap.size=w.heap.size:=by rw[Y];simp[World.setCell]
 have ag:∀b,b≠sp→w1.heap[b]?=w.heap[b]?:=fun b hb=>by rw[Y];exact kA (dJ hb) 0 _
 have R:∀b,b<w.heap.size→b≠sp→w2.heap[b]?=w.heap[b]?:=fun b hb hs=>(o.block b (by omega)).trans (ag b hs)
 have G:w2.heap[sp]?=some (.cells #[.int .i64 kV,.slice (some ⟨xb,0,none⟩) n xc] 91 (0,0)):=by
  rw[o.block sp (by omega),Y,lp hS.kp];rfl
 have H:n7 w2 xb n Z au id d:=hS.ss.keep fun b hb=>by
  rcases hb with rfl|⟨i,f,hb⟩
  ·exact R b ad (dJ hS.ne)
  ·exact R b (u i f b hb) fun e=>hS.nm i f (e▸hb)
 have ah:∀i,i<n→∀b,E i b→b≠xb∧b≠sp∧b≠nb:=fun i f b hb=>by have:=z i f b hb;exact⟨by omega,by omega,this.2⟩
 have ap:∀i i',i<n→i'<n→∀b,E i b→¬(d i').nm b:=fun i i' f aq b hb ar=>by have:=(z i f b hb).1;have:=u i' aq b ar;omega
 have av:∀i,i<n→¬(d i).nm nb:=fun i f hb=>by have:=u i f nb hb;omega
 have hI:=SH (nc:=nc) G H hS.ne hS.nm hn aa ae ao af ah C ap (by omega) av al hid am hx;have J:∀b,qI n (rT xb n Z d E) b→b=xb∨∃i,i<n∧((d i).nm b∨E i b):=fun b ⟨i,f,y,pl,hy,e⟩=>by
  rcases tx hy with⟨rfl,rfl⟩|⟨_,k,rfl⟩
  ·exact .inl e.symm
  ·obtain rfl:y=b:=e;exact .inr ⟨i,f,k⟩
 have K:¬qI n (rT xb n Z d E) sp:=fun h=>by
  rcases J sp h with e|⟨i,f,e|e⟩
  ·exact hS.ne e
  ·exact hS.nm i f e
  ·exact(ah i f sp e).2.1 rfl
 refine FI hI (fun i f v w' hR=>hR.2) (fun w3 RB rep v I S aF aw ai ax aE T hsz U=>?_);obtain⟨d',V,ay,D,L,aG⟩:=Sz H rfl hn S;have M:uW (qj sp now t kV kY (.slice (some ⟨nb,0,none⟩) n nc)) sp:=⟨0,_,by rw[SJ];rfl,rfl,.ptr _⟩;have N:qj sp now t kV kY (.slice (some ⟨nb,0,none⟩) n nc)∈rL ⟨sp,0,kV,xb,0,n,xc,nb,0,n,nc⟩::qj sp now t kV kY (.slice (some ⟨nb,0,none⟩) n nc)::(c::x2):=List.mem_cons_of_mem _ (List.mem_cons_self ..);have O:w3.heap[sp]?=some (.cells #[.int .i64 kV,.slice (some ⟨xb,0,none⟩) n xc] 91 (0,0)):=(T _ N sp M K).2.trans G;have X:¬I sp:=aw _ N sp M K;refine FJ ak (RO:=fun v w'=>RO v w'∧Old w3 w') (fun w4 e3 e4=>(HO w3 RB rep v (by have:=o.size;omega) ai ax D w4 e3 e4).mono fun e w' ⟨v,k1,k2,k3⟩=>⟨v,k1,k2,k3⟩) ?_ (fun v w' h=>an v w' h.1);rintro v w' ⟨aj,r⟩;refine k w' v d' ⟨(r.block sp (dv.1 O).1).trans O,V.keep fun b hb=>?_,hS.ne,fun i f hb=>X (L i f sp hb)⟩ ay aj (fun b hb n1 n2 n3=>?_)
 ·rcases hb with rfl|⟨i,f,hb⟩
  ·exact r.block _ V.lt
  ·obtain⟨cur,ty,fr,q,_⟩:=(V.rows i f b hb).2;exact r.block _ (dv.1 q).1
 ·have az:¬qI n (rT xb n Z d E) b:=fun h=>by
   rcases J b h with e|⟨i,f,e|e⟩
   ·exact n2 e
   ·exact n3 i f e
   ·have:=(z i f b e).1;omega
  have hq:=U b (by have:=o.size;omega) az;have h3:=hq.2.2.trans (R b hb n1);exact⟨(r.block b (dv.1 (h3.trans (dw hb))).1).trans h3,fun i f aA=>hq.1 (L i f b aA)⟩
variable {ja:Option Addr} {jb jo jc:Nat} {ins:List ky}
theorem Th(I:c=bc.at ac (.inRegion ops (i::l)::kk))(hS:xR w sp xb xc n Z now au id d)(U:0<n)(u:n<2147483647)(hid:0≤id)(V:∀w,Calls Tryz.prog 33 #[.int .i64 now,.int .i64 t] w fun e w'=>e=.returned (.int .i64 kV)∧w'=w)(J:lA kV)(K:∀i,i<n→mA (d i).s∧((d i).s.st=0→(d i).v=.slice none 0 0)∧0≤(d i).p.hold∧(d i).p.hold≤65535)(L:ins≠[]→ja=some ⟨jb,jo,none⟩)(M:ins≠[]→jb<w.heap.size)(N:ins≠[]→jb≠sp)(hI:pU w jb jo ins)(hlen:ins.length≤4398046511103)(hb:∀x∈ins,Bytes x.d∧x.d.length≤1152921504606846976)(k:∀w' m d',xR w' sp xb xc n Z kV au id d'→(∀i,i<n→(d' i).s=(lF au id kV d (fun i=>kF i ins) i).1∧(d' i).p.au=(d i).p.au∧(d' i).p.hold=(d i).p.hold∧((lF au id kV d (fun i=>kF i ins) i).1.st=0→(d' i).v=.slice none 0 0))→tA n (lF au id kV d (fun i=>kF i ins)) m w'∧(w.heap.size≤w'.heap.size∧∀g,m.ownBlock=some g→w.heap.size≤g)→(∀b,b<w.heap.size→b≠sp→b≠xb→(∀i,i<n→¬(d i).nm b)→w'.heap[b]?=w.heap[b]?∧∀i,i<n→¬(d' i).nm b)→GX cs Q (c.finish m) x2 w'):GX cs Q ((base 17).at { tmps:=#[.pointer (some ⟨sp,0,none⟩),.int .i64 t,.slice ja ins.length jc]++Array.replicate 19 undef,defers:=[] } [.code (Tryz.f17.body.getD .skip)]) (c::x2) w:=by
 have S:sp<w.heap.size:=(dv.1 hS.kp).1;refine Tf I hS U u hid V J (ins:=fun i=>kF i ins) (fun i f=>?_) (fun w1 F e2=>?_) (RO:=fun v w'=>tA n (lF au id kV d (fun i=>kF i ins)) v w'∧w.heap.size≤w'.heap.size∧∀g,v.ownBlock=some g→w.heap.size≤g) (fun w3 RB rep v o y O q w4 z X=>?_) (fun v w' h=>?_) k (by cases ja<;>rfl)
 ·obtain⟨k1,k2,Y⟩:=K i f;refine⟨k1,k2,Y,?_,fun x hx=>hb x (gi.1 hx).1⟩;have F:(kF i ins).length≤ins.length:=gj _ _;omega
 ·have T:w1.heap.size=w.heap.size:=by rw[F];simp[World.setCell]
  have C:w1.heap[sp]?=some (.cells #[.int .i64 kV,.slice (some ⟨xb,0,none⟩) n xc] 91 (0,0)):=by
   rw[F,lp hS.kp];rfl
  have R:pU w1 jb jo ins:=by
   by_cases h:ins=[]
   ·subst h;intro j x hx;simp at hx
   ·exact hI.keep (by rw[F];exact kA (dJ (N h)) 0 _)
  refine(FU (xv:=some ⟨xb,0,none⟩) (xc:=xc) (kh C 1) (by omega) L (fun h=>by have:=M h;omega) R hlen).mono ?_;rintro e w' ⟨rfl,hG⟩;exact⟨_,rfl,Te rfl hG⟩
 ·have D:w4.heap[RB]?=some (.cells rep 140 (0,0)):=by rw[z];exact O
  have E:∀i,∃sv,i<n→rep[i*2]?=some sv∧rep[i*2+1]?=some (.bool (lF au id kV d (fun i=>kF i ins) i).2.2)∧nv w4 sv (lF au id kV d (fun i=>kF i ins) i).2.1:=fun i=>by
   by_cases f:i<n
   ·obtain⟨a,l,c,G,H⟩:=q i f;obtain⟨sa,sl,sc,sb,r1,r2,r3⟩:=y.2 i f;rw[G]at r1;simp only[Value.agg.injEq,eL,eM,Value.bool.injEq,and_true]at r1;obtain⟨r4,r5⟩:=r1;refine⟨.slice a l c,fun _=>⟨by rw[r4];exact r2,by rw[r5];exact r3,H.keep fun b v j hc=>by simpa[World.cell?,z]using hc⟩⟩
   ·exact⟨.bool true,fun h=>absurd h f⟩
  have r:=fun i f=>iI (E i) f
  refine(FK (x:=fun i=>(lF au id kV d (fun i=>kF i ins) i).2) (sv:=fun i=>Classical.choose (E i)) D (by omega) (fun i f=>⟨(r i f).1,(r i f).2.1⟩) (fun i f=>(r i f).2.2)).mono ?_;rintro e w' ⟨v,rfl,G,H⟩;exact⟨v,rfl,⟨⟨_,G⟩,dE o (by have:=H.size;rwa[z]at this),fun g hg=>dE o (by have:=(jA G g hg).1;rwa[z]at this)⟩,Old.of H z X⟩
 ·obtain⟨⟨B,h1⟩,_⟩:=h;obtain⟨ao,cp,rfl,_⟩:=mV h1
  cases ao with
  |none=>rfl
  |some a=>rfl
def om (w:World) (sp n:Nat) (now au id:Int) (d:Nat→SD) (K:Nat→Prop):Prop :=
 (∀b,K b→b<w.heap.size∧b≠sp)∧((n=0∧w.heap[sp]?=some (.cells #[.int .i64 now,.slice none 0 0] 91 (0,0))) ∨
  (0<n∧∃xb xc Z,xR w sp xb xc n Z now au id d∧∀b,K b→b≠xb∧∀i,i<n→¬(d i).nm b))
theorem om.lt{w:World}{sp n:Nat}{now au id:Int}{d:Nat→SD}{K:Nat→Prop}(h:om w sp n now au id d K):sp<w.heap.size:=by
 rcases h.2 with⟨_,h⟩|⟨_,_,_,_,h,_⟩
 ·exact(dv.1 h).1
 ·exact(dv.1 h.kp).1
theorem om.keep{w w':World}{sp n:Nat}{now au id:Int}{d:Nat→SD}{K y:Nat→Prop}(h:om w sp n now au id d K)(hB:∀b,b<w.heap.size→(b≠sp→K b∨w'.heap[b]?=w.heap[b]?)∧(b=sp→w'.heap[b]?=w.heap[b]?))(D:w.heap.size≤w'.heap.size)(z:∀b,y b→K b∨(w.heap.size≤b∧b<w'.heap.size)):om w' sp n now au id d y:=by
 have kp:=h.lt;refine⟨fun b hb=>?_,?_⟩
 ·rcases z b hb with k|k
  ·have:=h.1 b k;exact⟨by omega,this.2⟩
  ·exact⟨k.2,by omega⟩
 ·rcases h.2 with⟨o,a⟩|⟨o,xb,xc,Z,a,r⟩
  ·exact .inl ⟨o,((hB sp kp).2 rfl).trans a⟩
  ·have u:xb<w.heap.size:=a.ss.lt;have m:∀i,i<n→∀b,(d i).nm b→b<w.heap.size:=fun i f b hb=>by obtain⟨cur,ty,fr,q,_⟩:=(a.ss.rows i f b hb).2;exact(dv.1 q).1
   refine .inr ⟨o,xb,xc,Z,⟨((hB sp kp).2 rfl).trans a.kp,a.ss.keep fun b hb=>?_,a.ne,a.nm⟩,fun b hb=>?_⟩
   ·rcases hb with rfl|⟨i,f,hb⟩
    ·exact((hB _ u).1 (dJ a.ne)).resolve_left fun k=>(r _ k).1 rfl
    ·exact((hB _ (m i f b hb)).1 fun e=>a.nm i f (e▸hb)).resolve_left fun k=>(r _ k).2 i f hb
   ·rcases z b hb with k|k
    ·exact r b k
    ·exact⟨by omega,fun i f C=>by have:=m i f b C;omega⟩
def pO (w:World) (kY:Value) (ins:List ky) (K:Nat→Prop):Prop:=∃(ja:Option Addr)(jb jo jc:Nat),kY=.slice ja ins.length jc∧(ins≠[]→ja=some ⟨jb,jo,none⟩)∧(ins≠[]→K jb)∧pU w jb jo ins
theorem Ti(M:c=bc.at ac (.inRegion ops (i::l)::kk))(X:Nat→SV×List Int×Bool)(kp:w.heap[sp]?=some (.cells #[.int .i64 now,.slice none 0 0] 91 (0,0)))(HL:∀w,Calls Tryz.prog 33 #[.int .i64 now,.int .i64 t] w fun e w'=>e=.returned (.int .i64 kV)∧w'=w)(N:ins≠[]→ja=some ⟨jb,jo,none⟩)(O:ins≠[]→jb<w.heap.size)(R:ins≠[]→jb≠sp)(hI:pU w jb jo ins)(hlen:ins.length≤4398046511103)(k:∀w' r,w'.heap[sp]?=some (.cells #[.int .i64 kV,.slice none 0 0] 91 (0,0))→tA 0 X r w'∧(w.heap.size≤w'.heap.size∧∀g,r.ownBlock=some g→w.heap.size≤g)→w.heap.size≤w'.heap.size→(∀b,b<w.heap.size→b≠sp→w'.heap[b]?=w.heap[b]?)→GX cs Q (c.finish r) x2 w'):GX cs Q ((base 17).at { tmps:=#[.pointer (some ⟨sp,0,none⟩),.int .i64 t,.slice ja ins.length jc]++Array.replicate 19 undef,defers:=[] } [.code (Tryz.f17.body.getD .skip)]) (c::x2) w:=by
 have ae:sp<w.heap.size:=(dv.1 kp).1;refine FW (RS:=fun v w'=>∃w1,w1.heap=(w.setCell ⟨sp,0,none⟩ (.int .i64 kV)).heap∧w1.os=w.os∧v=.slice (some ⟨w1.heap.size,0,none⟩) 0 0∧Given w1 w' 0 w1.heap.size ins) HL kp (fun w1 u e2=>?_) ?_ (by cases ja<;>rfl)
 ·have E:w1.heap.size=w.heap.size:=by rw[u];simp[World.setCell]
  have F:w1.heap[sp]?=some (.cells #[.int .i64 kV,.slice none 0 0] 91 (0,0)):=by
   rw[u,lp kp];rfl
  have S:pU w1 jb jo ins:=by
   by_cases h:ins=[]
   ·subst h;intro j x hx;simp at hx
   ·exact hI.keep (by rw[u];exact kA (dJ (R h)) 0 _)
  refine(FU (xv:=none) (xc:=0) (n:=0) (kh F 1) (by omega) N (fun h=>by have:=O h;omega) S hlen).mono ?_;rintro e w' ⟨rfl,D⟩;exact⟨_,rfl,w1,u,e2,rfl,D⟩
 rintro v w2 ⟨w1,u,e2,rfl,D⟩;have E:w1.heap.size=w.heap.size:=by rw[u];simp[World.setCell]
 have G:∀b,b≠sp→w1.heap[b]?=w.heap[b]?:=fun b hb=>by rw[u];exact kA (dJ hb) 0 _
 have hold:Old w1 w2:=⟨D.below.os,D.below.size,fun b hb=>D.below.block b hb⟩;have T:∀b,b<w.heap.size→b≠sp→w2.heap[b]?=w.heap[b]?:=fun b hb hs=>(hold.block b (by omega)).trans (G b hs)
 have o:w2.heap[sp]?=some (.cells #[.int .i64 kV,.slice none 0 0] 91 (0,0)):=by
  rw[hold.block sp (by omega),u,lp kp];rfl
 obtain⟨ms,m,U,_⟩:=D.rows;have q:∀{i:Nat}{C:Prop},i<0→C:=fun h=>absurd h (ik _)
 have V:∀b,¬qI 0 (fun _ _=>none) b:=fun b ⟨i,a,_⟩=>q a
 have hW:yC ⟨sp,0,kV,0,0,0,0,w1.heap.size,0,0,0⟩ (fun _=>undef) (fun _ _=>none) (fun _=>w2) (fun _=>#[]) (fun _ _ _=>False) w2 :=
  {hF:=⟨kh o 0,(kh o 1).trans (by rw[WI.KA rfl];rfl),(dv.1 o).1,by show(0:Nat)<_;decide⟩
   nl:=dD _
   hm:=fun i a=>q a
   qE:=⟨fun i i' a=>q a,fun i a=>q a⟩
   hr:=fun i a=>q a
   reach:=fun i a=>q a
   apart:=fun i a=>q a
   rel:=fun i a=>q a
   calls:=fun i a=>q a
   shape:=fun i a=>q a
   DV:=⟨_,_,U⟩
   own:=fun i a=>q a }
 refine FI hW (fun i a=>q a) (fun w3 RB rep v I Y ah ai af aa ag ab hsz z=>?_);have h3:∀b,b<w2.heap.size→w3.heap[b]?=w2.heap[b]?:=fun b hb=>(z b hb (V b)).2.2
 have aj:=hold.size;have H:=(h3 sp (by omega)).trans o;refine FJ M (RO:=fun v w'=>(tA 0 X v w'∧w.heap.size≤w'.heap.size∧∀g,v.ownBlock=some g→w.heap.size≤g)∧Old w3 w') (fun w4 L e4=>?_) ?_ (fun v w' h=>?_)
 ·have J:w4.heap[RB]?=some (.cells rep 140 (0,0)):=by rw[L];exact aa
  refine(FK (n:=0) (x:=fun i=>(X i).2) (sv:=fun i=>undef) J (by omega) (fun i a=>q a) (fun i a=>q a)).mono ?_;rintro e w' ⟨v,rfl,q1,q2⟩;have y:w.heap.size≤w3.heap.size:=by omega
  exact⟨v,rfl,⟨⟨_,q1⟩,dE y (by have:=q2.size;rwa[L]at this),fun g hg=>dE y (by have:=(jA q1 g hg).1;rwa[L]at this)⟩,Old.of q2 L e4⟩
 ·rintro v w' ⟨K,f⟩;have ak:w2.heap.size≤w3.heap.size:=hsz;refine k w' v ((f.block sp (by omega)).trans H) K (by have:=f.size;omega) fun b hb ad=>?_
  exact(f.block b (by omega)).trans ((h3 b (by omega)).trans (T b hb ad))
 ·obtain⟨⟨⟨B,h1⟩,_⟩,_⟩:=h;obtain⟨ao,cp,rfl,_⟩:=mV h1
  cases ao<;>rfl
theorem FZ(h:0≤now∧now≤1099511627776):lA (lC now t):=by
 have:=FX (t:=t) h;unfold lA;omega
theorem BF(m:c=bc.at ac (.inRegion ops (i::l)::kk)){K:Nat→Prop}(hS:om w sp n now au id d K)(o:n<2147483647)(hid:0≤id)(C:0≤now∧now≤1099511627776)(D:∀i,i<n→mA (d i).s∧((d i).s.st=0→(d i).v=.slice none 0 0)∧0≤(d i).p.hold∧(d i).p.hold≤65535)(J:pO w kY ins K)(hlen:ins.length≤4398046511103)(hb:∀x∈ins,Bytes x.d∧x.d.length≤1152921504606846976)(k:∀w' a d',om w' sp n (lC now t) au id d' K→(∀i,i<n→(d' i).s=(lF au id (lC now t) d (fun i=>kF i ins) i).1∧(d' i).p.au=(d i).p.au∧(d' i).p.hold=(d i).p.hold∧((lF au id (lC now t) d (fun i=>kF i ins) i).1.st=0→(d' i).v=.slice none 0 0))→tA n (lF au id (lC now t) d (fun i=>kF i ins)) a w'∧(w.heap.size≤w'.heap.size∧∀g,a.ownBlock=some g→w.heap.size≤g)→(∀b,K b→w'.heap[b]?=w.heap[b]?)→GX cs Q (c.finish a) x2 w'):GX cs Q ((base 17).at { tmps:=#[.pointer (some ⟨sp,0,none⟩),.int .i64 t,kY]++Array.replicate 19 undef,defers:=[] } [.code (Tryz.f17.body.getD .skip)]) (c::x2) w:=by
 obtain⟨ja,jb,jo,jc,rfl,q,r,hI⟩:=J;obtain⟨f,hS⟩:=hS;have u:ins≠[]→jb<w.heap.size:=fun h=>(f jb (r h)).1
 have y:ins≠[]→jb≠sp:=fun h=>(f jb (r h)).2
 rcases hS with⟨rfl,kp⟩|⟨G,xb,xc,Z,hS,e⟩
 ·refine Ti m (lF au id (lC now t) d (fun i=>kF i ins)) kp (FY now t C) q u y hI hlen (fun w' a E F H z=>k w' a d ⟨fun b hb=>⟨by have:=(f b hb).1;omega,(f b hb).2⟩,.inl ⟨rfl,E⟩⟩ (fun i L=>absurd L (ik _)) F fun b hb=>z b (f b hb).1 (f b hb).2)
 ·refine Th m hS G o hid (FY now t C) (FZ C) D q u y hI hlen hb (fun w' a d' E F H z=>k w' a d' ⟨fun b hb=>⟨?_,(f b hb).2⟩,.inr ⟨G,xb,xc,Z,E,fun b hb=>⟨(e b hb).1,(z b (f b hb).1 (f b hb).2 (e b hb).1 (e b hb).2).2⟩⟩⟩ F H fun b hb=>(z b (f b hb).1 (f b hb).2 (e b hb).1 (e b hb).2).1);have I:=(z b (f b hb).1 (f b hb).2 (e b hb).1 (e b hb).2).1;rw[dw (f b hb).1]at I;exact(dv.1 I).1
end
end Go.Proofs.YtjnkcibpkkjniaaGreat.kN
namespace Go.Proofs.YtjnkcibpkkjniaaGreat
section
open Go Go.Conc Go.RowKit Go.Proofs.YtjnkcibpkkjniaaGreat.kx Go.Proofs.YtjnkcibpkkjniaaGreat.kN
variable {W:World}
theorem P7{wS:World}(a:@tk j9 W wS)(hsz:wS.heap.size=W.heap.size){u e:Value}{m:Nat}{r:Nat→ky}(h:Sl W 3 u m (fun i=>(r i).cells))(hu:@uX j9 W e u)(hd:Dz W u):pO wS e ((List.range m).map r) (fun b=>b<wS.heap.size):=by
 obtain⟨ao,cap,rfl,y,D,z⟩:=h;rcases Eb hu hd y with rfl|⟨rfl,rfl,a',rfl⟩
 ·by_cases hm:m=0
  ·subst hm;exact⟨ao,0,0,cap,rfl,fun h=>absurd rfl h,fun h=>absurd rfl h,fun j x hx=>by simp at hx⟩
  obtain⟨b,o,rfl,f⟩:=z (by omega);have hb:b<wS.heap.size:=by
   rw[hsz];exact iK _ _ (f 0 (by omega) 0 _ rfl)
  refine⟨some ⟨b,o,none⟩,b,o,cap,by simp,fun _=>rfl,fun _=>hb,fun j x hx=>?_⟩;have q:j<m:=by
   have:=(iV.1 hx).1;simpa using this
  obtain rfl:r j=x:=by
   have:((List.range m).map r)[j]?=some (r j):=by simp[q]
   rw[this]at hx;exact ff hx
  have g:=fun k u C=>f j q k u C
  refine⟨?_,?_,?_⟩
  ·have:=@sI j9 W wS a _ _ _ (g 0 _ rfl) rfl;rw[show o+3*j=o+j*3+0 by omega];exact this
  ·have:=@sI j9 W wS a _ _ _ (g 1 _ rfl) rfl;rw[show o+3*j+1=o+j*3+1 by omega];exact this
  ·have:=@sI j9 W wS a _ _ _ (g 2 _ rfl) rfl;rw[show o+3*j+2=o+j*3+2 by omega];exact this
 ·exact⟨some a',0,0,0,rfl,fun h=>absurd rfl h,fun h=>absurd rfl h,fun j x hx=>by simp at hx⟩
def Arg (W:World) (ao:Option Addr):Prop:=∀a,ao=some a→∃C e fr,W.heap[a.block]?=some (.cells C e fr)
theorem AW{ao:Option Addr}(h:Arg W ao)(l c:Nat):@VR j9 (oH W) (.slice ao l c) (.slice ao l c):=by
 cases ao with
 |none=>exact @VR.mI j9 _ _ _
 |some a =>
  obtain⟨C,e,fr,hW⟩:=h a rfl;obtain⟨p,hp⟩:=AM hW;exact @VR.slice j9 _ _ _ _ _ ⟨by rw[sw];exact eP _,p,hp,(vV hp).1.symm,by rw[(vV hp).2];omega,rfl⟩
variable {P:Nat→Pr}
theorem P8:∀(m k:Nat),qK P k m=0→∀j,k≤j→j<k+m→mU (P j)=true:=by
 intro m
 induction m with
 |zero=>intro k _ j a b;omega
 |succ m f =>
  intro k h j a b;unfold qK at h
  by_cases hp:mU (P k)=true
  ·rw[dr hp]at h
   by_cases e:j=k
   ·rw[e];exact hp
   ·exact f (k+1) h j (by omega) (by omega)
  ·rw[dt hp]at h;omega
theorem P9{au id:Int}{n:Nat}(h:(mE au id n P).1=0):n≤8∧∀i,i<n→0≤(P i).hold∧(P i).hold≤65535:=by
 unfold mE at h
 by_cases a:qJ au id n=true
 ·rw[dr a]at h
  by_cases b:qK P 0 n=0
  ·refine⟨?_,fun i f=>?_⟩
   ·unfold qJ at a;simp only[ep,ej]at a;exact a.2
   ·have hp:=P8 n 0 b i (eP _) (by omega);unfold mU at hp;simp only[ep]at hp;have e:=hp.1.1.1.1.1.2;unfold holdB nR at e;simp only[eh,ep,ej,beq_iff_eq]at e;omega
  ·rw[dt b]at h;simp at h
 ·rw[dt a]at h;simp at h
end
end Go.Proofs.YtjnkcibpkkjniaaGreat
namespace Go.Proofs.YtjnkcibpkkjniaaGreat.kN
section
open Go
theorem Qa{C:Array Value}{n:Nat}(h:C.size=n):C=((List.range n).map fun i=>C.getD i undef).toArray:=by
 apply Array.ext
 ·simp[h]
 ·intro i a b;simp[a]
end
end Go.Proofs.YtjnkcibpkkjniaaGreat.kN
namespace Go.Proofs.YtjnkcibpkkjniaaGreat
section
open Go Go.RowKit
def oP (Q:Value→Prop) (w:World) (v:Value) (k:Nat):Prop:=∀g cur ty fr,v.ownBlock=some g→w.heap[g]?=some (.cells cur ty fr)→∀u∈cur.toList.drop k,Q u
theorem oP.nil(Q:Value→Prop)(w:World)(k:Nat):oP Q w (.slice none 0 0) k:=fun g _ _ _ h=>by cases h
variable {w:World}
theorem oP.keep{Q:Value→Prop}{w':World}{v:Value}{k:Nat}(h:oP Q w v k)(b:∀g,v.ownBlock=some g→w'.heap[g]?=w.heap[g]?):oP Q w' v k:=fun g cur ty fr a e=>h g cur ty fr a ((b g a).symm.trans e)
theorem Tj{P:Program}(Q:Value→Prop)(base:Nat)(t ty e:TypeId)(i:TypeInfo)(z:Value)(size bytes:Nat)(K:P.underlying t=some (.slice e))(L:P.info? e=some i)(M:i.zero=some z)(q:i.size=size)(F:i.bytes=bytes)(N:z.cells.size=size)(hsz:0<size)(v:Value)(n:Nat)(xs:List Value)(o:w.ownsRow base e size v n xs)(a:Addr)(m c:Nat)(news:List Value)(y:news.length=m*size)(f:∀j u,news[j]?=some u→w.cell? (a.add j)=some u)(X:∀u∈news,u.oneCell'=true)(C:n+m≤maxLen)(h:(n+m)*bytes≤140737488355328)(D:base≤w.heap.size)(G:∀u∈z.cells.toList,Q u)(O:oP Q w v (n*size)):∃v' w',(Builtin.append_ #[t,t] ty #[v,.slice (some a) m c]).run P w=.ok v' w'∧w'.ownsRow base e size v' (n+m) (xs++news)∧w.grownBy w' v.ownBlock∧oP Q w' v' ((n+m)*size)∧(v'.ownBlock=v.ownBlock∨v'.ownBlock=some w.heap.size):=by
 obtain⟨v',w',hr,Y,h3,h4⟩:=run_append_own (P:=P) w base t ty e i z size bytes K L M q F N hsz v n xs o a m c news y f X C h D;refine⟨v',w',hr,Y,h3,?_⟩;subst q;subst F;have R:=o.1;rcases o.2 with⟨rfl,rfl⟩|⟨g,cap,cur,rfl,aa,S,ab,ad,T,U⟩
 ·by_cases hm:m=0
  ·subst hm;have:v'=.slice none 0 0:=h4.2 ⟨rfl,rfl⟩;subst this;exact⟨oP.nil _ _ _,.inl rfl⟩
  ·have b:=run_append_nil (P:=P) w t ty e i z K L M a m c news y f (by omega) (by have:=C;simp only[maxLen]at this;omega) (by have hb:=h;simp only[dG]at hb;omega);rw[hr]at b;simp only[jS]at b;obtain⟨rfl,rfl⟩:=b;refine⟨fun k cur ty fr H E u hu=>?_,.inr rfl⟩
   cases H
   have V:=(jq w.drew _).symm.trans E
   cases V
   simp only[jr]at hu;rw[List.drop_left' (by rw[dG];exact y)]at hu;exact G u (xz (by omega) hu)
 ·by_cases r:n+m≤cap
  ·have I:n*i.size+news.length≤cur.size:=by rw[y,T,←ef];exact ek _ r
   have b:=run_append_room (P:=P) w t ty e i K L g n cap cur S a m c news y f X r I;rw[hr]at b;simp only[jS]at b;obtain⟨rfl,rfl⟩:=b;have hq:=O g cur e (0,0) rfl S;refine⟨fun k J pK fr H E u hu=>?_,.inl rfl⟩
   cases H
   rw[setRow_heap w g cur _ e _ S]at E
   cases E
   rw[List.drop_left' (by simp[jw,y,ef];omega)]at hu;rw[←List.drop_drop]at hu;exact hq u (jz hu)
  ·have holds:∀j u,xs[j]?=some u→w.cell? ((⟨g,0,none⟩:Addr).add j)=some u:=o.cells (g:=g) rfl;have b:=run_append_grow (P:=P) w t ty e i z K L M ⟨g,0,none⟩ n cap xs o.1 holds a m c news y f (by omega) (by have:=C;simp only[maxLen]at this;omega) (growslice_fits (by omega) h);rw[hr]at b;simp only[jS]at b;obtain⟨rfl,rfl⟩:=b;refine⟨fun k J pK fr H E u hu=>?_,.inr rfl⟩
   cases H
   have V:=(jq w.drew _).symm.trans E
   cases V
   simp only[jr]at hu;rw[List.drop_left' (by simp[R,y,ef])]at hu;exact G u (xz (by omega) hu)
end
section
open Go Go.RowKit
open Go.Proofs.YtjnkcibpkkjniaaGreat.kx (mq)
def Tk:Array Value:=#[.bool true,.int .u32 0,.int .i64 0,.int .i64 0,.int .i64 32]
def pD (w:World) (g:Nat):Prop:=w.heap[g]?=some (.cells Tk 162 (0,0))
variable {w w':World} {g:Nat}
theorem pD.keep(h:pD w g)(e:w'.heap[g]?=w.heap[g]?):pD w' g:=e.trans h
theorem pD.lt{w:World}{g:Nat}(h:pD w g):g<w.heap.size:=(dv.1 h).1
theorem pD.below(h:pD w g)(hB:Below w.heap.size w w'):pD w' g:=h.keep (hB.block g h.lt)
theorem F0(w:World):Calls Tryz.prog 57 #[] w fun e w'=>∃g,e=.returned (.slice (some ⟨g,0,none⟩) 1 1)∧w.heap.size≤g∧pD w' g∧Below w.heap.size w w':=by
 go_enter Tryz.func57,Tryz.ntmps57
 go_wp2_with fail
 exact iQ (v:=.slice (some ⟨w.heap.size,0,none⟩) 1 1) (by simp[results,Tryz.results57,go_sem]) rfl ⟨_,rfl,dD _,jL w _,ji⟩
theorem Tl:∃i z,vk 69 i z 7 88:=yZ (by kernel_rfl)
def zc (au hold oi oj wait:Int) (im ex:Value):List Value:=[.int .i64 au,.int .i64 hold,.int .i64 oi,.int .i64 oj,.int .i64 wait,im,ex]
end
section
open Go Go.RowKit
open Go.Proofs.YtjnkcibpkkjniaaGreat.kN (lh lO oL)
open Go.Proofs.YtjnkcibpkkjniaaGreat.kx (mq)
noncomputable def qm:Array Oper:=((Tryz.f29.body).bind (opsOf 5)).getD #[]
theorem Tm:lO qm=true:=by kernel_rfl
theorem Tn:qm.size=14:=by kernel_rfl
theorem F1{C:Array Value}(h:C.size=31):∃c0 c1 c2 c3 c4 M N O R S a b e lf f m o q r u y z D E F G H I J K L,C=#[c0,c1,c2,c3,c4,M,N,O,R,S,a,b,e,lf,f,m,o,q,r,u,y,z,D,E,F,G,H,I,J,K,L]:=by
 obtain⟨l⟩:=C
 match l,h with
 |c0::c1::c2::c3::c4::M::N::O::R::S::a::b::e::lf::f::m::o::q::r::u::y::z::D::E::F::G::H::I::J::K::L::[],_=>exact⟨_,_,_,_,_,_,_,_,_,_,_,_,_,_,_,_,_,_,_,_,_,_,_,_,_,_,_,_,_,_,_,rfl⟩
end
section
open Go Go.RowKit
open Go.Proofs.YtjnkcibpkkjniaaGreat.kx (mq)
end
section
open Go Go.RowKit
theorem To:(Tryz.prog.info? 162).map (fun i=>(i.zero,i.size,i.bytes))=some (some (.agg #[.bool false,.int .u32 0,.int .i64 0,.int .i64 0,.int .i64 0]),5,32):=by kernel_rfl
def flat (c:Nat→List Value):Nat→List Value
 |0=>[]
 |n+1=>flat c n++c n
variable {c:Nat→List Value} {size:Nat}
theorem zd:∀n,(∀i<n,(c i).length=size)→(flat c n).length=n*size:=by
 intro n
 induction n with
 |zero=>intro _;simp[flat]
 |succ n a=>intro h;simp only[flat,jh,a (fun i b=>h i (by omega)),h n (by omega),Nat.succ_mul]
theorem BG{u:Value}:∀n,u∈flat c n→∃i<n,u∈c i:=by
 intro n
 induction n with
 |zero=>intro h;simp[flat]at h
 |succ n b =>
  intro h;rcases gV.1 h with a|a
  ·obtain⟨i,e,hu⟩:=b a;exact⟨i,by omega,hu⟩
  ·exact⟨n,by omega,a⟩
theorem F2:∀n,(∀i<n,(c i).length=size)→∀i<n,∀k<size,(flat c n)[i*size+k]?=(c i)[k]?:=by
 intro n
 induction n with
 |zero=>intro _ i a;omega
 |succ n f =>
  intro h i a k m;have e:=zd n (fun i a=>h i (by omega));simp only[flat];rcases iL.1 a with b|b
  ·rw[jV,f (fun i a=>h i (by omega)) i b k m];rw[e];have:(i+1)*size≤n*size:=ek _ b;rw[Nat.succ_mul]at this;omega
  ·subst b;rw[jW (by rw[e];omega),e];congr 1;omega
theorem F3{w:World}{b o n:Nat}(a:0<size)(e:∀i<n,(c i).length=size)(h:∀i<n,∀k u,(c i)[k]?=some u→w.cell? ⟨b,o+i*size+k,none⟩=some u):∀(j:Nat)(u:Value),(flat c n)[j]?=some u→w.cell? ((⟨b,o,none⟩:Addr).add j)=some u:=by
 intro j u hu;have q:j<n*size:=by rw[←zd n e];exact(iV.1 hu).1
 have f:j / size<n:=by rw[Nat.div_lt_iff_lt_mul a];exact q
 have r:j % size<size:=gp _ a;have hd:j / size*size+j % size=j:=by rw[dY];exact Nat.div_add_mod j size
 rw[←hd,F2 n e _ f _ r]at hu;have:=h _ f _ _ hu;rw[show o+j / size*size+j % size=o+j by omega]at this
 by_cases m:j=0
 ·subst m;simpa[Addr.add]using this
 ·simpa[Addr.add,m]using this
theorem F4(ao:Option Addr)(n cap:Nat)(r:Nat→Rl)(w:World)(h:mL w (.slice ao n cap) n r)(Y:n≤8):Calls Tryz.prog 67 #[.slice ao n cap] w fun e w' =>
   ∃v',e=.returned v'∧w'.ownsRow w.heap.size 162 5 v' n (flat (fun i=>(r i).cells) n)∧lE Pl w' v'∧Below w.heap.size w w':=by
 obtain⟨⟨C,z,J,hn,hc,a⟩,_⟩:=h;obtain⟨rfl,_,rfl⟩:ao=C∧n=n∧cap=z:=by simpa using J
 clear J
 cases ao with
 |none =>
  have q:n=0:=by
   rcases fb n with q|q
   ·exact q
   ·obtain⟨b,o,D,_⟩:=a q;cases D
  subst q;have M:=fun w=>jX (P:=Tryz.prog) w 67 _ none 0 cap 0 0 Tryz.underlying67
  clear a;go_enter Tryz.func67,Tryz.ntmps67
  go_wp2_with fail
  go_ret;exact⟨_,rfl,ju _ _ _ _,lE.nil _ _,iJ _ _⟩
 |some ad =>
  have M:=fun w=>jX (P:=Tryz.prog) w 67 _ (some ad) n cap 0 0 Tryz.underlying67
  obtain⟨i0,N,E,F,G⟩:=info_parts To;have K:(flat (fun i=>(r i).cells) n).length=n*5:=zd n (fun _ _=>rfl);have O:Hid (∀(j:Nat)(u:Value),(flat (fun i=>(r i).cells) n)[j]?=some u→(w.alloc (.cells #[] 162)).cell? (ad.add j)=some u):=by
   intro j u hu;rcases fb n with q|q
   ·subst q;simp[flat]at hu
   ·obtain⟨b,o,D,H⟩:=a q;obtain rfl:ad=⟨b,o,none⟩:=by simpa using D
    have:=F3 (size:=5) (by decide) (fun _ _=>rfl) H j u hu;rw[World.cell?_alloc_lt _ _ _ (iK _ _ this)];exact this
  have H1:Hid (∀u∈flat (fun i=>(r i).cells) n,u.oneCell'=true):=by
   intro u hu;obtain⟨i,_,hu⟩:=BG n hu;simp only[Rl.cells,fN,fO,fP]at hu;rcases hu with rfl|rfl|rfl|rfl|rfl<;>rfl
  have R:Hid ((flat (fun i=>(r i).cells) n).length=n*5):=K;have S:Hid (∀u∈(Value.agg #[.bool false,.int .u32 0,.int .i64 0,.int .i64 0,.int .i64 0]).cells.toList,Pl u):=by
   intro u hu;have e:(Value.agg #[.bool false,.int .u32 0,.int .i64 0,.int .i64 0,.int .i64 0]).cells.toList=[.bool false,.int .u32 0,.int .i64 0,.int .i64 0,.int .i64 0]:=rfl;rw[e]at hu;simp at hu;rcases hu with rfl|rfl|rfl
   all_goals first|exact Pl.bool _|exact Pl.int _ _
  have T:Hid (∀u∈flat (fun i=>(r i).cells) n,Pl u):=by
   intro u hu;obtain⟨i,_,hu⟩:=BG n hu;simp only[Rl.cells,fN,fO,fP]at hu;rcases hu with rfl|rfl|rfl|rfl|rfl
   all_goals first|exact Pl.bool _|exact Pl.int _ _
  have U:Hid (lE Pl (w.alloc (.cells #[] 162)) (.slice (some ⟨w.heap.size,0,none⟩) 0 0)):=by
   intro g cur ty fr V I u hu;obtain rfl:w.heap.size=g:=by simpa[Value.ownBlock]using V
   rw[jL]at I;simp only[dW,jE]at I;obtain⟨rfl,_⟩:=I;simp at hu
  clear K a;go_enter Tryz.func67,Tryz.ntmps67
  go_wp2_with (at_builtin;go_loud (refine SU rfl (.tmp 5) (.tmp 6) 67 rfl Pl w.heap.size 162 i0 (.agg #[.bool false,.int .u32 0,.int .i64 0,.int .i64 0,.int .i64 0]) 5 32 Tryz.underlying67 N E F G rfl (by decide) _ 0 [] rfl (World.ownsRow_made w #[] 0 (dD _) (by decide) rfl) ad n cap (flat (fun i=>(r i).cells) n) rfl R.out O.out H1.out (by unfold maxLen;omega) (by omega) (by simp) S.out T.out U.out ?_);intro v' w1 f m y _)
  rw[dG]at f;have hB:Below w.heap.size w w1:=((iJ _ _).alloc (dD _) _).grown m (by simp) (by intro k X;simp[Value.ownBlock,Act.eval]at X;omega);have L:Hid (w1.ownsRow w.heap.size 162 5 v' n (flat (fun i=>(r i).cells) n)∧lE Pl w1 v'):=⟨by simpa using f,y⟩;clear f m y;go_ret;exact⟨_,rfl,L.out.1,L.out.2,hB⟩
end
section
open Go Go.RowKit
open Go.Proofs.YtjnkcibpkkjniaaGreat.kx (mq)
theorem Tp:(Tryz.prog.info? 69).map (fun i=>(i.zero,i.size,i.bytes))=some (some (.agg #[.int .i64 0,.int .i64 0,.int .i64 0,.int .i64 0,.int .i64 0,.slice none 0 0,.slice none 0 0]),7,88):=by kernel_rfl
def BH (B:Nat) (w:World) (v:Value) (n:Nat) (c:Nat→List Value):Prop :=
 (v=.slice none 0 0∧n=0)∨∃g cap cur,v=.slice (some ⟨g,0,none⟩) n cap∧n≤cap∧cap≤maxLen∧B≤g∧w.heap[g]?=some (.cells cur 69 (0,0)) ∧
  ∀i<n,∀k u,(c i)[k]?=some u→w.cell? ⟨g,i*7+k,none⟩=some u
theorem Tq(ao:Option Addr)(n cap:Nat)(P:Nat→Pr)(w:World)(h:nI w (.slice ao n cap) n P)(h8:n≤8):Calls Tryz.prog 66 #[.slice ao n cap] w fun e w' =>
   ∃v',e=.returned v'∧BH w.heap.size w' v' n (fun i=>(P i).cells)∧Below w.heap.size w w':=by
 obtain⟨⟨E,C,O,hn,hc,a⟩,q⟩:=h;obtain⟨rfl,_,rfl⟩:ao=E∧n=n∧cap=C:=by simpa using O
 clear O
 cases ao with
 |none =>
  have r:n=0:=by
   rcases fb n with r|r
   ·exact r
   ·obtain⟨b,o,F,_⟩:=a r;cases F
  subst r;have R:=fun w=>jX (P:=Tryz.prog) w 23 _ none 0 cap 0 0 Tryz.underlying23
  clear a q;go_enter Tryz.func66,Tryz.ntmps66
  go_wp2_with fail
  go_ret;exact⟨_,rfl,.inl ⟨rfl,rfl⟩,iJ _ _⟩
 |some ad =>
  have R:=fun w=>jX (P:=Tryz.prog) w 23 _ (some ad) n cap 0 0 Tryz.underlying23
  obtain⟨i0,S,G,H,I⟩:=info_parts Tp;have T:Hid ((flat (fun i=>(P i).cells) n).length=n*7):=zd n (fun _ _=>rfl);have U:Hid (∀(j:Nat)(u:Value),(flat (fun i=>(P i).cells) n)[j]?=some u→(w.alloc (.cells #[] 69)).cell? (ad.add j)=some u):=by
   intro j u hu;rcases fb n with r|r
   ·subst r;simp[flat]at hu
   ·obtain⟨b,o,F,J⟩:=a r;obtain rfl:ad=⟨b,o,none⟩:=by simpa using F
    have:=F3 (size:=7) (by decide) (fun _ _=>rfl) J j u hu;rw[World.cell?_alloc_lt _ _ _ (iK _ _ this)];exact this
  have H1:Hid (∀u∈flat (fun i=>(P i).cells) n,u.oneCell'=true):=by
   intro u hu;obtain⟨i,y,hu⟩:=BG n hu;obtain⟨_,_,V⟩:=(q i y).1.isSlice;obtain⟨_,_,X⟩:=(q i y).2.isSlice;simp only[Pr.cells,fN,fO,fP]at hu;rcases hu with rfl|rfl|rfl|rfl|rfl|rfl|rfl
   ·rfl
   ·rfl
   ·rfl
   ·rfl
   ·rfl
   ·rw[V];rfl
   ·rw[X];rfl
  clear a q;go_enter Tryz.func66,Tryz.ntmps66
  go_wp2_with (at_builtin;go_loud (refine wpList_append_own _ rfl (.tmp 5) (.tmp 6) 23 rfl w.heap.size 69 i0 (.agg #[.int .i64 0,.int .i64 0,.int .i64 0,.int .i64 0,.int .i64 0,.slice none 0 0,.slice none 0 0]) 7 88 Tryz.underlying23 S G H I rfl (by decide) _ 0 [] rfl (World.ownsRow_made w #[] 0 (dD _) (by decide) rfl) ad n cap (flat (fun i=>(P i).cells) n) rfl T.out U.out H1.out (by unfold maxLen;omega) (by omega) (by simp) ?_);intro v' w1 f m _)
  rw[dG]at f;have hB:Below w.heap.size w w1:=((iJ _ _).alloc (dD _) _).grown m (by simp) (by intro k Y;simp[Value.ownBlock,Act.eval]at Y;omega);have hex:BH w.heap.size w1 v' n (fun i=>(P i).cells):=by
   rcases f.2 with⟨rfl,rfl⟩|⟨g,c,cur,rfl,K,z,L,M,_,D⟩
   ·exact .inl ⟨rfl,rfl⟩
   ·refine .inr ⟨g,c,cur,rfl,L,M,K,z,fun i y k u hu=>?_⟩;have N:k<7:=(iV.1 hu).1;have:=F2 n (size:=7) (c:=fun i=>(P i).cells) (fun _ _=>rfl) i y k N;rw[hu]at this;rw[jY _ _ _ _ _ _ z];rw[ix]at D;rw[←D]at this;rw[List.getElem?_take]at this;split at this
    ·simpa using this
    ·cases this
  clear f m;go_ret;exact⟨v',rfl,hex,hB⟩
def sR (w:World) (lo hi:Nat) (v:Value):Prop:=∃a m c,v=.slice a m c∧∀ad,a=some ad→lo≤ad.block∧ad.block<hi∧mq w ad.block
theorem sR.keep{w w':World}{lo f:Nat}{v:Value}(h:sR w lo f v)(k:∀b,lo≤b→b<f→w'.heap[b]?=w.heap[b]?):sR w' lo f v:=by
 obtain⟨a,m,c,rfl,h⟩:=h;exact⟨a,m,c,rfl,fun ad e=>⟨(h ad e).1,(h ad e).2.1,(h ad e).2.2.keep (k _ (h ad e).1 (h ad e).2.1)⟩⟩
variable {w:World} {B n:Nat}
theorem F5{v:Value}{xs:List Value}{e:TypeId}{size:Nat}(h:w.ownsRow B e size v n xs)(f:lE Pl w v):∃a c,v=.slice a n c∧sR w B w.heap.size v:=by
 rcases h.2 with⟨rfl,rfl⟩|⟨g,cap,cur,rfl,k2,b,_⟩
 ·exact⟨none,0,rfl,none,0,0,rfl,fun ad e=>by cases e⟩
 ·refine⟨_,_,rfl,_,_,_,rfl,fun ad e=>?_⟩
  cases e
  exact⟨k2,(dv.1 b).1,cur,_,_,b,f g cur _ _ rfl b,rfl⟩
structure nK (w:World) (g B k:Nat) (t:Nat→Nat):Prop where
 low:B≤t 0
 step:∀j,j<2*k→t j≤t (j+1)
 top:t (2*k)≤w.heap.size
 at_:∀i,i<k→(∃v,w.cell? ⟨g,i*7+5,none⟩=some v∧sR w (t (2*i)) (t (2*i+1)) v)∧∃v,w.cell? ⟨g,i*7+6,none⟩=some v∧sR w (t (2*i+1)) (t (2*i+2)) v
theorem nK.mono{w:World}{g B k:Nat}{t:Nat→Nat}(h:nK w g B k t):∀d i,i+d≤2*k→t i≤t (i+d):=by
 intro d
 induction d with
 |zero=>intro i _;exact dD _
 |succ d a=>intro i b;exact dE (a i (by omega)) (h.step (i+d) (by omega))
variable {g k j:Nat} {t:Nat→Nat}
theorem nK.le(h:nK w g B k t){i:Nat}(a:i≤j)(b:j≤2*k):t i≤t j:=by
 have:=h.mono (j-i) i (by omega);rwa[show i+(j-i)=j by omega]at this
theorem nK.zero(hB:B≤w.heap.size):nK w g B 0 fun _=>B:=⟨dD _,fun _ _=>dD _,hB,fun i a=>absurd a (ik i)⟩
theorem nK.keep{w w':World}{g B k:Nat}{t:Nat→Nat}(h:nK w g B k t)(f:w.heap.size≤w'.heap.size)(e:∀i,i<k→w'.cell? ⟨g,i*7+5,none⟩=w.cell? ⟨g,i*7+5,none⟩∧w'.cell? ⟨g,i*7+6,none⟩=w.cell? ⟨g,i*7+6,none⟩)(hb:∀b,B≤b→b<w.heap.size→w'.heap[b]?=w.heap[b]?):nK w' g B k t:=by
 refine⟨h.low,h.step,dE h.top f,fun i a=>?_⟩;obtain⟨⟨v5,m,o⟩,v6,r,u⟩:=h.at_ i a;have y:=h.low;have z:=h.le (i:=0) (j:=2*i) (by omega) (by omega);have C:=h.le (i:=0) (j:=2*i+1) (by omega) (by omega);have D:=h.le (i:=2*i+1) (j:=2*k) (by omega) (by omega);have E:=h.le (i:=2*i+2) (j:=2*k) (by omega) (by omega);have F:=h.top;exact⟨⟨v5,(e i a).1.trans m,o.keep fun b p q=>hb b (by omega) (by omega)⟩,v6,(e i a).2.trans r,u.keep fun b p q=>hb b (by omega) (by omega)⟩
variable {w':World}
theorem nK.more{m:Nat}(h:nK w g B k t)(I:w.heap.size≤m)(hm:m≤w'.heap.size)(o:∀i,i<k→w'.cell? ⟨g,i*7+5,none⟩=w.cell? ⟨g,i*7+5,none⟩∧w'.cell? ⟨g,i*7+6,none⟩=w.cell? ⟨g,i*7+6,none⟩)(hb:∀b,B≤b→b<w.heap.size→w'.heap[b]?=w.heap[b]?){v5 v6:Value}(q:w'.cell? ⟨g,k*7+5,none⟩=some v5)(r:sR w' w.heap.size m v5)(u:w'.cell? ⟨g,k*7+6,none⟩=some v6)(y:sR w' m w'.heap.size v6):∃t,nK w' g B (k+1) t:=by
 have z:=h.keep (w':=w') (by omega) o hb;refine⟨fun j=>if j≤2*k then t j else if j=2*k+1 then m else w'.heap.size,by simpa using h.low,fun j J=>?_,?_,fun i K=>?_⟩
 ·have C:=h.top;show(if j≤2*k then t j else if j=2*k+1 then m else w'.heap.size)≤(if j+1≤2*k then t (j+1) else if j+1=2*k+1 then m else w'.heap.size)
  by_cases f:j+1≤2*k
  ·rw[dr f,dr (show j≤2*k by omega)];exact h.step j (by omega)
  ·rw[dt f]
   by_cases D:j=2*k
   ·rw[dr (show j≤2*k by omega),dr (show j+1=2*k+1 by omega),D];omega
   ·rw[dt (show ¬j≤2*k by omega),dr (show j=2*k+1 by omega),dt (show ¬j+1=2*k+1 by omega)];omega
 ·show(if 2*(k+1)≤2*k then t (2*(k+1)) else if 2*(k+1)=2*k+1 then m else w'.heap.size)≤_;rw[dt (show ¬2*(k+1)≤2*k by omega),dt (show ¬2*(k+1)=2*k+1 by omega)];exact dD _
 ·by_cases e:i<k
  ·have:=z.at_ i e;simp only[show 2*i≤2*k by omega,show 2*i+1≤2*k by omega,show 2*i+2≤2*k by omega,dn];exact this
  ·obtain rfl:i=k:=by omega
   have C:=h.top;obtain⟨E,F,a,rfl,G⟩:=r;refine⟨⟨_,q,E,F,a,rfl,fun ad e=>?_⟩,_,u,?_⟩
   ·obtain⟨z1,z2,H⟩:=G ad e;simp only[dD,dn,show ¬(2*i+1≤2*i) by omega,dp];exact⟨by omega,z2,H⟩
   ·simp only[show ¬(2*i+1≤2*i) by omega,show ¬(2*i+2≤2*i) by omega,show ¬(2*i+2=2*i+1) by omega,dp,dn];exact y
def qn (w:World) (g n k:Nat) (P:Nat→Pr):Prop :=
 ∀i,k≤i→i<n→w.cell? ⟨g,i*7+5,none⟩=some (P i).im∧w.cell? ⟨g,i*7+6,none⟩=some (P i).ex
variable {P:Nat→Pr}
theorem qn.below(h:qn w g n k P)(hB:Below w.heap.size w w'):qn w' g n k P:=by
 intro i e f;obtain⟨a,b⟩:=h i e f;exact⟨(hB.cell (iK _ _ a)).trans a,(hB.cell (iK _ _ b)).trans b⟩
theorem qn.stored(h:qn w g n k P)(e:k<n→j<k*7+7)(f:k<n→k*7≤j)(v:Value):qn (w.setCell ⟨g,j,none⟩ v) g n (k+1) P:=by
 intro i o m;obtain⟨a,b⟩:=h i (by omega) m;have:=e (by omega);have:=f (by omega);exact⟨(jZ _ _ _ _ (by first|omega|(simp only[iO,jk,jl];omega)|simp)).trans a,(jZ _ _ _ _ (by first|omega|(simp only[iO,jk,jl];omega)|simp)).trans b⟩
def oI (w:World) (g n:Nat) (P:Nat→Pr):Prop :=
 ∀i,i<n→∀k u,[Value.int .i64 (P i).au,.int .i64 (P i).hold,.int .i64 (P i).oi,.int .i64 (P i).oj,.int .i64 (P i).wait][k]?=some u→w.cell? ⟨g,i*7+k,none⟩=some u
theorem oI.below(h:oI w g n P)(hB:Below w.heap.size w w'):oI w' g n P:=fun i a k u hu=>(hB.cell (iK _ _ (h i a k u hu))).trans (h i a k u hu)
theorem oI.other(h:oI w g n P)(p:Addr)(hp:p.block≠g)(v:Value):oI (w.setCell p v) g n P:=fun i a k u hu=>(jZ _ _ _ _ (fun e=>hp (by rw[e]))).trans (h i a k u hu)
theorem oI.stored(h:oI w g n P)(b:j % 7=5∨j % 7=6)(v:Value):oI (w.setCell ⟨g,j,none⟩ v) g n P:=fun i a k u hu=>by
 have f:k<5:=(iV.1 hu).1;exact(jZ _ _ _ _ (by intro e;have:=dI Addr.off e;simp only at this;omega)).trans (h i a k u hu)
theorem Tr(au id nh:Int)(ao:Option Addr)(n cap:Nat)(P:Nat→Pr)(w:World)(h:nI w (.slice ao n cap) n P)(h8:n≤8)(hr:∀i<n,(P i).ni≤8∧(P i).ne≤8):Calls Tryz.prog 40 #[.agg #[.int .i64 au,.int .u32 id,.int .u32 nh,.slice ao n cap]] w fun e w' =>
   ∃r f,e=.returned (.agg #[.int .i64 au,.int .u32 id,.int .u32 nh,.slice r n f])∧Below w.heap.size w w'∧(0<n→n≤f∧∃g B t,w.heap.size≤g∧g<B∧r=some ⟨g,0,none⟩∧oI w' g n P∧nK w' g B n t):=by
 have H:Hid (nI w (.slice ao n cap) n P):=h;have Hr:Hid (∀i<n,(P i).ni≤8∧(P i).ne≤8):=hr;clear h hr;go_enter Tryz.func40,Tryz.ntmps40
 go_wp2_with fail
 refine(Tq _ _ _ P _ (H.out.cell (((iJ _ _).alloc (dD _) _).alloc (by simp) _)) h8).mono ?_;rintro e w1 ⟨v',rfl,N,hB⟩;have aG:Below w.heap.size w w1:=(((iJ _ _).alloc (dD _) _).alloc (by simp) _).trans (hB.mono (by simp only[iO];omega));have hz:w.heap.size+1<w1.heap.size:=by have:=hB.size;simp only[iO]at this;omega
 have S:w1.heap[w.heap.size]?=some (.cells #[.int .i64 au,.int .u32 id,.int .u32 nh,.slice ao n cap] 25):=by
  rw[hB.block _ (by simp only[iO];omega)];exact heap_alloc2_old _ _ _
 have ap:w1.heap[w.heap.size+1]?=some (.cells #[.int .i64 0,.int .u32 0,.int .u32 0,.slice none 0 0] 25):=by
  rw[hB.block _ (by simp only[iO];omega)];exact heap_alloc2_new _ _ _
 have hex:∃r f,v'=.slice r n f:=by
  rcases N with⟨rfl,rfl⟩|⟨g,c,cur,rfl,_⟩
  ·exact⟨none,0,rfl⟩
  ·exact⟨_,_,rfl⟩
 obtain⟨r,f,rfl⟩:=hex;simp only[iO]at N;have O:Hid (BH (w.heap.size+1+1) w1 (.slice r n f) n (fun i=>(P i).cells)):=N;have fx:∀o,w1.frozen? ⟨w.heap.size,o,none⟩=false:=fun o=>j0 _ _ _ _ _ S
 have aq:w1.cell? ⟨w.heap.size,0,none⟩=some (.int .i64 au):=jY _ _ _ _ _ _ S;have ar:w1.cell? ⟨w.heap.size,1,none⟩=some (.int .u32 id):=jY _ _ _ _ _ _ S;have av:w1.cell? ⟨w.heap.size,2,none⟩=some (.int .u32 nh):=jY _ _ _ _ _ _ S;have aw:w1.cell? ⟨w.heap.size,3,none⟩=some (.slice ao n cap):=jY _ _ _ _ _ _ S;clear N hB
 go_wp2_with fail
 go_loopw [12] (fun i wr=>∃k:Nat,k≤n∧i=.int .i64 k∧Below w.heap.size w wr∧Below (w.heap.size+2) (w1.setCell ⟨w.heap.size,3,none⟩ (.slice r n f)) wr ∧
   (∀g,r=some ⟨g,0,none⟩→(∀off,wr.frozen? ⟨g,off,none⟩=false)∧qn wr g n k P∧oI wr g n P∧∃t,nK wr g w1.heap.size k t)) (fun i _=>n-(intOf i).toNat)
 case atStart =>
  refine⟨0,eP _,rfl,aG.setCell (by simp) _,iJ _ _,fun g hg=>?_⟩;rcases O.out with⟨he,h0⟩|⟨g',c,cur,he,_,_,T,G,aa⟩
  ·simp at he;rw[he.1]at hg;cases hg
  ·simp at he;rw[he.1]at hg;obtain rfl:g'=g:=by simpa using hg
   refine⟨fun off=>(j2 _ _ _ _).trans (j0 _ _ _ _ _ G),fun i _ h2=>?_,?_,_,nK.zero (by simp)⟩
   ·exact⟨(jZ _ _ _ _ (by simp<;>omega)).trans (aa i h2 5 _ rfl),(jZ _ _ _ _ (by simp<;>omega)).trans (aa i h2 6 _ rfl)⟩
   ·refine oI.other ?_ _ (by simp;omega) _;intro i h2 k u hu;refine aa i h2 k u ?_;simp only[Pr.cells];have hk:k<5:=(iV.1 hu).1
    match k,hk,hu with
    |0,_,hu=>exact hu
    |1,_,hu=>exact hu
    |2,_,hu=>exact hu
    |3,_,hu=>exact hu
    |4,_,hu=>exact hu
 case round =>
  obtain⟨k,hk,rfl,ab,I,F⟩:=hrel;have aY:wr.cell? ⟨w.heap.size,3,none⟩=some (.slice r n f):=(I.cell (by first|omega|(simp only[];omega)|simp)).trans (j3 _ _ _ aw);have aZ:wr.cell? ⟨w.heap.size,0,none⟩=some (.int .i64 au):=(I.cell (by first|omega|(simp only[];omega)|simp)).trans ((jZ _ _ _ _ (by simp)).trans aq);have a0:wr.cell? ⟨w.heap.size,1,none⟩=some (.int .u32 id):=(I.cell (by first|omega|(simp only[];omega)|simp)).trans ((jZ _ _ _ _ (by simp)).trans ar);have a1:wr.cell? ⟨w.heap.size,2,none⟩=some (.int .u32 nh):=(I.cell (by first|omega|(simp only[];omega)|simp)).trans ((jZ _ _ _ _ (by simp)).trans av);have hsz:(w1.setCell ⟨w.heap.size,3,none⟩ (.slice r n f)).heap.size=w1.heap.size:=jk _ _ _;have a2:w.heap.size+1<wr.heap.size:=by have:=I.size;omega
  clear aq ar av aw
  by_cases ak:k<n
  ·obtain⟨g,aH,T,al⟩:∃g,r=some ⟨g,0,none⟩∧w.heap.size+1+1≤g∧g<w1.heap.size:=by
    rcases O.out with⟨he,h0⟩|⟨g',c,cur,he,_,_,T,G,aa⟩
    ·omega
    ·simp at he;exact⟨g',he.1,T,(dv.1 G).1⟩
   subst aH;obtain⟨ad,am,ax,t,ah⟩:=F g rfl;have aI:Hid (oI wr g n P):=ax;have ay:Hid (nK wr g w1.heap.size k t):=ah;have aJ:Hid (g<w1.heap.size):=al;clear ax ah al;have az:=H.out.2;obtain⟨af,ag⟩:=az k ak;obtain⟨ai,ci,ei⟩:=af.isSlice;obtain⟨ae,ce,ee⟩:=ag.isSlice;obtain⟨c5,c6⟩:=am k (dD _) ak;obtain⟨aK,aL⟩:=Hr.out k ak;rw[ei]at af c5;rw[ee]at ag c6;have J:g<wr.heap.size:=iK _ _ c5;have aM:Hid (mL w (.slice ai (P k).ni ci) (P k).ni (P k).ir):=af;have aN:Hid (mL w (.slice ae (P k).ne ce) (P k).ne (P k).er):=ag;have aO:Hid (qn wr g n k P):=am;have Hb:Hid (w.heap.size+1+1≤g):=T;have f5:=ad (k*7+5);have f6:=ad (k*7+6);have aP:Hid (∀off,wr.frozen? ⟨g,off,none⟩=false):=ad;clear F az af ag ei ee ad am;have aX:n≤f:=by
    rcases O.out with⟨he,h0⟩|⟨g',c,cur,he,aQ,_⟩
    ·omega
    ·simp at he;omega
   go_wp2_with fail
   refine(F4 _ _ _ (P k).ir _ (aM.out.cell ab) aK).mono ?_;rintro e w2 ⟨v2,rfl,U,aA,z⟩;obtain⟨R,E,rfl,aj⟩:=F5 U aA;have aB:Hid (sR w2 wr.heap.size w2.heap.size (.slice R (P k).ni E)):=aj;clear U aA aj;have H5:Hid (w2.cell? ⟨g,k*7+5,none⟩=some (.slice ai (P k).ni ci)):=(z.cell (p:=⟨g,k*7+5,none⟩) J).trans c5;have d5:=(z.cell (p:=⟨g,k*7+5,none⟩) J).trans c5;have d6:=(z.cell (p:=⟨g,k*7+6,none⟩) J).trans c6;have e5:=(z.frozen (p:=⟨g,k*7+5,none⟩) J).trans f5;have e6:=(z.frozen (p:=⟨g,k*7+6,none⟩) J).trans f6;clear c5 c6 f5 f6
   go_wp2_with fail
   have an:Below w.heap.size w (w2.setCell ⟨g,k*7+5,none⟩ (.slice R (P k).ni E)):=(ab.trans (z.mono ab.size)).setCell (by first|omega|(simp only[];omega)|simp) _;refine(F4 _ _ _ (P k).er _ (aN.out.cell an) aL).mono ?_;rintro e w3 ⟨v3,rfl,V,aC,C⟩;obtain⟨y,q,rfl,K⟩:=F5 V aC;have aD:Hid (sR w3 (w2.setCell ⟨g,k*7+5,none⟩ (.slice R (P k).ni E)).heap.size w3.heap.size (.slice y (P k).ne q)):=K;clear V aC K;have D:(w2.setCell ⟨g,k*7+5,none⟩ (.slice R (P k).ni E)).heap.size=w2.heap.size:=jk _ _ _;have L:g<w2.heap.size:=iK _ _ d6;have g6:=(C.cell (p:=⟨g,k*7+6,none⟩) (by rw[D];exact L)).trans ((jZ _ _ _ _ (by simp)).trans d6);have h6:=(C.frozen (p:=⟨g,k*7+6,none⟩) (by rw[D];exact L)).trans ((j2 _ _ _ _).trans e6);have M:∀g',(some ⟨g,0,none⟩:Option Addr)=some ⟨g',0,none⟩→(∀off,(w3.setCell ⟨g,k*7+6,none⟩ (.slice y (P k).ne q)).frozen? ⟨g',off,none⟩=false)∧qn (w3.setCell ⟨g,k*7+6,none⟩ (.slice y (P k).ne q)) g' n (k+1) P∧oI (w3.setCell ⟨g,k*7+6,none⟩ (.slice y (P k).ne q)) g' n P∧∃t,nK (w3.setCell ⟨g,k*7+6,none⟩ (.slice y (P k).ne q)) g' w1.heap.size (k+1) t:=by
    intro g' aR;obtain rfl:g=g':=by simpa using aR
    refine⟨fun off=>?_,?_,(((aI.out.below (z.mono (dD _))).stored (by omega) _).below C).stored (by omega) _,?_⟩
    rotate_left 2
    ·have a3:g<wr.heap.size:=J;have al:=aJ.out;have aS:=z.size;have aE:=C.size;rw[D]at aE;have K:=aD.out;rw[D]at K;have o5:∀i,i<k→∀x,x=5∨x=6→(w3.setCell ⟨g,k*7+6,none⟩ (.slice y (P k).ne q)).cell? ⟨g,i*7+x,none⟩=wr.cell? ⟨g,i*7+x,none⟩:=fun i hi x hx=>by
      rw[jZ _ _ _ _ (by intro e;have:=dI Addr.off e;simp only at this;omega),C.cell (by rw[D];exact L),jZ _ _ _ _ (by intro e;have:=dI Addr.off e;simp only at this;omega),z.cell J]
     have aF:∀b,b≠g→b<w2.heap.size→(w3.setCell ⟨g,k*7+6,none⟩ (.slice y (P k).ne q)).heap[b]?=w2.heap[b]?:=fun b hb hl=>(kA (dJ hb) _ _).trans ((C.block _ (by rw[D];exact hl)).trans (kA (dJ hb) _ _))
     refine ay.out.more (m:=w2.heap.size) aS (by simp;exact aE) (fun i hi=>⟨o5 i hi 5 (.inl rfl),o5 i hi 6 (.inr rfl)⟩) (fun b hb hl=>(aF b (by omega) (by omega)).trans (z.block _ hl)) (v5:=.slice R (P k).ni E) (v6:=.slice y (P k).ne q) ?_ (aB.out.keep fun b hb hl=>aF b (by omega) hl) (j3 _ _ _ g6) ?_
     ·exact(jZ _ _ _ _ (by simp)).trans ((C.cell (by rw[D];exact L)).trans (j3 _ _ _ H5.out))
     ·rw[jk];exact K.keep fun b hb hl=>kA (by omega) _ _
    ·rw[j2,C.frozen (by rw[D];exact L),j2,z.frozen J];exact aP.out off
    ·have r2:qn w2 g n k P:=aO.out.below z;have r3:qn (w2.setCell ⟨g,k*7+5,none⟩ (.slice R (P k).ni E)) g n (k+1) P:=r2.stored (by omega) (by omega) _;have r4:qn w3 g n (k+1) P:=r3.below C;intro i h1 h2;obtain⟨a,b⟩:=r4 i h1 h2;exact⟨(jZ _ _ _ _ (by first|omega|(simp only[iO,jk,jl];omega)|simp)).trans a,(jZ _ _ _ _ (by first|omega|(simp only[iO,jk,jl];omega)|simp)).trans b⟩
   have X:Hid (∀g',(some ⟨g,0,none⟩:Option Addr)=some ⟨g',0,none⟩→(∀off,(w3.setCell ⟨g,k*7+6,none⟩ (.slice y (P k).ne q)).frozen? ⟨g',off,none⟩=false)∧qn (w3.setCell ⟨g,k*7+6,none⟩ (.slice y (P k).ne q)) g' n (k+1) P∧oI (w3.setCell ⟨g,k*7+6,none⟩ (.slice y (P k).ne q)) g' n P∧∃t,nK (w3.setCell ⟨g,k*7+6,none⟩ (.slice y (P k).ne q)) g' w1.heap.size (k+1) t):=M;have aT:Below w.heap.size w (w3.setCell ⟨g,k*7+6,none⟩ (.slice y (P k).ne q)):=(an.trans (C.mono an.size)).setCell (by first|omega|(simp only[];omega)|simp) _;have aU:Below (w.heap.size+2) wr (w3.setCell ⟨g,k*7+6,none⟩ (.slice y (P k).ne q)) :=
    (((z.mono (by omega)).setCell (by first|omega|(simp only[iO,jk,jl];omega)|simp) _).trans (C.mono (by rw[D];omega))).setCell (by first|omega|(simp only[iO,jk,jl];omega)|simp) _
   clear M d5 d6 e5 e6 D
   go_wp2_with fail
   go_roundw
   case rel=>exact⟨k+1,by omega,by go_num,aT,I.trans aU,X.out⟩
   case measure=>simp[intOf];omega
  ·have ey:∀o,wr.frozen? ⟨w.heap.size+1,o,none⟩=false:=fun o=>(I.frozen (by first|omega|(simp only[];omega)|simp)).trans ((j2 _ _ _ _).trans (j0 _ _ _ _ _ ap))
   have cy:∀o,wr.cell? ⟨w.heap.size+1,o,none⟩=#[Value.int .i64 0,.int .u32 0,.int .u32 0,.slice none 0 0][o]?:=fun o=>(I.cell (by first|omega|(simp only[];omega)|simp)).trans ((jZ _ _ _ _ (by simp)).trans (jY _ _ _ _ _ _ ap))
   have a4:=cy 0;have a5:=cy 1;have a6:=cy 2;have a7:=cy 3;have a8:=ey 0;have a9:=ey 1;have ba:=ey 2;have bb:=ey 3;have Y:Hid (∀g,r=some ⟨g,0,none⟩→(∀off,wr.frozen? ⟨g,off,none⟩=false)∧qn wr g n k P∧oI wr g n P∧∃t,nK wr g w1.heap.size k t):=F;clear ey cy F;have M:0<n→n≤f∧∃g,w.heap.size≤g∧g<w1.heap.size∧r=some ⟨g,0,none⟩∧g≠w.heap.size+1∧oI wr g n P∧∃t,nK wr g w1.heap.size n t:=by
    intro hn;rcases O.out with⟨he,h0⟩|⟨g',c,cur,he,aQ,_,T,G,_⟩
    ·omega
    ·simp at he;have aV:k=n:=by omega
     exact⟨by omega,g',by omega,(dv.1 G).1,he.1,by omega,(Y.out g' he.1).2.2.1,by rw[←aV];exact(Y.out g' he.1).2.2.2⟩
   have X:Hid (0<n→n≤f∧∃g,w.heap.size≤g∧g<w1.heap.size∧r=some ⟨g,0,none⟩∧g≠w.heap.size+1∧oI wr g n P∧∃t,nK wr g w1.heap.size n t):=M;clear M
   go_wp2_with fail
   refine iQ (v:=.agg #[.int .i64 au,.int .u32 id,.int .u32 nh,.slice r n f]) (by simp[results,Tryz.results40,go_sem, *]) rfl ⟨r,f,rfl,(((ab.setCell (by simp) _).setCell (by simp) _).setCell (by simp) _).setCell (by simp) _,fun hn=>?_⟩;obtain⟨h0,g,h1,aW,h2,h3,h4,t,h5⟩:=X.out hn;refine⟨h0,g,_,t,h1,aW,h2,(((h4.other _ (by simp;omega) _).other _ (by simp;omega) _).other _ (by simp;omega) _).other _ (by simp;omega) _,h5.keep (by simp) (fun i hi=>?_) fun b hb hl=>?_⟩
   ·exact⟨by rw[jZ _ _ _ _ (by simp<;>omega),jZ _ _ _ _ (by simp<;>omega),jZ _ _ _ _ (by simp<;>omega),jZ _ _ _ _ (by simp<;>omega)],by rw[jZ _ _ _ _ (by simp<;>omega),jZ _ _ _ _ (by simp<;>omega),jZ _ _ _ _ (by simp<;>omega),jZ _ _ _ _ (by simp<;>omega)]⟩
   ·rw[kA (by omega) 3 _,kA (by omega) 2 _,kA (by omega) 1 _,kA (by omega) 0 _]
end
section
open Go Go.RowKit
open Go.Proofs.YtjnkcibpkkjniaaGreat.kN (lh lO oL)
open Go.Proofs.YtjnkcibpkkjniaaGreat.kx (mq)
theorem Ts:∃i z,vk 100 i z 14 160∧∀u∈z.cells.toList,Pl u:=by
 obtain⟨i,z,h⟩:∃i z,vk 100 i z 14 160:=yZ (by kernel_rfl);refine⟨i,z,h,?_⟩;have a:((Tryz.prog.info? 100).bind fun i=>i.zero.map (·.cells))=some #[.int .i64 0,.int .u32 0,.int .i64 0,.int .i64 0,.int .i64 0,.int .i64 0,.int .i64 0,.slice none 0 0,.slice none 0 0,.int .i64 0,.int .i64 0,.int .i64 0,.int .i64 0,.slice none 0 0]:=by kernel_rfl
 rw[h.info]at a;simp only[ed,h.zero,dM,dW]at a;rw[a];intro u hu;simp at hu;rcases hu with rfl|rfl|rfl|rfl|rfl|rfl
 all_goals first|exact Pl.int _ _|exact Pl.mI _ _
noncomputable def pY:Array Oper:=((Tryz.f20.body).bind (opsOf 8)).getD #[]
theorem Tt:lh pY [1,3,5,7,18,19,20] 42=true:=by kernel_rfl
theorem Tu:lO pY=true:=by kernel_rfl
theorem Tv:pY.size=16:=by kernel_rfl
end
section
open Go Go.RowKit
open Go.Proofs.YtjnkcibpkkjniaaGreat.kN (lh lO uj rU)
def nL (sp cb B0 S0:Nat) (au id:Int) (p:Pz) (k:Nat) (xs:List Value) (sv:Value):Nat→Value→World→Prop
 |0,v,_=>v=.pointer (some ⟨sp,0,none⟩)
 |1,v,_=>v=.pointer (some ⟨sp,0,none⟩)
 |2,v,_=>v=.pointer (some ⟨sp,0,none⟩)
 |3,v,_=>v=.pointer (some ⟨sp,1,none⟩)
 |4,v,_=>v=sv
 |5,v,_=>v=.pointer (some ⟨cb,0,none⟩)
 |6,v,_=>v=.int .i64 au
 |7,v,_=>v=.pointer (some ⟨cb,1,none⟩)
 |8,v,_=>v=.int .u32 id
 |9,v,_=>v=.agg p.cells
 |10,v,_=>v=.agg (kt au id p 0 0 0 0 (.slice none 0 0))
 |11,v,w=>∃nb,v=.slice (some ⟨nb,0,none⟩) 1 1∧S0≤nb∧w.heap[nb]?=some (.cells (kt au id p 0 0 0 0 (.slice none 0 0)) 100 (0,0))
 |12,v,w=>w.ownsRow B0 100 14 v (k+1) (xs++(kt au id p 0 0 0 0 (.slice none 0 0)).toList)∧oP Pl w v ((k+1)*14)∧(v.ownBlock=sv.ownBlock∨∃j,v.ownBlock=some j∧S0≤j)
 |13,v,_=>v=.pointer (some ⟨sp,0,none⟩)
 |14,v,_=>v=.pointer (some ⟨sp,1,none⟩)
 |_,_,_=>True
variable {sp cb B0 k:Nat} {au id:Int} {p:Pz} {xs:List Value} {sv:Value}
theorem Tw{m:Nat}(w w':World)(i:Nat)(u:Value)(hB:Below w.heap.size w w')(h:nL sp cb B0 m au id p k xs sv i u w):nL sp cb B0 m au id p k xs sv i u w':=by
 unfold nL at h ⊢;split at h
 iterate 11 exact h
 ·obtain⟨nb,a,e,b⟩:=h;exact⟨nb,a,e,(hB.block _ (dv.1 b).1).trans b⟩
 ·obtain⟨a,e,b⟩:=h;exact⟨lM a fun k f=>hB.block k (jA a k f).2,e.keep fun k f=>hB.block k (jA a k f).2,b⟩
 ·exact h
 ·exact h
 ·trivial
def BI (i:Nat):Bool:=i == 4 || i == 6 || i == 8 || i == 9 || i == 10 || i == 11
theorem Tx:lh pY [1,3,5,7,18,19,20] 42=true:=Tt
theorem Ty:rU pY 12 BI=true:=by kernel_rfl
variable {Q:Exit→Act→World→Prop} {w0:World}
theorem Tz{h:Nat}(kp:sp<w0.heap.size)(y:cb<w0.heap.size)(m:h<w0.heap.size)(s1:w0.cell? ⟨sp,1,none⟩=some sv)(c0:w0.cell? ⟨cb,0,none⟩=some (.int .i64 au))(c1:w0.cell? ⟨cb,1,none⟩=some (.int .u32 id))(d0:w0.cell? ⟨h,0,none⟩=some (.int .i64 p.au))(d1:w0.cell? ⟨h,1,none⟩=some (.int .i64 p.hold))(d2:w0.cell? ⟨h,2,none⟩=some (.int .i64 p.oi))(d3:w0.cell? ⟨h,3,none⟩=some (.int .i64 p.oj))(d4:w0.cell? ⟨h,4,none⟩=some (.int .i64 p.wait))(d5:w0.cell? ⟨h,5,none⟩=some (.slice p.ia p.il p.ic))(d6:w0.cell? ⟨h,6,none⟩=some (.slice p.ea p.el p.ec))(i:Nat)(o:Oper)(a:Act)(w:World)(F:i<15)(E:i≠12)(C:pY[i]?=some o)(f1:a.tmps[1]?=some (.pointer (some ⟨cb,0,none⟩)))(f5:a.tmps[5]?=some (.pointer (some ⟨sp,0,none⟩)))(f7:a.tmps[7]?=some (.pointer (some ⟨h,0,none⟩)))(b:∀(j:Nat)(o':Oper)(d:Nat),pY[j]?=some o'→o'.dst=some d→(∃e∈o.after,e.on=j∧Region.binds .any e=true)→∃v,a.tmps[d]?=some v∧nL sp cb B0 w0.heap.size au id p k xs sv j v w)(q:BI i=true→Below w0.heap.size w0 w)(K:Act→World→Prop)(u:∀v w',nL sp cb B0 w0.heap.size au id p k xs sv i v w'→Below w.heap.size w w'→K (a.put o.dst v) w'):o.wp Tryz.prog a w K Q:=by
 obtain rfl|rfl|rfl|rfl|rfl|rfl|rfl|rfl|rfl|rfl|rfl|rfl|rfl|rfl:i=0∨i=1∨i=2∨i=3∨i=4∨i=5∨i=6∨i=7∨i=8∨i=9∨i=10∨i=11∨i=13∨i=14:=by omega
 all_goals
  simp only[pY,Tryz.f20,opsOf,ed]at C;simp[]at C;subst C
 all_goals try
  first
  |(unfold Oper.wp execOp;simp only[Act.eval,dA,f5,f1,eE];go_simp;exact u _ _ rfl (iJ _ _))
  |(obtain⟨z,r,f⟩:=b _ _ _ (by rfl) (by rfl) ⟨_,⟨List.Mem.head _⟩,rfl,rfl⟩;simp only[nL]at f;subst f;unfold Oper.wp execOp;simp only[Act.eval,dA,r,eE];go_simp;exact u _ _ rfl (iJ _ _))
 ·obtain⟨z,r,f⟩:=b 3 _ _ rfl rfl ⟨⟨3,.data⟩,by simp,rfl,rfl⟩;simp only[nL]at f
  try subst f
  have G:=((q rfl).cell (p:=⟨sp,1,none⟩) kp).trans s1;unfold Oper.wp execOp;simp only[Act.eval,dA,r,eE];go_simp;exact u _ _ rfl (iJ _ _)
 ·obtain⟨z,r,f⟩:=b 5 _ _ rfl rfl ⟨⟨5,.data⟩,by simp,rfl,rfl⟩;simp only[nL]at f
  try subst f
  have H:=((q rfl).cell (p:=⟨cb,0,none⟩) y).trans c0;unfold Oper.wp execOp;simp only[Act.eval,dA,r,eE];go_simp;exact u _ _ rfl (iJ _ _)
 ·obtain⟨z,r,f⟩:=b 7 _ _ rfl rfl ⟨⟨7,.data⟩,by simp,rfl,rfl⟩;simp only[nL]at f
  try subst f
  have I:=((q rfl).cell (p:=⟨cb,1,none⟩) y).trans c1;unfold Oper.wp execOp;simp only[Act.eval,dA,r,eE];go_simp;exact u _ _ rfl (iJ _ _)
 ·have b0:=((q rfl).cell (p:=⟨h,0,none⟩) m).trans d0;have b1:=((q rfl).cell (p:=⟨h,1,none⟩) m).trans d1;have b2:=((q rfl).cell (p:=⟨h,2,none⟩) m).trans d2;have J:=((q rfl).cell (p:=⟨h,3,none⟩) m).trans d3;have L:=((q rfl).cell (p:=⟨h,4,none⟩) m).trans d4;have M:=((q rfl).cell (p:=⟨h,5,none⟩) m).trans d5;have N:=((q rfl).cell (p:=⟨h,6,none⟩) m).trans d6;unfold Oper.wp execOp;simp only[Act.eval,dA,f7,eE];go_simp;exact u _ _ rfl (iJ _ _)
 ·obtain⟨z,r,f⟩:=b 6 _ _ rfl rfl ⟨⟨6,.data⟩,by simp,rfl,rfl⟩;simp only[nL]at f
  try subst f
  obtain⟨O,R,D⟩:=b 8 _ _ rfl rfl ⟨⟨8,.data⟩,by simp,rfl,rfl⟩;simp only[nL]at D
  try subst D
  obtain⟨S,T,p2⟩:=b 9 _ _ rfl rfl ⟨⟨9,.data⟩,by simp,rfl,rfl⟩;simp only[nL]at p2
  try subst p2
  unfold Oper.wp execOp;simp only[];go_simp;refine(Et au id p w).mono ?_;rintro e w1 ⟨rfl,hB⟩;exact u _ _ rfl hB
 ·obtain⟨z,r,f⟩:=b 10 _ _ rfl rfl ⟨⟨10,.data⟩,by simp,rfl,rfl⟩;simp only[nL]at f
  try subst f
  simp only[kt]at r;have hsz:=(q rfl).size;unfold Oper.wp execOp;simp only[Act.eval,dA];go_simp;exact u _ _ ⟨w.heap.size,rfl,hsz,jL w _⟩ ((iJ _ _).alloc (dD _) _)
theorem TB(H:B0≤w0.heap.size)(hk:k≤2147483647)(f:w0.ownsRow B0 100 14 sv k xs)(X:oP Pl w0 sv (k*14))(o:Oper)(a:Act)(w:World)(I:pY[12]?=some o)(m:∀(j:Nat)(o':Oper)(d:Nat),pY[j]?=some o'→o'.dst=some d→(∃e∈o.after,e.on=j∧Region.binds .any e=true)→∃v,a.tmps[d]?=some v∧nL sp cb B0 w0.heap.size au id p k xs sv j v w)(J:Below w0.heap.size w0 w)(r:w0.grownBy w sv.ownBlock)(b:(k+1)*160≤140737488355328)(K:Act→World→Prop)(Y:∀v w',nL sp cb B0 w0.heap.size au id p k xs sv 12 v w'→(∀j u,j≠12→nL sp cb B0 w0.heap.size au id p k xs sv j u w→nL sp cb B0 w0.heap.size au id p k xs sv j u w')→w0.grownBy w' sv.ownBlock→K (a.put o.dst v) w'):o.wp Tryz.prog a w K Q:=by
 simp only[pY,Tryz.f20,opsOf,ed]at I;simp[]at I;subst I;obtain⟨G,h0,S⟩:=m 4 _ _ rfl rfl ⟨⟨4,.data⟩,by simp,rfl,rfl⟩;simp only[nL]at S;subst S;obtain⟨u1,h1,T⟩:=m 11 _ _ rfl rfl ⟨⟨11,.data⟩,by simp,rfl,rfl⟩;simp only[nL]at T;obtain⟨bb,rfl,aa,y⟩:=T;obtain⟨i0,z0,z,L⟩:=Ts;have C:=jA f;have D:∀j,G.ownBlock=some j→w.heap[j]?=w0.heap[j]?:=fun j M=>J.block j (C j M).2
 have q:w.ownsRow B0 100 14 G k xs:=lM f D;have N:∀(j:Nat)(u:Value),(kt au id p 0 0 0 0 (.slice none 0 0)).toList[j]?=some u→w.cell? ((⟨bb,0,none⟩:Addr).add j)=some u:=fun j u hu=>by
  have e:(⟨bb,0,none⟩:Addr).add j=⟨bb,j,none⟩:=by unfold Addr.add;split<;>simp_all
  rw[e];exact(kh y j).trans (by simpa using hu)
 obtain⟨v',w',E,r1,r2,r3,r4⟩:=Tj (P:=Tryz.prog) (w:=w) Pl B0 89 89 100 i0 z0 14 160 Tryz.underlying89 z.info z.zero z.size z.bytes z.cells (by decide) G k xs q ⟨bb,0,none⟩ 1 1 (kt au id p 0 0 0 0 (.slice none 0 0)).toList rfl N (by intro u hu;simp[kt]at hu;rcases hu with rfl|rfl|rfl|rfl|rfl|rfl|rfl|rfl|rfl|rfl|rfl<;>rfl) (by unfold maxLen;omega) b (dE H J.size) L (X.keep D);have O:a.eval (.tmp 28)=G:=by simp[Act.eval,dA,h0]
 have R:a.eval (.tmp 35)=.slice (some ⟨bb,0,none⟩) 1 1:=by simp[Act.eval,dA,h1]
 have hsz:=J.size;unfold Oper.wp;simp[execOp,resolve,invoke,builtin,O,R,E,Result.andThen];refine Y _ _ ⟨r1,r3,r4.imp (fun e=>e) fun e=>⟨_,e,hsz⟩⟩ (fun j u M h=>?_) ⟨r2.os.trans r.os,r2.tape.trans r.tape,r2.output.trans r.output,dE r.size r2.size,fun i U hr=>(r2.block i (dF U r.size) hr).trans (r.block i U hr)⟩;unfold nL at h ⊢;split at h
 iterate 11 exact h
 ·obtain⟨F,e1,e2,V⟩:=h;exact⟨F,e1,e2,(r2.block _ (dv.1 V).1 fun e=>by have:=(C F e.symm).2;omega).trans V⟩
 ·exact absurd rfl M
 ·exact h
 ·exact h
 ·trivial
theorem TC(kp:sp<w0.heap.size)(m:sv.ownBlock≠some sp)(s1:w0.cell? ⟨sp,1,none⟩=some sv)(z:w0.frozen? ⟨sp,1,none⟩=false)(o:Oper)(a:Act)(w:World)(q:pY[15]?=some o)(b:∀(j:Nat)(o':Oper)(d:Nat),pY[j]?=some o'→o'.dst=some d→(∃e∈o.after,e.on=j∧Region.binds .any e=true)→∃v,a.tmps[d]?=some v∧nL sp cb B0 w0.heap.size au id p k xs sv j v w)(r:w0.grownBy w sv.ownBlock)(K:Act→World→Prop)(C:∀v w',(∃h v',w0.grownBy h sv.ownBlock∧h.ownsRow B0 100 14 v' (k+1) (xs++(kt au id p 0 0 0 0 (.slice none 0 0)).toList)∧oP Pl h v' ((k+1)*14)∧(v'.ownBlock=sv.ownBlock∨∃j,v'.ownBlock=some j∧w0.heap.size≤j)∧w'=h.setCell ⟨sp,1,none⟩ v')→K (a.put o.dst v) w'):o.wp Tryz.prog a w K Q:=by
 have hb:=r.block sp kp (fun e=>m e.symm);have G:=(jT (a:=⟨sp,1,none⟩) hb).trans s1;have H:=(jU (a:=⟨sp,1,none⟩) hb).trans z;simp only[pY,Tryz.f20,opsOf,ed]at q;simp[]at q;subst q;obtain⟨I,D,u⟩:=b 14 _ _ rfl rfl ⟨⟨14,.data⟩,by simp,rfl,rfl⟩;simp only[nL]at u;subst u;obtain⟨J,E,y⟩:=b 12 _ _ rfl rfl ⟨⟨12,.data⟩,by simp,rfl,rfl⟩;simp only[nL]at y;obtain⟨f,F,hw⟩:=y;obtain⟨ao,L,rfl,_⟩:=mV f;unfold Oper.wp execOp;simp only[Act.eval,dA,D,E,eE];go_simp;exact C undef _ ⟨w,_,r,f,F,hw,rfl⟩
end
end Go.Proofs.YtjnkcibpkkjniaaGreat
namespace Go.Proofs.YtjnkcibpkkjniaaGreat.kx
section
open Go Go.Proofs.YtjnkcibpkkjniaaGreat
def qo (au id:Int) (d:Nat→SD):Nat→List Value
 |0=>[]
 |k+1=>qo au id d k++((d k).cells au id).toList
theorem ze(au id:Int)(d:Nat→SD):∀k,(qo au id d k).length=14*k
 |0=>rfl
 |k+1=>by
  have h:((d k).cells au id).toList.length=14:=rfl;rw[qo,jh,ze au id d k,h];omega
theorem TD(au id:Int)(d:Nat→SD):∀n i j,i<n→j<14→(qo au id d n)[14*i+j]?=((d i).cells au id)[j]?:=by
 intro n
 induction n with
 |zero=>intro i j a;omega
 |succ n b =>
  intro i j a f;rw[qo]
  by_cases e:i=n
  ·subst e;rw[jW (by rw[ze];omega),ze,show 14*i+j-14*i=j by omega,jR]
  ·rw[jV (by rw[ze];omega)];exact b i j (by omega) f
variable {w:World} {n:Nat} {au id:Int}
theorem F6{B:Nat}{v:Value}{d:Nat→SD}(h:w.ownsRow B 100 14 v n (qo au id d n))(b:oP Pl w v (n*14))(y:0<n):∃xb xc Z,v=.slice (some ⟨xb,0,none⟩) n xc∧B≤xb∧(∃C,w.heap[xb]?=some (.cells C 100 (0,0))∧Flat C n Z au id d)∧∀u∈Z,Pl u:=by
 rcases h.2 with⟨_,e⟩|⟨g,cap,cur,rfl,k2,a,f,z,m,o⟩
 ·omega
 ·have hle:n*14≤cap*14:=ek 14 f;refine⟨g,cap,cur.toList.drop (n*14),rfl,k2,⟨cur,a,?_,fun i q j r=>?_,fun j=>?_⟩,b g cur _ _ rfl a⟩
  ·rw[jx,je,m];omega
  ·have e:(cur.toList.take (n*14))[14*i+j]?=(qo au id d n)[14*i+j]?:=by rw[o]
   rw[jF (by omega),jR]at e;rw[e];exact TD au id d n i j q r
  ·rw[jG,jR,dY n 14]
def oo (p:Pz):SD:=⟨p,n6,none,0,0⟩
theorem vm{p:Pz}{b:Nat}(h:(oo p).nm b):pW p b:=by
 rcases h with h|h|⟨ad,e,_⟩
 ·exact .inl h
 ·exact .inr h
 ·cases e
theorem F7{xb:Nat}{Z:List Value}{p:Nat→Pz}(hb:∃C,w.heap[xb]?=some (.cells C 100 (0,0))∧Flat C n Z au id (fun i=>oo (p i)))(m:∀u∈Z,Pl u)(hr:∀i,i<n→∀b,pW (p i) b→b≠xb∧mq w b)(o:∀i i',i<n→i'<n→i≠i'→∀b,pW (p i) b→¬pW (p i') b):n7 w xb n Z au id (fun i=>oo (p i)) :=
 ⟨hb,m,fun i a b h=>hr i a b (vm h),fun i a=>pV.nil w,fun i a k q=>(by cases q),fun i i' a e f b h h'=>o i i' a e f b (vm h) (vm h')⟩
end
end Go.Proofs.YtjnkcibpkkjniaaGreat.kx
namespace Go.Proofs.YtjnkcibpkkjniaaGreat
section
open Go Go.RowKit
open Go.Proofs.YtjnkcibpkkjniaaGreat.kN (lh lO oL)
open Go.Proofs.YtjnkcibpkkjniaaGreat.kx (mq pA nJ)
theorem F8{C:Array Value}(h:C.size=42):∃c0 c1 c2 c3 c4 c5 c6 c7 c8 c9 a b e lf f m o q r u y z D E F G H I J K L M N O R S T U V X Y aa,C=#[c0,c1,c2,c3,c4,c5,c6,c7,c8,c9,a,b,e,lf,f,m,o,q,r,u,y,z,D,E,F,G,H,I,J,K,L,M,N,O,R,S,T,U,V,X,Y,aa]:=by
 obtain⟨l⟩:=C
 match l,h with
 |c0::c1::c2::c3::c4::c5::c6::c7::c8::c9::a::b::e::lf::f::m::o::q::r::u::y::z::D::E::F::G::H::I::J::K::L::M::N::O::R::S::T::U::V::X::Y::aa::[],_=>exact⟨_,_,_,_,_,_,_,_,_,_,_,_,_,_,_,_,_,_,_,_,_,_,_,_,_,_,_,_,_,_,_,_,_,_,_,_,_,_,_,_,_,_,rfl⟩
end
section
open Go Go.RowKit
open Go.Proofs.YtjnkcibpkkjniaaGreat.kN (lh lO uj rU)
open Go.Proofs.YtjnkcibpkkjniaaGreat.kx (mq pW n7 qo oo F6 F7)
variable {au id:Int} {n:Nat} {P:Nat→Pr}
theorem TE(h:(mE au id n P).1=0):qJ au id n=true∧(∀i<n,mU (P i)=true):=by
 unfold mE at h;split at h
 ·rename_i f;refine⟨f,?_⟩;split at h
  ·rename_i r;intro i m
   cases hp:mU (P i)
   ·exfalso;have:∀d,d≤i→(∀j,j<d→mU (P j)=true):=by
     intro d
     induction d with
     |zero=>intro _ j b;omega
     |succ d e =>
      intro hd j b;rcases iL.1 b with a|a
      ·exact e (by omega) j a
      ·subst a
       cases o:mU (P j)
       ·have:=AP n 0 j (by omega) (fun x _ q=>e (by omega) x (by omega)) (by rw[dG];exact o);omega
       ·rfl
    have:=AP n 0 i m (fun x _ q=>this i (dD _) x (by omega)) (by rw[dG];exact hp);omega
   ·rfl
  ·simp at h
 ·simp at h
theorem TF:(mE au id n P).1=0∧(mE au id n P).2=0∨(mE au id n P).1=1:=by
 unfold mE;split
 ·split
  ·exact .inl ⟨rfl,rfl⟩
  ·exact .inr rfl
 ·exact .inr rfl
structure BJ (w:World) (g B n:Nat) (P:Nat→Pr) (t:Nat→Nat) (pz:Nat→Pz):Prop where
 at_:∀i,i<n→(pz i).au=(P i).au∧(pz i).hold=(P i).hold∧∀k u,(pz i).cells.toList[k]?=some u→w.cell? ⟨g,i*7+k,none⟩=some u
 im:∀i,i<n→∀ad,(pz i).ia=some ad→t (2*i)≤ad.block∧ad.block<t (2*i+1)∧mq w ad.block
 ex:∀i,i<n→∀ad,(pz i).ea=some ad→t (2*i+1)≤ad.block∧ad.block<t (2*i+2)∧mq w ad.block
theorem TG{w:World}{g B:Nat}{t:Nat→Nat}(e:oI w g n P)(f:nK w g B n t):∃pz,BJ w g B n P t pz:=by
 have:∀i,∃p:Pz,i<n→(p.au=(P i).au∧p.hold=(P i).hold∧∀k u,p.cells.toList[k]?=some u→w.cell? ⟨g,i*7+k,none⟩=some u)∧(∀ad,p.ia=some ad→t (2*i)≤ad.block∧ad.block<t (2*i+1)∧mq w ad.block)∧∀ad,p.ea=some ad→t (2*i+1)≤ad.block∧ad.block<t (2*i+2)∧mq w ad.block:=by
  intro i
  by_cases a:i<n
  ·obtain⟨⟨v5,m,o,q,r,rfl,y⟩,v6,z,C,D,E,rfl,F⟩:=f.at_ i a;refine⟨⟨(P i).au,(P i).hold,(P i).oi,(P i).oj,(P i).wait,o,q,r,C,D,E⟩,fun _=>⟨⟨rfl,rfl,fun k u hu=>?_⟩,y,F⟩⟩;have G:k<7:=(iV.1 hu).1;obtain rfl|rfl|rfl|rfl|rfl|rfl|rfl:k=0∨k=1∨k=2∨k=3∨k=4∨k=5∨k=6:=by omega
   ·exact e i a 0 u hu
   ·exact e i a 1 u hu
   ·exact e i a 2 u hu
   ·exact e i a 3 u hu
   ·exact e i a 4 u hu
   ·cases hu;exact m
   ·cases hu;exact z
  ·exact⟨⟨0,0,0,0,0,none,0,0,none,0,0⟩,fun h=>absurd h a⟩
 obtain⟨pz,b⟩:=Classical.axiomOfChoice this;exact⟨pz,fun i a=>(b i a).1,fun i a=>(b i a).2.1,fun i a=>(b i a).2.2⟩
def TH (w:World) (au id:Int) (n:Nat) (P:Nat→Pr) (e:Ending) (w':World):Prop :=
  ∃ p,e=.returned (.tuple #[.pointer p, .agg #[.int .i64 (mE au id n P).1, .int .i64 (mE au id n P).2]])∧Below w.heap.size w w' ∧
    (((mE au id n P).1≠0∧p=none)∨((mE au id n P).1=0∧(mE au id n P).2=0∧∃ sp sv,p=some ⟨sp,0,none⟩∧w.heap.size≤sp∧w'.heap[sp]? = some (.cells #[.int .i64 0,sv] 91 (0,0)) ∧
      ((n=0∧sv=.slice none 0 0)∨∃ (xb xc:Nat) (Z:List Value) (pz:Nat→Pz),0 < n∧sv=.slice (some ⟨xb,0,none⟩) n xc∧w.heap.size≤xb∧sp≠xb∧n7 w' xb n Z au id (fun i=>oo (pz i))∧(∀ i,i < n→(pz i).au=(P i).au∧(pz i).hold=(P i).hold)∧∀ i,i < n→∀ b,pW (pz i) b→w.heap.size≤b∧b≠sp)))
theorem F9{a b c:World}{row:Option Nat}(h:a.grownBy b row)(k:Below b.heap.size b c):a.grownBy c row :=
 ⟨k.os.trans h.os,k.tape.trans h.tape,k.output.trans h.output,dE h.size k.size,fun i e hr=>(k.block i (dF e h.size)).trans (h.block i e hr)⟩
structure NI (w W3:World) (sp g n gc:Nat) (au id:Int) (pz:Nat→Pz) (ao:Option Addr) (a:Act) (wr:World):Prop where
 kW:a.defers=[]
 hsz:a.tmps.size=42
 f1:a.tmps[1]?=some (.pointer (some ⟨w.heap.size,0,none⟩))
 f3:a.tmps[3]?=some (.pointer (some ⟨w.heap.size+1,0,none⟩))
 f5:a.tmps[5]?=some (.pointer (some ⟨sp,0,none⟩))
 f18:a.tmps[18]?=some (.slice ao n gc)
 f19:a.tmps[19]?=some (.int .i64 (n:Int))
 rest:∃k:Nat,a.tmps[20]?=some (.int .i64 (k:Int))∧k≤n∧Below sp W3 wr∧(∀b,b<W3.heap.size→b≠sp→wr.heap[b]?=W3.heap[b]?) ∧
  ∃sv,wr.heap[sp]?=some (.cells #[.int .i64 0,sv] 91 (0,0))∧wr.ownsRow W3.heap.size 100 14 sv k (qo au id (fun i=>oo (pz i)) k)∧oP Pl wr sv (k*14)∧(k=0→sv=.slice none 0 0)
def Ga (n:Nat) (a:Act):Nat:=match a.tmps[20]? with|some (Value.int _ k)=>n-k.toNat|_=>0
theorem TI(au id nh:Int)(ao:Option Addr)(n cap:Nat)(w:World):Sem.run Tryz.prog (Instr.field 25 (.agg #[.int .i64 au,.int .u32 id,.int .u32 nh,.slice ao n cap]) 3) w=.ok (.slice ao n cap) w:=by
 simp[Instr.field,part,isAgg,asAgg,go_sem]
theorem BK(au id nh:Int)(ao:Option Addr)(n cap:Nat)(P:Nat→Pr)(w:World)(h:nI w (.slice ao n cap) n P):Calls Tryz.prog 20 #[.agg #[.int .i64 au,.int .u32 id,.int .u32 nh,.slice ao n cap]] w fun e w'=>TH w au id n P e w':=by
 have H:Hid (nI w (.slice ao n cap) n P):=h;clear h;go_enter Tryz.func20,Tryz.ntmps20
 go_wp2_with fail
 refine(PE _ _ _ _ _ _ P _ (H.out.cell (((iJ _ _).alloc (dD _) _).alloc (by simp) _))).mono ?_;rintro e w1 ⟨rfl,hB⟩;have aF:Below w.heap.size w w1:=(((iJ _ _).alloc (dD _) _).alloc (by simp) _).trans (hB.mono (by simp only[iO];omega));have hz:w.heap.size+1<w1.heap.size:=by have:=hB.size;simp only[iO]at this;omega
 have O:w1.heap[w.heap.size]?=some (.cells #[.int .i64 au,.int .u32 id,.int .u32 nh,.slice ao n cap] 25):=by
  rw[hB.block _ (by simp only[iO];omega)];exact heap_alloc2_old _ _ _
 have R:w1.heap[w.heap.size+1]?=some (.cells #[.int .i64 0,.int .i64 0] 50):=by
  rw[hB.block _ (by simp only[iO];omega)];exact heap_alloc2_new _ _ _
 have aQ:w1.cell? ⟨w.heap.size,0,none⟩=some (.int .i64 au):=jY _ _ _ _ _ _ O;have aR:w1.cell? ⟨w.heap.size,1,none⟩=some (.int .u32 id):=jY _ _ _ _ _ _ O;have aS:w1.cell? ⟨w.heap.size,2,none⟩=some (.int .u32 nh):=jY _ _ _ _ _ _ O;have aT:w1.cell? ⟨w.heap.size,3,none⟩=some (.slice ao n cap):=jY _ _ _ _ _ _ O;have aU:w1.cell? ⟨w.heap.size+1,0,none⟩=some (.int .i64 0):=jY _ _ _ _ _ _ R;have aV:w1.cell? ⟨w.heap.size+1,1,none⟩=some (.int .i64 0):=jY _ _ _ _ _ _ R;have aW:w1.frozen? ⟨w.heap.size+1,0,none⟩=false:=j0 _ _ _ _ _ R;have aX:w1.frozen? ⟨w.heap.size+1,1,none⟩=false:=j0 _ _ _ _ _ R;clear hB;rcases TF (au:=au) (id:=id) (n:=n) (P:=P)with⟨M,h2⟩|M
 ·have aG:=TE M;rw[M,h2];have Hf:Hid (qJ au id n=true∧(∀i<n,mU (P i)=true)):=aG;have H1:Hid ((mE au id n P).1=0):=M;have H2:Hid ((mE au id n P).2=0):=h2;clear M h2 aG;have h8:n≤8:=by have:=Hf.out.1;simp[qJ]at this;omega
  have Hr:Hid (∀i<n,(P i).ni≤8∧(P i).ne≤8):=by
   intro i r;have:=Hf.out.2 i r;simp[mU,uZ]at this;omega
  have ah:w.heap.size<w1.heap.size:=by omega
  go_upto_region 5 with fail
  have eW:∃W,W=(w1.alloc (.cells #[.int .i64 0,.int .i64 0] 50)).alloc (.cells #[.int .i64 0,.slice none 0 0] 91):=⟨_,rfl⟩;obtain⟨W,eW⟩:=eW;have bj:W.heap.size=w1.heap.size+2:=by rw[eW];simp
  have S:Below w.heap.size w W:=by rw[eW];exact(aF.alloc (by omega) _).alloc (by simp only[iO];omega) _
  have hold:∀b,b<w1.heap.size→W.heap[b]?=w1.heap[b]?:=fun b hb=>by
   rw[eW,heap_alloc_old _ _ (by simp only[iO];omega),heap_alloc_old _ _ hb]
  have es:W.heap[w1.heap.size+1]?=some (.cells #[.int .i64 0,.slice none 0 0] 91 (0,0)):=by
   have:=jq (w1.alloc (.cells #[.int .i64 0,.int .i64 0] 50)) (.cells #[.int .i64 0,.slice none 0 0] 91);rw[eW];simpa using this
  have e0:=(hold _ (by omega)).trans O;have e1:=(hold _ (by omega)).trans R;have x0:=kh e0 0;have x1:=kh e0 1;have x2:=kh e0 2;have x3:=kh e0 3;simp at x0 x1 x2 x3;have aH:Hid (W.heap[w.heap.size]?=_):=e0;have aI:Hid (W.heap[w.heap.size+1]?=_):=e1;have aJ:Hid (W.heap[w1.heap.size+1]?=_):=es;rw[←eW];clear eW hold e0 e1 es aQ aR aS aT aU aV aW aX O R;have ai:=fun(U:Option Addr) (f:Nat) Y=>Go.Proofs.YtjnkcibpkkjniaaGreat.TI au id nh U n f Y
  go_wp2_with fail
  refine(Tr _ _ _ _ _ _ P _ (nI.cell H.out S) h8 Hr.out).mono ?_;rintro e w2 ⟨U,f,rfl,I,aa⟩;have aY:=ai U f;have bk:=I.size;have N:∃g B t,(0<n→n≤f∧W.heap.size≤g∧g<B∧U=some ⟨g,0,none⟩∧nK w2 g B n t∧W.heap.size≤B)∧∃pz,BJ w2 g B n P t pz:=by
   by_cases J:0<n
   ·obtain⟨q1,g,B,t,q2,q3,q4,q5,q6⟩:=aa J;exact⟨g,B,t,fun _=>⟨q1,q2,q3,q4,q6,by omega⟩,TG q5 q6⟩
   ·exact⟨0,0,fun _=>0,fun h=>absurd h J,fun _=>⟨0,0,0,0,0,none,0,0,none,0,0⟩,⟨fun i r=>absurd (iD (eP _) r) J,fun i r=>absurd (iD (eP _) r) J,fun i r=>absurd (iD (eP _) r) J⟩⟩
  obtain⟨g,B,t,N,pz,aK⟩:=N;have an:Hid (0<n→n≤f∧W.heap.size≤g∧g<B∧U=some ⟨g,0,none⟩∧nK w2 g B n t∧W.heap.size≤B):=N;have ax:Hid (BJ w2 g B n P t pz):=aK;have bl:Hid (Below W.heap.size W w2):=I;have aZ:Hid (w2.heap[w.heap.size]?=_):=(I.block _ (by omega)).trans aH.out;have a0:Hid (w2.heap[w.heap.size+1]?=_):=(I.block _ (by omega)).trans aI.out;have a1:Hid (w2.heap[w1.heap.size+1]?=_):=(I.block _ (by omega)).trans aJ.out;have a2:Hid (Below w.heap.size w w2):=S.trans (I.mono (by omega));clear N aK I aa x0 x1 x2 x3 aH aI aJ S
  go_wp2_with fail
  refine wp_loop (NI w w2 (w1.heap.size+1) g n f au id pz U) (fun a _=>Ga n a) ⟨rfl,rfl,rfl,rfl,rfl,rfl,rfl,0,rfl,eP _,iJ _ _,fun _ _ _=>rfl,_,a1.out,ju _ _ _ _,oP.nil _ _ _,fun _=>rfl⟩ ?_;intro a wr hI;obtain⟨kW,hsz,f1,f3,f5,f18,f19,k,f20,hk,ab,L,sv,aj,z,ak,ah⟩:=hI;obtain⟨tm,df⟩:=a;simp only at kW hsz f1 f3 f5 f18 f19 f20;subst kW;obtain⟨q0,q1,q2,q3,q4,q5,q6,q7,q8,q9,bm,bn,bo,bp,bq,br,bs,bt,bu,bv,bw,bx,bz,bA,bB,bC,bD,bE,bF,bG,bH,bI,bJ,bK,bL,bM,bN,bO,bP,bQ,bR,bS,rfl⟩:=F8 hsz;simp only[fV,gB,fW,dW]at f1 f3 f5 f18 f19 f20;subst f1 f3 f5 f18 f19 f20
  by_cases V:k<n
  ·have aL:decide ((k:Int)<(n:Int))=true:=by simpa using V
   have a3:(0:Int)≤(k:Int):=by omega
   have a4:(k:Int)<(n:Int):=by omega
   obtain⟨aM,a5,a6,a7,hL,S⟩:=an.out (by omega);subst a7;have a8:g<w2.heap.size:=iK _ _ ((ax.out.at_ k V).2.2 0 _ rfl);have E:∀j u,(pz k).cells.toList[j]?=some u→wr.cell? ⟨g,k*7+j,none⟩=some u:=fun j u hu=>(jT (a:=⟨g,k*7+j,none⟩) (L g a8 (by omega))).trans ((ax.out.at_ k V).2.2 j u hu)
   have c0:wr.cell? ⟨g,k*7,none⟩=some (.int .i64 (pz k).au):=E 0 _ rfl;have c1:=E 1 _ rfl;have c2:=E 2 _ rfl;have c3:=E 3 _ rfl;have c4:=E 4 _ rfl;have c5:=E 5 _ rfl;have c6:=E 6 _ rfl;have ae:=jA z;have aN:sv.ownBlock≠some (w1.heap.size+1):=fun e=>by have:=(ae _ e).1;omega
   have af:Hid (wr.ownsRow w2.heap.size 100 14 sv k (qo au id (fun i=>oo (pz i)) k)):=z;have ay:Hid (oP Pl wr sv (k*14)):=ak;have ap:Hid (∀j,sv.ownBlock=some j→w2.heap.size≤j∧j<wr.heap.size):=ae;have az:Hid (Below (w1.heap.size+1) w2 wr):=ab;have aA:Hid (∀b,b<w2.heap.size→b≠w1.heap.size+1→wr.heap[b]?=w2.heap[b]?):=L;have al:Hid (wr.heap[w1.heap.size+1]?=_):=aj;have a9:Hid (wr.heap[w.heap.size]?=_):=(L w.heap.size (by omega) (by omega)).trans aZ.out;have ba:Hid (sv.ownBlock≠some (w1.heap.size+1)):=aN;have bT:w2.heap.size≤wr.heap.size:=ab.size;clear z ak ae ab L aj aN E ah hL S aY
   go_wp2_with fail
   have g3:=jL wr (.cells #[.int .i64 (pz k).au,.int .i64 (pz k).hold,.int .i64 (pz k).oi,.int .i64 (pz k).oj,.int .i64 (pz k).wait,.slice (pz k).ia (pz k).il (pz k).ic,.slice (pz k).ea (pz k).el (pz k).ec] 69);have gk:∀b,b<wr.heap.size→(wr.alloc (.cells #[.int .i64 (pz k).au,.int .i64 (pz k).hold,.int .i64 (pz k).oi,.int .i64 (pz k).oj,.int .i64 (pz k).wait,.slice (pz k).ia (pz k).il (pz k).ic,.slice (pz k).ea (pz k).el (pz k).ec] 69)).heap[b]?=wr.heap[b]?:=fun b hb=>Go.heap_alloc_old _ _ hb
   have bb:(wr.alloc (.cells #[.int .i64 (pz k).au,.int .i64 (pz k).hold,.int .i64 (pz k).oi,.int .i64 (pz k).oj,.int .i64 (pz k).wait,.slice (pz k).ia (pz k).il (pz k).ic,.slice (pz k).ea (pz k).el (pz k).ec] 69)).heap.size=wr.heap.size+1:=by simp
   have aO:Hid (Below wr.heap.size wr (wr.alloc (.cells #[.int .i64 (pz k).au,.int .i64 (pz k).hold,.int .i64 (pz k).oi,.int .i64 (pz k).oj,.int .i64 (pz k).wait,.slice (pz k).ia (pz k).il (pz k).ic,.slice (pz k).ea (pz k).el (pz k).ec] 69))):=(iJ _ _).alloc (dD _) _;clear c0 c1 c2 c3 c4 c5 c6;generalize(wr.alloc (.cells #[.int .i64 (pz k).au,.int .i64 (pz k).hold,.int .i64 (pz k).oi,.int .i64 (pz k).oj,.int .i64 (pz k).wait,.slice (pz k).ia (pz k).il (pz k).ic,.slice (pz k).ea (pz k).el (pz k).ec] 69))=w3 at g3 gk bb aO ⊢;have aq:w1.heap.size+1<wr.heap.size:=by omega
   have b2:=(gk _ aq).trans al.out;have b0:=(gk w.heap.size (by omega)).trans a9.out;have s1:=kh b2 1;have m1:=lj b2 1;have c0:=kh b0 0;have c1:=kh b0 1;have d0:=kh g3 0;have d1:=kh g3 1;have d2:=kh g3 2;have d3:=kh g3 3;have d4:=kh g3 4;have d5:=kh g3 5;have d6:=kh g3 6;simp at s1 c0 c1 d0 d1 d2 d3 d4 d5 d6;have aB:∀j,sv.ownBlock=some j→w3.heap[j]?=wr.heap[j]?:=fun j hj=>gk j (ap.out j hj).2
   have ag:=lM af.out aB;have ar:=ay.out.keep aB;refine uj (D:=[]) (ops:=pY) (val:=nL (w1.heap.size+1) w.heap.size w2.heap.size w3.heap.size au id (pz k) k (qo au id (fun i=>oo (pz i)) k) sv) (ia:=12) (mem:=BI) (fix:=[(1,.pointer (some ⟨w.heap.size,0,none⟩)),(3,.pointer (some ⟨w.heap.size+1,0,none⟩)),(5,.pointer (some ⟨w1.heap.size+1,0,none⟩)),(7,.pointer (some ⟨wr.heap.size,0,none⟩)),(18,.slice (some ⟨g,0,none⟩) n f),(19,.int .i64 (n:Int)),(20,.int .i64 (k:Int))]) (T:=42) (A0:=fun Y=>Below w3.heap.size w3 Y) (Rel:=fun Y=>w3.grownBy Y sv.ownBlock) (n:=15) (Post:=fun _ w'=>∃wz v',w3.grownBy wz sv.ownBlock∧wz.ownsRow w2.heap.size 100 14 v' (k+1) (qo au id (fun i=>oo (pz i)) k++(kt au id (pz k) 0 0 0 0 (.slice none 0 0)).toList)∧oP Pl wz v' ((k+1)*14)∧(v'.ownBlock=sv.ownBlock∨∃j,v'.ownBlock=some j∧w3.heap.size≤j)∧w'=wz.setCell ⟨w1.heap.size+1,1,none⟩ v') (by kernel_rfl) Tx Tu Tv (by decide) Ty Tw (fun a b hB h=>h.trans (hB.mono h.size)) (fun a b hB h=>F9 h hB)
    (fun i o a Y r F ho m G hA _ K hK=>Tz (by omega) (by omega) (by omega) s1 c0 c1 d0 d1 d2 d3 d4 d5 d6 i o a Y r F ho (m (1,.pointer (some ⟨w.heap.size,0,none⟩)) (by simp)) (m (5,.pointer (some ⟨w1.heap.size+1,0,none⟩)) (by simp)) (m (7,.pointer (some ⟨wr.heap.size,0,none⟩)) (by simp)) G hA K hK)
    (fun o a Y ho m G hA hR K hK=>TB (by omega) (by omega) ag ar o a Y ho G hA hR (by omega) K hK)
    (fun o a Y ho m G hR K hK=>TC (by omega) ba.out s1 m1 o a Y ho G hR K hK)
    (fun a Y kW hsz m hP=>?_) rfl rfl ?_ ⟨⟨rfl,rfl,rfl,dD _,fun _ _=>rfl⟩,⟨rfl,rfl,rfl,dD _,fun _ _ _=>rfl⟩⟩
   rotate_left
   ·intro y hy;simp at hy;rcases hy with rfl|rfl|rfl|rfl|rfl|rfl|rfl<;>rfl
   obtain⟨wz,v',X,aC,aP,bd,rfl⟩:=hP;have f1:a.tmps[1]?=some (.pointer (some ⟨w.heap.size,0,none⟩)):=m (1,.pointer (some ⟨w.heap.size,0,none⟩)) (by simp);have f3:a.tmps[3]?=some (.pointer (some ⟨w.heap.size+1,0,none⟩)):=m (3,.pointer (some ⟨w.heap.size+1,0,none⟩)) (by simp);have f5:a.tmps[5]?=some (.pointer (some ⟨w1.heap.size+1,0,none⟩)):=m (5,.pointer (some ⟨w1.heap.size+1,0,none⟩)) (by simp);have f18:a.tmps[18]?=some (.slice (some ⟨g,0,none⟩) n f):=m (18,.slice (some ⟨g,0,none⟩) n f) (by simp);have f19:a.tmps[19]?=some (.int .i64 (n:Int)):=m (19,.int .i64 (n:Int)) (by simp);have f20:a.tmps[20]?=some (.int .i64 (k:Int)):=m (20,.int .i64 (k:Int)) (by simp);have F:∀b,b<wr.heap.size→b<w2.heap.size→wz.heap[b]?=wr.heap[b]?:=fun b hb bU=>(X.block b (by omega) (fun e=>by have:=(ap.out b e.symm).1;omega)).trans (gk b hb)
   have aD:=jA aC;have av:Below (w1.heap.size+1) w2 (wz.setCell ⟨w1.heap.size+1,1,none⟩ v')∧(∀b,b<w2.heap.size→b≠w1.heap.size+1→(wz.setCell ⟨w1.heap.size+1,1,none⟩ v').heap[b]?=w2.heap[b]?)∧∃sv,(wz.setCell ⟨w1.heap.size+1,1,none⟩ v').heap[w1.heap.size+1]?=some (.cells #[.int .i64 0,sv] 91 (0,0))∧(wz.setCell ⟨w1.heap.size+1,1,none⟩ v').ownsRow w2.heap.size 100 14 sv (k+1) (qo au id (fun i=>oo (pz i)) (k+1))∧oP Pl (wz.setCell ⟨w1.heap.size+1,1,none⟩ v') sv ((k+1)*14)∧(k+1=0→sv=.slice none 0 0):=by
    refine⟨?_,fun b hb J=>?_,v',?_,?_,?_,fun h=>absurd h (by omega)⟩
    ·refine jm (p:=⟨w1.heap.size+1,1,none⟩) ?_ (show w1.heap.size+1≤w1.heap.size+1 from dD _) v';have M:=az.out;have h2:=aO.out;refine⟨(X.os.trans h2.os).trans M.os,(X.tape.trans h2.tape).trans M.tape,(X.output.trans h2.output).trans M.output,dE M.size (dE h2.size X.size),fun b hb=>?_⟩;exact(F b (by omega) (by omega)).trans (M.block b hb)
    ·exact(kA (dJ J) 1 _).trans ((F b (by omega) hb).trans (aA.out b hb J))
    ·rw[lp ((F _ aq (by omega)).trans al.out)];rfl
    ·exact lM aC fun j hj=>kA (by have:=(aD j hj).1;omega) 1 _
    ·exact aP.keep fun j hj=>kA (by have:=(aD j hj).1;omega) 1 _
   have aw:Hid _:=av;clear av X aC aP bd F aD ag ar aB b0 b2 s1 m1 c0 c1 d0 d1 d2 d3 d4 d5 d6 g3 gk m;generalize(wz.setCell ⟨w1.heap.size+1,1,none⟩ v')=wq at aw ⊢;obtain⟨tm,df⟩:=a;simp only at kW hsz f1 f3 f5 f18 f19 f20;subst kW;obtain⟨z0,z1,z2,z3,z4,z5,z6,z7,z8,z9,bV,bW,bX,bY,bZ,b1,b3,b4,b5,b6,b7,b8,b9,ca,cc,cd,ce,cf,cg,ch,ci,cj,ck,cl,cm,cn,co,cp,cq,cr,ct,cu,rfl⟩:=F8 hsz;simp only[fV,gB,fW,dW]at f1 f3 f5 f18 f19 f20;subst f1 f3 f5 f18 f19 f20;have cv:IntKind.i64.wrap ((k:Int)+1)=((k+1:Nat):Int):=by
    rw[iC]<;>omega
   have HK:Hid (k+1≤n):=V;clear aL a3 a4 V aM
   go_wp2_with fail
   obtain⟨r1,r2,r3⟩:=aw.out;refine⟨⟨rfl,rfl,rfl,rfl,rfl,rfl,rfl,k+1,rfl,HK.out,r1,r2,r3⟩,?_⟩;simp only[Ga,fV,gB,fW];have:=HK.out;omega
  ·have aL:decide ((k:Int)<(n:Int))=false:=by simpa using V
   obtain rfl:k=n:=by omega
   have e1:=(L (w.heap.size+1) (by omega) (by omega)).trans a0.out;have y0:=kh e1 0;have y1:=kh e1 1;have z0:=lj e1 0;have z1:=lj e1 1;simp at y0 y1;have af:Hid (wr.ownsRow w2.heap.size 100 14 sv k (qo au id (fun i=>oo (pz i)) k)):=z;have ay:Hid (oP Pl wr sv (k*14)):=ak;have al:Hid (wr.heap[w1.heap.size+1]?=_):=aj;have az:Hid (Below w.heap.size w wr):=a2.out.trans (ab.mono (by omega));have aA:Hid (∀b,b<w2.heap.size→b≠w1.heap.size+1→wr.heap[b]?=w2.heap[b]?):=L;have be:Hid (k=0→sv=.slice none 0 0):=ah;have aE:Hid (∀b,b≠w.heap.size+1→((wr.setCell ⟨w.heap.size+1,0,none⟩ (.int .i64 0)).setCell ⟨w.heap.size+1,1,none⟩ (.int .i64 0)).heap[b]?=wr.heap[b]?):=fun b hb=>by
    rw[kA hb.symm 1 _,kA hb.symm 0 _]
   clear z ak aj ab L ah e1
   go_wp2_with fail
   refine iQ (v:=.tuple #[.pointer (some ⟨w1.heap.size+1,0,none⟩),.agg #[.int .i64 0,.int .i64 0]]) (by simp[results,Tryz.results20,go_sem, *]<;>rfl) rfl ⟨some _,by rw[H1.out,H2.out],jm (jm az.out (by simp) _) (by simp) _,.inr ⟨H1.out,H2.out,_,sv,rfl,by omega,(aE.out _ (by omega)).trans al.out,?_⟩⟩
   by_cases J:k=0
   ·exact .inl ⟨J,be.out J⟩
   ·have J:0<k:=by omega
    obtain⟨xb,xc,Z,rfl,cw,⟨C,hC,bf⟩,hZ⟩:=F6 af.out ay.out J;obtain⟨_,a5,a6,_,hL,S⟩:=an.out J;have hP:=ax.out;have bi:=hL.top;have am:∀i,i<k→∀b,pW (pz i) b→W.heap.size≤b∧b<w2.heap.size∧t (2*i)≤b∧b<t (2*i+2)∧mq w2 b∧(t (2*i)≤b∧b<t (2*i+1)∨t (2*i+1)≤b∧b<t (2*i+2)):=by
     intro i r b hb;have l0:=hL.le (i:=0) (j:=2*i) (by omega) (by omega);have l1:=hL.step (2*i) (by omega);have l2:t (2*i+1)≤t (2*i+2):=hL.step (2*i+1) (by omega);have l3:=hL.le (i:=2*i+2) (j:=2*k) (by omega) (by omega);have l4:=hL.low;rcases hb with⟨ad,e,rfl⟩|⟨ad,e,rfl⟩
     ·obtain⟨m1,m2,m3⟩:=hP.im i r ad e;exact⟨by omega,by omega,by omega,by omega,m3,.inl ⟨m1,m2⟩⟩
     ·obtain⟨m1,m2,m3⟩:=hP.ex i r ad e;exact⟨by omega,by omega,by omega,by omega,m3,.inr ⟨m1,m2⟩⟩
    have hM:n7 ((wr.setCell ⟨w.heap.size+1,0,none⟩ (.int .i64 0)).setCell ⟨w.heap.size+1,1,none⟩ (.int .i64 0)) xb k Z au id (fun i=>oo (pz i)):=by
     refine F7 ⟨C,(aE.out xb (by omega)).trans hC,bf⟩ hZ (fun i r b hb=>?_) (fun i i' r bg F b hb bh=>?_)
     ·obtain⟨m1,m2,_,_,m5,_⟩:=am i r b hb;exact⟨by omega,m5.keep ((aE.out b (by omega)).trans (aA.out b (by omega) (by omega)))⟩
     ·obtain⟨_,_,m3,m4,_,_⟩:=am i r b hb;obtain⟨_,_,r3,r4,_,_⟩:=am i' bg b bh;rcases Nat.lt_or_gt_of_ne F with h|h
      ·have:=hL.le (i:=2*i+2) (j:=2*i') (by omega) (by omega);omega
      ·have:=hL.le (i:=2*i'+2) (j:=2*i) (by omega) (by omega);omega
    exact .inr ⟨xb,xc,Z,pz,J,rfl,by omega,by omega,hM,fun i r=>⟨(hP.at_ i r).1,(hP.at_ i r).2.1⟩,fun i r b hb=>by
     have:=(am i r b hb).1;exact⟨by omega,by omega⟩⟩
 ·rw[M];obtain⟨q,hq⟩:∃q,(mE au id n P).2=q:=⟨_,rfl⟩;rw[hq];have H1:Hid ((mE au id n P).1=1):=M;have H2:Hid ((mE au id n P).2=q):=hq;clear M hq
  go_wp2_with fail
  go_region
  all_goals go_wp2_with fail
  all_goals exact iQ (v:=.tuple #[.pointer none,.agg #[.int .i64 1,.int .i64 q]]) (by simp[results,Tryz.results20,go_sem, *]) rfl ⟨none,by rw[H1.out,H2.out],by
   repeat(first|exact aF|refine Below.drew ?_|refine jm ?_ (by first|omega|(simp only[];omega)|simp) _|refine Below.alloc ?_ (by first|omega|(simp only[jk];omega)|simp) _),.inl ⟨by rw[H1.out];decide,rfl⟩⟩
end
section
open Go Go.RowKit
open Go.Proofs.YtjnkcibpkkjniaaGreat.kN (lh lO uj rU)
open Go.Proofs.YtjnkcibpkkjniaaGreat.kx (mq)
def pZ (hd lm wt:Int) (k:Nat) (g:Nat×Nat):List Value:=zc (100+(k:Int)) hd lm 100 wt (.slice (some ⟨g.1,0,none⟩) 1 1) (.slice (some ⟨g.2,0,none⟩) 1 1)
def pE (hd lm wt:Int) (gs:Nat→Nat×Nat):Nat→List Value
 |0=>[]
 |k+1=>pE hd lm wt gs k++pZ hd lm wt k (gs k)
theorem zf(hd lm wt:Int)(gs:Nat→Nat×Nat):∀k,(pE hd lm wt gs k).length=k*7
 |0=>rfl
 |k+1=>by unfold pE;rw[jh,zf hd lm wt gs k];simp[pZ,zc];omega
theorem Gb(hd lm wt:Int)(gs:Nat→Nat×Nat):∀k i j,i<k→j<7→(pE hd lm wt gs k)[i*7+j]?=(pZ hd lm wt i (gs i))[j]?
 |0,i,j,h,_=>absurd h (ik _)
 |k+1,i,j,h,a=>by
  unfold pE
  by_cases b:i<k
  ·rw[jV (by rw[zf];omega)];exact Gb hd lm wt gs k i j b a
  ·obtain rfl:i=k:=by omega
   rw[jW (by rw[zf];omega),zf];congr 1;omega
theorem Gc(hd lm wt:Int){gs gs':Nat→Nat×Nat}:∀k,(∀i,i<k→gs' i=gs i)→pE hd lm wt gs' k=pE hd lm wt gs k
 |0,_=>rfl
 |k+1,h=>by unfold pE;rw[Gc hd lm wt k fun i a=>h i (by omega),h k (by omega)]
def qq (w:World) (S:Nat) (g:Nat×Nat):Prop:=S≤g.1∧S≤g.2∧pD w g.1∧pD w g.2
theorem qq.below{w w':World}{S:Nat}{g:Nat×Nat}(h:qq w S g)(hB:Below w.heap.size w w'):qq w' S g:=⟨h.1,h.2.1,h.2.2.1.below hB,h.2.2.2.below hB⟩
theorem qq.keep{w w':World}{S:Nat}{g:Nat×Nat}(h:qq w S g)(k:∀b,b<w.heap.size→S≤b→w'.heap[b]?=w.heap[b]?):qq w' S g:=⟨h.1,h.2.1,h.2.2.1.keep (k _ h.2.2.1.lt h.1),h.2.2.2.keep (k _ h.2.2.2.lt h.2.1)⟩
def oz (cb B0 S0:Nat) (hd lm wt:Int) (k:Nat) (xs:List Value) (sv:Value):Nat→Value→World→Prop
 |0,v,_=>v=.pointer (some ⟨cb,3,none⟩)
 |1,v,_=>v=sv
 |2,v,_=>v=.int .i64 (k:Int)
 |3,v,_=>v=.int .i64 (100+(k:Int))
 |4,v,_=>v=.int .i64 hd
 |5,v,_=>v=.int .i64 lm
 |6,v,_=>v=.int .i64 wt
 |7,v,w=>∃g,v=.slice (some ⟨g,0,none⟩) 1 1∧S0≤g∧pD w g
 |8,v,w=>∃g,v=.slice (some ⟨g,0,none⟩) 1 1∧S0≤g∧pD w g
 |9,v,w=>∃g,v=.agg (pZ hd lm wt k g).toArray∧qq w S0 g
 |10,v,w=>∃g nb,v=.slice (some ⟨nb,0,none⟩) 1 1∧S0≤nb∧w.heap[nb]?=some (.cells (pZ hd lm wt k g).toArray 69 (0,0))∧qq w S0 g
 |11,v,w=>∃g,w.ownsRow B0 69 7 v (k+1) (xs++pZ hd lm wt k g)∧(v.ownBlock=sv.ownBlock∨∃j,v.ownBlock=some j∧S0≤j)∧qq w S0 g
 |12,v,_=>v=.pointer (some ⟨cb,3,none⟩)
 |_,_,_=>True
variable {cb B0 k:Nat} {hd lm wt:Int} {xs:List Value} {sv:Value}
theorem TJ{f:Nat}(w w':World)(i:Nat)(u:Value)(hB:Below w.heap.size w w')(h:oz cb B0 f hd lm wt k xs sv i u w):oz cb B0 f hd lm wt k xs sv i u w':=by
 unfold oz at h ⊢;split at h
 iterate 7 exact h
 ·obtain⟨g,a,b,e⟩:=h;exact⟨g,a,b,e.below hB⟩
 ·obtain⟨g,a,b,e⟩:=h;exact⟨g,a,b,e.below hB⟩
 ·obtain⟨g,a,b⟩:=h;exact⟨g,a,b.below hB⟩
 ·obtain⟨g,nb,a,b,e,m⟩:=h;exact⟨g,nb,a,b,(hB.block _ (dv.1 e).1).trans e,m.below hB⟩
 ·obtain⟨g,a,b,e⟩:=h;exact⟨g,lM a fun k o=>hB.block k (jA a k o).2,b,e.below hB⟩
 ·exact h
 ·trivial
def BL (i:Nat):Bool:=i == 1 || i == 7 || i == 8 || i == 9 || i == 10
theorem TK:rU qm 11 BL=true:=by kernel_rfl
theorem TL:lh qm [0,1,2,3,8,9,10] 31=true:=by kernel_rfl
variable {Q:Exit→Act→World→Prop} {w0:World}
theorem TM(L:k≤8)(r:cb<w0.heap.size)(c3:w0.cell? ⟨cb,3,none⟩=some sv)(i:Nat)(o:Oper)(a:Act)(w:World)(M:i<13)(F:i≠11)(u:qm[i]?=some o)(f1:a.tmps[1]?=some (.int .i64 hd))(f2:a.tmps[2]?=some (.int .i64 lm))(f3:a.tmps[3]?=some (.int .i64 wt))(f9:a.tmps[9]?=some (.pointer (some ⟨cb,0,none⟩)))(f10:a.tmps[10]?=some (.int .i64 (k:Int)))(b:∀(j:Nat)(o':Oper)(d:Nat),qm[j]?=some o'→o'.dst=some d→(∃e∈o.after,e.on=j∧Region.binds .any e=true)→∃v,a.tmps[d]?=some v∧oz cb B0 w0.heap.size hd lm wt k xs sv j v w)(q:BL i=true→Below w0.heap.size w0 w)(K:Act→World→Prop)(h:∀v w',oz cb B0 w0.heap.size hd lm wt k xs sv i v w'→Below w.heap.size w w'→K (a.put o.dst v) w'):o.wp Tryz.prog a w K Q:=by
 have hw:IntKind.i64.wrap (100+(k:Int))=100+(k:Int):=by rw[iC]<;>omega
 obtain rfl|rfl|rfl|rfl|rfl|rfl|rfl|rfl|rfl|rfl|rfl|rfl:i=0∨i=1∨i=2∨i=3∨i=4∨i=5∨i=6∨i=7∨i=8∨i=9∨i=10∨i=12:=by omega
 all_goals
  simp only[qm,Tryz.f29,opsOf,ed]at u;simp[]at u;subst u
 all_goals try
  first
  |(unfold Oper.wp execOp;simp only[Act.eval,dA,f9,f10,f1,f2,f3,eE];go_simp;exact h _ _ rfl (iJ _ _))
  |(obtain⟨y,m,f⟩:=b _ _ _ (by rfl) (by rfl) ⟨_,⟨List.Mem.head _⟩,rfl,rfl⟩;simp only[oz]at f;subst f;unfold Oper.wp execOp;simp only[Act.eval,dA,m,eE];go_simp;exact h _ _ rfl (iJ _ _))
 ·obtain⟨y,m,f⟩:=b 0 _ _ rfl rfl ⟨⟨0,.data⟩,by simp,rfl,rfl⟩;simp only[oz]at f;subst f;have N:=((q rfl).cell (p:=⟨cb,3,none⟩) r).trans c3;unfold Oper.wp execOp;simp only[Act.eval,dA,m,eE];go_simp;exact h _ _ rfl (iJ _ _)
 ·have hsz:=(q rfl).size;unfold Oper.wp execOp;go_simp;refine(F0 w).mono ?_;rintro e w1 ⟨g,rfl,z,C,hB⟩;exact h _ _ ⟨g,rfl,by omega,C⟩ hB
 ·have hsz:=(q rfl).size;unfold Oper.wp execOp;go_simp;refine(F0 w).mono ?_;rintro e w1 ⟨g,rfl,z,C,hB⟩;exact h _ _ ⟨g,rfl,by omega,C⟩ hB
 ·obtain⟨y,m,f⟩:=b 3 _ _ rfl rfl ⟨⟨3,.data⟩,by simp,rfl,rfl⟩;obtain⟨O,R,D⟩:=b 4 _ _ rfl rfl ⟨⟨4,.data⟩,by simp,rfl,rfl⟩;obtain⟨S,T,p2⟩:=b 5 _ _ rfl rfl ⟨⟨5,.data⟩,by simp,rfl,rfl⟩;obtain⟨U,V,p3⟩:=b 6 _ _ rfl rfl ⟨⟨6,.data⟩,by simp,rfl,rfl⟩;obtain⟨X,Y,p4⟩:=b 7 _ _ rfl rfl ⟨⟨7,.data⟩,by simp,rfl,rfl⟩;obtain⟨u5,h5,E⟩:=b 8 _ _ rfl rfl ⟨⟨8,.data⟩,by simp,rfl,rfl⟩;simp only[oz]at f D p2 p3 p4 E;subst f D p2 p3;obtain⟨G,rfl,H,r1⟩:=p4;obtain⟨I,rfl,J,r2⟩:=E;unfold Oper.wp execOp;simp only[Act.eval,dA];go_simp;exact h _ _ ⟨(G,I),rfl,H,J,r1,r2⟩ (iJ _ _)
 ·obtain⟨y,m,f⟩:=b 9 _ _ rfl rfl ⟨⟨9,.data⟩,by simp,rfl,rfl⟩;simp only[oz]at f;obtain⟨g,rfl,z⟩:=f;have hsz:=(q rfl).size;simp only[pZ,zc]at m;unfold Oper.wp execOp;simp only[Act.eval,dA];go_simp;have hB:Below w.heap.size w (w.alloc (.cells (pZ hd lm wt k g).toArray 69)):=(iJ _ _).alloc (dD _) _;exact h _ _ ⟨g,w.heap.size,rfl,hsz,jL w _,z.below hB⟩ hB
theorem TN(h8:k≤8)(I:B0≤w0.heap.size)(q:w0.ownsRow B0 69 7 sv k xs)(o:Oper)(a:Act)(w:World)(J:qm[11]?=some o)(r:∀(j:Nat)(o':Oper)(d:Nat),qm[j]?=some o'→o'.dst=some d→(∃e∈o.after,e.on=j∧Region.binds .any e=true)→∃v,a.tmps[d]?=some v∧oz cb B0 w0.heap.size hd lm wt k xs sv j v w)(L:Below w0.heap.size w0 w)(C:w0.grownBy w sv.ownBlock)(K:Act→World→Prop)(X:∀v w',oz cb B0 w0.heap.size hd lm wt k xs sv 11 v w'→(∀j u,j≠11→oz cb B0 w0.heap.size hd lm wt k xs sv j u w→oz cb B0 w0.heap.size hd lm wt k xs sv j u w')→w0.grownBy w' sv.ownBlock→K (a.put o.dst v) w'):o.wp Tryz.prog a w K Q:=by
 simp only[qm,Tryz.f29,opsOf,ed]at J;simp[]at J;subst J;obtain⟨H,Y,T⟩:=r 1 _ _ rfl rfl ⟨⟨1,.data⟩,by simp,rfl,rfl⟩;simp only[oz]at T;subst T;obtain⟨u1,m,U⟩:=r 10 _ _ rfl rfl ⟨⟨10,.data⟩,by simp,rfl,rfl⟩;simp only[oz]at U;obtain⟨g,bb,rfl,aa,D,hg⟩:=U;obtain⟨i0,z0,E⟩:=Tl;have F:=jA q;have M:∀j,H.ownBlock=some j→w.heap[j]?=w0.heap[j]?:=fun j N=>L.block j (F j N).2
 have z:w.ownsRow B0 69 7 H k xs:=lM q M;have O:∀(j:Nat)(u:Value),(pZ hd lm wt k g)[j]?=some u→w.cell? ((⟨bb,0,none⟩:Addr).add j)=some u:=fun j u hu=>by
  have e:(⟨bb,0,none⟩:Addr).add j=⟨bb,j,none⟩:=by unfold Addr.add;split<;>simp_all
  rw[e];exact(kh D j).trans (by simpa using hu)
 obtain⟨v',w',G,r1,r2,_,r4⟩:=j4 (P:=Tryz.prog) (w:=w) B0 23 23 69 i0 z0 7 88 Tryz.underlying23 E.info E.zero E.size E.bytes E.cells (by decide) H k xs z ⟨bb,0,none⟩ 1 1 (pZ hd lm wt k g) rfl O (by intro u hu;simp[pZ,zc]at hu;rcases hu with rfl|rfl|rfl|rfl|rfl|rfl|rfl<;>rfl) (by unfold maxLen;omega) (by omega) (dE I L.size);have R:a.eval (.tmp 18)=H:=by simp[Act.eval,dA,Y]
 have S:a.eval (.tmp 27)=.slice (some ⟨bb,0,none⟩) 1 1:=by simp[Act.eval,dA,m]
 have hsz:=L.size;have kept:∀b,b<w.heap.size→w0.heap.size≤b→w'.heap[b]?=w.heap[b]?:=fun b hb hs=>r2.block b hb fun e=>by have:=(F b e.symm).2;omega
 unfold Oper.wp;simp[execOp,resolve,invoke,builtin,R,S,G,Result.andThen];refine X _ _ ⟨g,r1,r4.imp (fun e=>e) fun e=>⟨_,e,hsz⟩,hg.keep kept⟩ (fun j u N h=>?_) ⟨r2.os.trans C.os,r2.tape.trans C.tape,r2.output.trans C.output,dE C.size r2.size,fun i V hr=>(r2.block i (dF V C.size) hr).trans (C.block i V hr)⟩;unfold oz at h ⊢;split at h
 iterate 7 exact h
 ·obtain⟨g,m,f,y⟩:=h;exact⟨g,m,f,y.keep (kept _ y.lt f)⟩
 ·obtain⟨g,m,f,y⟩:=h;exact⟨g,m,f,y.keep (kept _ y.lt f)⟩
 ·obtain⟨g,m,f⟩:=h;exact⟨g,m,f.keep kept⟩
 ·obtain⟨g,nb,m,f,y,h4⟩:=h;exact⟨g,nb,m,f,(kept nb (dv.1 y).1 f).trans y,h4.keep kept⟩
 ·exact absurd rfl N
 ·exact h
 ·trivial
theorem TO(m:cb<w0.heap.size)(q:sv.ownBlock≠some cb)(s1:w0.cell? ⟨cb,3,none⟩=some sv)(C:w0.frozen? ⟨cb,3,none⟩=false)(o:Oper)(a:Act)(w:World)(r:qm[13]?=some o)(b:∀(j:Nat)(o':Oper)(d:Nat),qm[j]?=some o'→o'.dst=some d→(∃e∈o.after,e.on=j∧Region.binds .any e=true)→∃v,a.tmps[d]?=some v∧oz cb B0 w0.heap.size hd lm wt k xs sv j v w)(u:w0.grownBy w sv.ownBlock)(K:Act→World→Prop)(D:∀v w',(∃h v' g,w0.grownBy h sv.ownBlock∧h.ownsRow B0 69 7 v' (k+1) (xs++pZ hd lm wt k g)∧(v'.ownBlock=sv.ownBlock∨∃j,v'.ownBlock=some j∧w0.heap.size≤j)∧qq h w0.heap.size g∧w'=h.setCell ⟨cb,3,none⟩ v')→K (a.put o.dst v) w'):o.wp Tryz.prog a w K Q:=by
 have hb:=u.block cb m (fun e=>q e.symm);have H:=(jT (a:=⟨cb,3,none⟩) hb).trans s1;have I:=(jU (a:=⟨cb,3,none⟩) hb).trans C;simp only[qm,Tryz.f29,opsOf,ed]at r;simp[]at r;subst r;obtain⟨J,E,y⟩:=b 12 _ _ rfl rfl ⟨⟨12,.data⟩,by simp,rfl,rfl⟩;simp only[oz]at y;subst y;obtain⟨L,F,z⟩:=b 11 _ _ rfl rfl ⟨⟨11,.data⟩,by simp,rfl,rfl⟩;simp only[oz]at z;obtain⟨g,f,G,hw⟩:=z;obtain⟨ao,M,rfl,_⟩:=mV f;unfold Oper.wp execOp;simp only[Act.eval,dA,E,F,eE];go_simp;exact D undef _ ⟨w,_,g,u,f,G,hw,rfl⟩
def tB (hd lm wt:Int) (gs:Nat→Nat×Nat) (i:Nat):Pr:=⟨100+(i:Int),hd,lm,100,wt,.slice (some ⟨(gs i).1,0,none⟩) 1 1,1,fun _=>⟨true,0,0,0,32⟩,.slice (some ⟨(gs i).2,0,none⟩) 1 1,1,fun _=>⟨true,0,0,0,32⟩⟩
variable {w:World}
theorem Gd {g:Nat} (hg:pD w g):mL w (.slice (some ⟨g,0,none⟩) 1 1) 1 fun _=>⟨true,0,0,0,32⟩:=⟨⟨_,_,rfl,dD _,by decide,fun _=>⟨g,0,rfl,fun i hi k u hu=>by
  obtain rfl:i=0:=by omega
  simp only [ez,dG]
  rw [jY _ _ _ _ _ _ hg]
  exact (fV ..).trans hu⟩⟩,fun _ _=>⟨Int.le_refl 0,by show (0:Int) < 4294967296;decide⟩⟩
variable {n:Nat}
theorem TT{B:Nat}{v:Value}{gs:Nat→Nat×Nat}(h:w.ownsRow B 69 7 v n (pE hd lm wt gs n))(hr:∀i,i<n→qq w B (gs i)):nI w v n (tB hd lm wt gs):=by
 refine⟨?_,fun i a=>⟨Gd (hr i a).2.2.1,Gd (hr i a).2.2.2⟩⟩;rcases h.2 with⟨rfl,e⟩|⟨g,cap,cur,rfl,_,f,m,o,_,q⟩
 ·subst e;exact⟨none,0,rfl,dD _,by decide,fun h=>by omega⟩
 ·refine⟨_,_,rfl,m,o,fun _=>⟨g,0,rfl,fun i a k u hu=>?_⟩⟩;have r:k<7:=(iV.1 hu).1;have b:=Gb hd lm wt gs n i k a r;rw[←q,jF (by omega)]at b;rw[jY _ _ _ _ _ _ f,dG,←jR,b];exact hu
theorem TU(hd:Int)(a:hd=0∨3≤hd∧hd≤65535)(lm:Int)(b:0≤lm)(gs:Nat→Nat×Nat)(i:Nat)(q:i<8):mU (tB hd lm 0 gs i)=true:=by
 have e:holdB hd=true:=by
  rcases a with rfl|a
  ·rfl
  ·simp[holdB,nR];omega
 have f:uZ 1 (fun _=>(⟨true,0,0,0,32⟩:Rl))=true:=by rfl
 have h:nR (100+(i:Int)) 1 65535=true:=by simp[nR];omega
 have m:nR 100 0 2147483648=true:=rfl;have o:nR 0 0 1000=true:=rfl;simp[mU,tB,e,f,h,m,o,b]
theorem TV{au id:Int}{P:Nat→Pr}(e:n≤8)(a:qJ au id n=true)(h:∀i,i<n→mU (P i)=true):mE au id n P=(0,0):=by
 have key:∀m k,k+m≤n→qK P k m=0:=by
  intro m
  induction m with
  |zero=>intro k _;rfl
  |succ m b=>intro k f;unfold qK;rw[h k (by omega)];exact b (k+1) (by omega)
 unfold mE;rw[a,key n 0 (by omega)];rfl
structure CI (w:World) (hd lm wt:Int) (n:Nat) (a:Act) (wr:World):Prop where
 kW:a.defers=[]
 hsz:a.tmps.size=31
 f0:a.tmps[0]?=some (.int .i64 (n:Int))
 f1:a.tmps[1]?=some (.int .i64 hd)
 f2:a.tmps[2]?=some (.int .i64 lm)
 f3:a.tmps[3]?=some (.int .i64 wt)
 f8:a.tmps[8]?=some (.pointer (some ⟨w.heap.size,0,none⟩))
 f9:a.tmps[9]?=some (.pointer (some ⟨w.heap.size+1,0,none⟩))
 rest:∃k:Nat,a.tmps[10]?=some (.int .i64 (k:Int))∧k≤n∧Below w.heap.size w wr∧wr.heap[w.heap.size]?=some (.cells #[.int .i64 0,.int .u32 0,.int .u32 0,.slice none 0 0] 25 (0,0)) ∧
  ∃sv gs,wr.heap[w.heap.size+1]?=some (.cells #[.int .i64 65000,.int .u32 200,.int .u32 168430090,sv] 25 (0,0))∧wr.ownsRow (w.heap.size+2) 69 7 sv k (pE hd lm wt gs k)∧∀i,i<k→qq wr (w.heap.size+2) (gs i)
def Ge (n:Nat) (a:Act):Nat:=match a.tmps[10]? with|some (Value.int _ k)=>n-k.toNat|_=>0
theorem TW(w:World)(n:Nat)(h8:n≤8)(hd lm wt:Int):Calls Tryz.prog 29 #[.int .i64 (n:Int),.int .i64 hd,.int .i64 lm,.int .i64 wt] w fun e w'=>∃v gs,e=.returned (.agg #[.int .i64 65000,.int .u32 200,.int .u32 168430090,v])∧nI w' v n (tB hd lm wt gs)∧Below w.heap.size w w':=by
 go_enter Tryz.func29,Tryz.ntmps29
 go_wp2_with fail
 have e0:((w.alloc (.cells #[.int .i64 0,.int .u32 0,.int .u32 0,.slice none 0 0] 25)).alloc (.cells #[.int .i64 65000,.int .u32 200,.int .u32 168430090,.slice none 0 0] 25)).heap[w.heap.size+1]?=some (.cells #[.int .i64 65000,.int .u32 200,.int .u32 168430090,.slice none 0 0] 25 (0,0)):=by
  have:=jL (w.alloc (.cells #[.int .i64 0,.int .u32 0,.int .u32 0,.slice none 0 0] 25)) (.cells #[.int .i64 65000,.int .u32 200,.int .u32 168430090,.slice none 0 0] 25);simpa using this
 have e1:((w.alloc (.cells #[.int .i64 0,.int .u32 0,.int .u32 0,.slice none 0 0] 25)).alloc (.cells #[.int .i64 65000,.int .u32 200,.int .u32 168430090,.slice none 0 0] 25)).heap[w.heap.size]?=some (.cells #[.int .i64 0,.int .u32 0,.int .u32 0,.slice none 0 0] 25 (0,0)) :=
  (Go.heap_alloc_old _ _ (by simp)).trans (jL w _)
 have V:Below w.heap.size w ((w.alloc (.cells #[.int .i64 0,.int .u32 0,.int .u32 0,.slice none 0 0] 25)).alloc (.cells #[.int .i64 65000,.int .u32 200,.int .u32 168430090,.slice none 0 0] 25)):=ji;have hsz:((w.alloc (.cells #[.int .i64 0,.int .u32 0,.int .u32 0,.slice none 0 0] 25)).alloc (.cells #[.int .i64 65000,.int .u32 200,.int .u32 168430090,.slice none 0 0] 25)).heap.size=w.heap.size+2:=by simp
 generalize((w.alloc (.cells #[.int .i64 0,.int .u32 0,.int .u32 0,.slice none 0 0] 25)).alloc (.cells #[.int .i64 65000,.int .u32 200,.int .u32 168430090,.slice none 0 0] 25))=w1 at e0 e1 V hsz ⊢;refine wp_loop (CI w hd lm wt n) (fun a _=>Ge n a) ⟨rfl,rfl,rfl,rfl,rfl,rfl,rfl,rfl,0,rfl,eP _,V,e1,_,fun _=>(0,0),e0,ju _ _ _ _,fun i R=>absurd R (ik _)⟩ ?_;clear e0 e1 V hsz;intro a wr hI;obtain⟨kW,hsz,f0,f1,f2,f3,f8,f9,k,f10,hk,J,q,sv,gs,z,r,L⟩:=hI;obtain⟨tm,df⟩:=a;simp only at kW hsz f0 f1 f2 f3 f8 f9 f10;subst kW;obtain⟨k0,k1,k2,k3,k4,k5,k6,k7,k8,k9,aq,ar,av,aw,ax,ay,az,aA,aB,aC,aD,aE,aF,aG,aH,aI,aJ,aK,aL,aM,aN,rfl⟩:=F1 hsz;simp only[fV,gB,fW,dW]at f0 f1 f2 f3 f8 f9 f10;subst f0 f1 f2 f3 f8 f9 f10;have F:=jA r;have X:w.heap.size+1<wr.heap.size:=(dv.1 z).1
 by_cases M:k<n
 ·have af:decide ((k:Int)<(n:Int))=true:=by simpa using M
  have aj:(0:Int)≤(k:Int):=by omega
  have ak:(k:Int)<(n:Int):=by omega
  have G:Hid (_):=r;have Y:Hid (_):=L;have aa:Hid (Below w.heap.size w wr):=J;have al:Hid (_):=q;have ab:Hid (_):=z;have N:Hid (_):=F;clear r L J q z F
  go_wp2_with fail
  have s1:=kh ab.out 3;have m1:=lj ab.out 3;simp at s1;refine uj (D:=[]) (ops:=qm) (val:=oz (w.heap.size+1) (w.heap.size+2) wr.heap.size hd lm wt k (pE hd lm wt gs k) sv) (ia:=11) (mem:=BL) (fix:=[(0,.int .i64 (n:Int)),(1,.int .i64 hd),(2,.int .i64 lm),(3,.int .i64 wt),(8,.pointer (some ⟨w.heap.size,0,none⟩)),(9,.pointer (some ⟨w.heap.size+1,0,none⟩)),(10,.int .i64 (k:Int))]) (T:=31) (A0:=fun I=>Below wr.heap.size wr I) (Rel:=fun I=>wr.grownBy I sv.ownBlock) (n:=13) (Post:=fun _ w'=>∃H v' g,wr.grownBy H sv.ownBlock∧H.ownsRow (w.heap.size+2) 69 7 v' (k+1) (pE hd lm wt gs k++pZ hd lm wt k g)∧(v'.ownBlock=sv.ownBlock∨∃j,v'.ownBlock=some j∧wr.heap.size≤j)∧qq H wr.heap.size g∧w'=H.setCell ⟨w.heap.size+1,3,none⟩ v') (by kernel_rfl) TL Tm Tn (by decide) TK TJ (fun a b hB h=>h.trans (hB.mono h.size)) (fun a b hB h=>F9 h hB)
   (fun i o a I R am ho f C hA _ K hK=>TM (by omega) X s1 i o a I R am ho (f (1,.int .i64 hd) (by simp)) (f (2,.int .i64 lm) (by simp)) (f (3,.int .i64 wt) (by simp)) (f (9,.pointer (some ⟨w.heap.size+1,0,none⟩)) (by simp)) (f (10,.int .i64 (k:Int)) (by simp)) C hA K hK)
   (fun o a I ho f C hA hR K hK=>TN (by omega) (by omega) G.out o a I ho C hA hR K hK)
   (fun o a I ho f C hR K hK=>TO X (fun e=>by have:=(N.out _ e).1;omega) s1 m1 o a I ho C hR K hK)
   (fun a I kW hsz f hP=>?_) rfl rfl ?_ ⟨⟨rfl,rfl,rfl,dD _,fun _ _=>rfl⟩,⟨rfl,rfl,rfl,dD _,fun _ _ _=>rfl⟩⟩
  rotate_left
  ·intro y hy;simp at hy;rcases hy with rfl|rfl|rfl|rfl|rfl|rfl|rfl<;>rfl
  obtain⟨H,v',g,u,ad,an,E,rfl⟩:=hP;have f0:a.tmps[0]?=some (.int .i64 (n:Int)):=f (0,.int .i64 (n:Int)) (by simp);have f1:a.tmps[1]?=some (.int .i64 hd):=f (1,.int .i64 hd) (by simp);have f2:a.tmps[2]?=some (.int .i64 lm):=f (2,.int .i64 lm) (by simp);have f3:a.tmps[3]?=some (.int .i64 wt):=f (3,.int .i64 wt) (by simp);have f8:a.tmps[8]?=some (.pointer (some ⟨w.heap.size,0,none⟩)):=f (8,.pointer (some ⟨w.heap.size,0,none⟩)) (by simp);have f9:a.tmps[9]?=some (.pointer (some ⟨w.heap.size+1,0,none⟩)):=f (9,.pointer (some ⟨w.heap.size+1,0,none⟩)) (by simp);have f10:a.tmps[10]?=some (.int .i64 (k:Int)):=f (10,.int .i64 (k:Int)) (by simp);have ag:=jA ad;have ap:=u.size;have S:Below w.heap.size w (H.setCell ⟨w.heap.size+1,3,none⟩ v')∧(H.setCell ⟨w.heap.size+1,3,none⟩ v').heap[w.heap.size]?=some (.cells #[.int .i64 0,.int .u32 0,.int .u32 0,.slice none 0 0] 25 (0,0))∧∃sv gs,(H.setCell ⟨w.heap.size+1,3,none⟩ v').heap[w.heap.size+1]?=some (.cells #[.int .i64 65000,.int .u32 200,.int .u32 168430090,sv] 25 (0,0))∧(H.setCell ⟨w.heap.size+1,3,none⟩ v').ownsRow (w.heap.size+2) 69 7 sv (k+1) (pE hd lm wt gs (k+1))∧∀i,i<k+1→qq (H.setCell ⟨w.heap.size+1,3,none⟩ v') (w.heap.size+2) (gs i):=by
   have ae:∀b,b<w.heap.size+2→H.heap[b]?=wr.heap[b]?:=fun b hb=>u.block b (by omega) (fun e=>by have:=(N.out b e.symm).1;omega)
   refine⟨?_,?_,v',fun i=>if i=k then g else gs i,?_,?_,fun i R=>?_⟩
   ·refine jm (p:=⟨w.heap.size+1,3,none⟩) ?_ (show w.heap.size≤w.heap.size+1 by omega) v';have h1:=aa.out;exact⟨u.os.trans h1.os,u.tape.trans h1.tape,u.output.trans h1.output,dE h1.size u.size,fun b hb=>(ae b (by omega)).trans (h1.block b hb)⟩
   ·exact(kA (by omega) 3 _).trans ((ae _ (by omega)).trans al.out)
   ·rw[lp ((ae _ (by omega)).trans ab.out)];rfl
   ·have e:pE hd lm wt (fun i=>if i=k then g else gs i) (k+1)=pE hd lm wt gs k++pZ hd lm wt k g:=by
     show pE hd lm wt (fun i=>if i=k then g else gs i) k++pZ hd lm wt k (if k=k then g else gs k)=_;rw[Gc hd lm wt (gs:=gs) k fun i R=>by simp[dN R],dr rfl]
    rw[e];exact lM ad fun j hj=>kA (by have:=(ag j hj).1;omega) 3 _
   ·have m:∀b,w.heap.size+2≤b→(H.setCell ⟨w.heap.size+1,3,none⟩ v').heap[b]?=H.heap[b]?:=fun b hb=>kA (by omega) 3 _
    by_cases ah:i=k
    ·subst ah;simp only[dn];exact⟨by have:=E.1;omega,by have:=E.2.1;omega,E.2.2.1.keep (m _ (by have:=E.1;omega)),E.2.2.2.keep (m _ (by have:=E.2.1;omega))⟩
    ·simp only[ah,dp];obtain⟨q1,q2,q3,q4⟩:=Y.out i (by omega);have ai:∀b,pD wr b→sv.ownBlock≠some b:=fun b hb e=>by
      rcases G.out.2 with⟨rfl,_⟩|⟨g',cap,cur,rfl,_,k3,_⟩
      ·cases e
      ·cases e
       unfold pD at hb;rw[k3]at hb;simp at hb
     exact⟨q1,q2,q3.keep ((m _ q1).trans (u.block _ q3.lt fun e=>ai _ q3 e.symm)),q4.keep ((m _ q2).trans (u.block _ q4.lt fun e=>ai _ q4 e.symm))⟩
  have U:Hid _:=S;clear S u ad an E ag ap s1 m1 f;generalize(H.setCell ⟨w.heap.size+1,3,none⟩ v')=wq at U ⊢;obtain⟨tm,df⟩:=a;simp only at kW hsz f0 f1 f2 f3 f8 f9 f10;subst kW;obtain⟨z0,z1,z2,z3,z4,z5,z6,z7,z8,z9,aO,aP,aQ,aR,aS,aT,aU,aV,aW,aX,aY,aZ,a0,a1,a2,a3,a4,a5,a6,a7,a8,rfl⟩:=F1 hsz;simp only[fV,gB,fW,dW]at f0 f1 f2 f3 f8 f9 f10;subst f0 f1 f2 f3 f8 f9 f10;have a9:IntKind.i64.wrap ((k:Int)+1)=((k+1:Nat):Int):=by
   rw[iC]<;>omega
  have HK:Hid (k+1≤n):=M;clear af aj ak M X
  go_wp2_with fail
  obtain⟨r1,r2,r3⟩:=U.out;refine⟨⟨rfl,rfl,rfl,rfl,rfl,rfl,rfl,rfl,k+1,rfl,HK.out,r1,r2,r3⟩,?_⟩;simp only[Ge,fV,gB,fW];have:=HK.out;omega
 ·have af:decide ((k:Int)<(n:Int))=false:=by simpa using M
  obtain rfl:k=n:=by omega
  have y0:=kh z 0;have y1:=kh z 1;have y2:=kh z 2;have y3:=kh z 3;have x0:=kh q 0;have x1:=kh q 1;have x2:=kh q 2;have x3:=kh q 3;have z0:=lj q 0;have z1:=lj q 1;have z2:=lj q 2;have z3:=lj q 3;simp at y0 y1 y2 y3 x0 x1 x2 x3;have G:Hid (_):=r;have Y:Hid (_):=L;have aa:Hid (Below w.heap.size w wr):=J;have N:Hid (_):=F;have HS:Hid (∃ao O,sv=.slice ao k O∧True):=by
   obtain⟨ao,O,e,_⟩:=mV r;exact⟨ao,O,e,trivial⟩
  obtain⟨ao,O,rfl,_⟩:=HS.out;clear r L J F q z HS
  go_wp2_with fail
  have m:∀b,w.heap.size+2≤b→((((wr.setCell ⟨w.heap.size,0,none⟩ (.int .i64 65000)).setCell ⟨w.heap.size,1,none⟩ (.int .u32 200)).setCell ⟨w.heap.size,2,none⟩ (.int .u32 168430090)).setCell ⟨w.heap.size,3,none⟩ (.slice ao k O)).heap[b]?=wr.heap[b]?:=fun b hb=>by
   rw[kA (by omega) 3 _,kA (by omega) 2 _,kA (by omega) 1 _,kA (by omega) 0 _]
  have HF:Hid (Below w.heap.size w ((((wr.setCell ⟨w.heap.size,0,none⟩ (.int .i64 65000)).setCell ⟨w.heap.size,1,none⟩ (.int .u32 200)).setCell ⟨w.heap.size,2,none⟩ (.int .u32 168430090)).setCell ⟨w.heap.size,3,none⟩ (.slice ao k O))):=(((aa.out.setCell (dD _) _).setCell (dD _) _).setCell (dD _) _).setCell (dD _) _;have HP:Hid (nI ((((wr.setCell ⟨w.heap.size,0,none⟩ (.int .i64 65000)).setCell ⟨w.heap.size,1,none⟩ (.int .u32 200)).setCell ⟨w.heap.size,2,none⟩ (.int .u32 168430090)).setCell ⟨w.heap.size,3,none⟩ (.slice ao k O)) (.slice ao k O) k (tB hd lm wt gs)):=TT (lM G.out fun j hj=>m j (N.out j hj).1) fun i R=>by
   obtain⟨q1,q2,q3,q4⟩:=Y.out i R;exact⟨q1,q2,q3.keep (m _ q1),q4.keep (m _ q2)⟩
  exact iQ (v:=.agg #[.int .i64 65000,.int .u32 200,.int .u32 168430090,.slice ao k O]) (by simp[results,Tryz.results29,go_sem, *]) rfl ⟨_,gs,rfl,HP.out,HF.out⟩
end
section
open Go Go.RowKit
variable {A hd now:Int} {s:SV}
theorem BM{s':SV}{k:Int}{b add:List Int}(h:mr A hd now { s with part:=[] } k b=.go s' add):nw s'.part:=by
 have:=(yW h).1;rw[this];exact we
theorem wm:∀(L:Nat)(d:List Int),d.length≤L→∀(n n':Nat)(s:SV)(acc:List Int),d.length≤n→d.length≤n'→nw s.part→Bytes d→lB A hd now n s acc d=lB A hd now n' s acc d:=by
 intro L
 induction L with
 |zero =>
  intro d q n n' s acc _ _ _ _;obtain rfl:d=[]:=js (by omega);rw[pR,pR]
 |succ L o =>
  intro d q n n' s acc y r hp hb
  by_cases a:d=[]
  ·rw[a,pR,pR]
  ·have f:0<d.length:=by cases d with|nil=>exact absurd rfl a|cons x xs=>simp
   obtain⟨n,rfl⟩:∃k,n=k+1:=⟨n-1,by omega⟩;obtain⟨n',rfl⟩:∃k,n'=k+1:=⟨n'-1,by omega⟩;have u:=xI hp f;have z:(d.drop (kU s.part d)).length=d.length-kU s.part d:=jx ..;have m:Bytes (d.drop (kU s.part d)):=vi hb _;rcases e:my s.part d with⟨t,ys⟩|⟨ys⟩|⟨k,b⟩
   ·rw[rm a e,rm a e]
   ·rw[qg a e,qg a e];exact o _ (by omega) n n' { s with part:=ys } acc (by omega) (by omega) (vg hp hb f e) m
   ·rcases h:mr A hd now { s with part:=[] } k b with⟨s2,add⟩|⟨add⟩|⟨t,add⟩
    ·rw[rq a e h,rq a e h];exact o _ (by omega) n n' s2 _ (by omega) (by omega) (BM h) m
    ·rw[rp a e h,rp a e h]
    ·rw[rn a e h,rn a e h]
variable {xs:List Int}
theorem Gf{d:List Int}(hp:nw xs)(f:0<d.length)(h:(d.length:Int)<lg xs):lg (xs++d)=lg xs-(d.length:Int)∧(xs++d).length≠19:=by
 by_cases hx:xs.length<19
 ·have e:lg xs=19-(xs.length:Int):=by unfold lg;rw[dr hx]
  have a:(xs++d).length<19:=by rw[jh];omega
  refine⟨?_,by omega⟩;have b:lg (xs++d)=19-((xs++d).length:Int):=by unfold lg;rw[dr a]
  rw[b,e,jh];omega
 ·have e:lg xs=lr xs-(xs.length:Int):=by unfold lg;rw[dt hx]
  have a:¬(xs++d).length<19:=by rw[jh];omega
  have b:lg (xs++d)=lr (xs++d)-((xs++d).length:Int):=by unfold lg;rw[dt a]
  have m:lr (xs++d)=lr xs:=by
   rw[←tZ (xs++d) (by omega),←tZ xs (by omega),jM (by omega)]
  refine⟨?_,by rw[jh];omega⟩;rw[b,m,e,jh];omega
variable {d1:List Int}
theorem TX(hp:nw xs)(a:0<d1.length)(h:(d1.length:Int)<lg xs):kU xs d1=d1.length∧my xs d1=.more (xs++d1):=by
 have b:kU xs d1=d1.length:=by unfold kU;omega
 obtain⟨w1,w2⟩:=Gf hp a h;refine⟨b,?_⟩;unfold my qM;rw[b,List.take_length,dt w2];simp only;rw[dr (by omega)]
variable {d2:List Int}
theorem TY(hp:nw xs)(a:0<d1.length)(h:(d1.length:Int)<lg xs):kU xs (d1++d2)=d1.length+kU (xs++d1) d2∧my xs (d1++d2)=my (xs++d1) d2:=by
 obtain⟨w1,_⟩:=Gf hp a h;have b:kU xs (d1++d2)=d1.length+kU (xs++d1) d2:=by
  unfold kU;rw[w1,jh];omega
 refine⟨b,?_⟩;unfold my;rw[b];congr 1;rw[List.take_append,iF];congr 2
 ·exact ig (by omega)
 ·congr 1;omega
theorem TZ(h:lg xs≤(d1.length:Int)):kU xs (d1++d2)=kU xs d1∧my xs (d1++d2)=my xs d1∧(d1++d2).drop (kU xs d1)=d1.drop (kU xs d1)++d2:=by
 have hm:kU xs d1≤d1.length:=by unfold kU;omega
 have a:kU xs (d1++d2)=kU xs d1:=by unfold kU;rw[jh];omega
 refine⟨a,?_,List.drop_append_of_le_length hm⟩;unfold my;rw[a,jM hm]
def zg (A hd now:Int) (r:FR) (d2:List Int):FR:=match r with
 | .go s acc=>lB A hd now d2.length s acc d2
 | .shut a=>.shut a
 | .bad t a=>.bad t a
theorem T0:∀(L:Nat)(d1:List Int),d1.length≤L→∀(s:SV)(acc d2:List Int)(n:Nat),nw s.part→Bytes d1→Bytes d2→d1.length+d2.length≤n→lB A hd now n s acc (d1++d2)=zg A hd now (lB A hd now d1.length s acc d1) d2:=by
 intro L
 induction L with
 |zero =>
  intro d1 S s acc d2 n hp C q H;obtain rfl:d1=[]:=js (by omega);rw[ix,pR];exact wm d2.length d2 (dD _) n d2.length s acc (by simpa using H) (dD _) hp q
 |succ L M =>
  intro d1 S s acc d2 n hp C q H
  by_cases f:d1=[]
  ·subst f;rw[ix,pR];exact wm d2.length d2 (dD _) n d2.length s acc (by simpa using H) (dD _) hp q
  ·have h:0<d1.length:=by cases d1 with|nil=>exact absurd rfl f|cons x xs=>simp
   have a:d1++d2≠[]:=by simp[f]
   obtain⟨n,rfl⟩:∃k,n=k+1:=⟨n-1,by omega⟩;obtain⟨m,hm⟩:∃k,d1.length=k+1:=⟨d1.length-1,by omega⟩;rw[hm]
   by_cases hw:lg s.part≤(d1.length:Int)
   ·obtain⟨N,D,O⟩:=TZ (d2:=d2) hw;have I:=xI hp h;have T:(d1.drop (kU s.part d1)).length=d1.length-kU s.part d1:=jx ..;have r:Bytes (d1.drop (kU s.part d1)):=vi C _;rcases e:my s.part d1 with⟨t,ys⟩|⟨ys⟩|⟨k,b⟩
    ·rw[rm f e,rm a (D.trans e)];rfl
    ·rw[qg f e,qg a (D.trans e),N,O];have o:=vg hp C h e;rw[M _ (by omega) { s with part:=ys } acc d2 n o r q (by omega)];rw[wm _ (d1.drop (kU s.part d1)) (dD _) m _ { s with part:=ys } acc (by omega) (dD _) o r]
    ·rcases u:mr A hd now { s with part:=[] } k b with⟨s2,add⟩|⟨add⟩|⟨t,add⟩
     ·rw[rq f e u,rq a (D.trans e) u,N,O];have o:=BM u;rw[M _ (by omega) s2 (acc++add) d2 n o r q (by omega)];rw[wm _ (d1.drop (kU s.part d1)) (dD _) m _ s2 (acc++add) (by omega) (dD _) o r]
     ·rw[rp f e u,rp a (D.trans e) u];rfl
     ·rw[rn f e u,rn a (D.trans e) u];rfl
   ·have E:(d1.length:Int)<lg s.part:=by omega
    obtain⟨R,J⟩:=TX hp h E;obtain⟨U,F⟩:=TY (d2:=d2) hp h E;have o:=vg hp C h J;rw[qg f J,R,jN,pR];show _=lB A hd now d2.length { s with part:=s.part++d1 } acc d2
    by_cases y:d2=[]
    ·subst y;rw[ij,pR,qg f J,R,jN,pR]
    ·have z:0<d2.length:=by cases d2 with|nil=>exact absurd rfl y|cons x xs=>simp
     obtain⟨m2,K⟩:∃k,d2.length=k+1:=⟨d2.length-1,by omega⟩;have G:(d1++d2).drop (kU s.part (d1++d2))=d2.drop (kU (s.part++d1) d2):=by
      rw[U,List.drop_append,List.drop_eq_nil_of_le (by omega),ix];congr 1;omega
     have I:=xI o z;have T:(d2.drop (kU (s.part++d1) d2)).length=d2.length-kU (s.part++d1) d2:=jx ..;have r:Bytes (d2.drop (kU (s.part++d1) d2)):=vi q _;rw[K];rcases e:my (s.part++d1) d2 with⟨t,ys⟩|⟨ys⟩|⟨k,b⟩
     ·rw[rm a (F.trans e),rm (s:={ s with part:=s.part++d1 }) y e]
     ·rw[qg a (F.trans e),qg (s:={ s with part:=s.part++d1 }) y e,G];exact wm _ _ (dD _) n m2 { s with part:=ys } acc (by omega) (by omega) (vg o q z e) r
     ·rcases u:mr A hd now { s with part:=[] } k b with⟨s2,add⟩|⟨add⟩|⟨t,add⟩
      ·rw[rq a (F.trans e) u,rq (s:={ s with part:=s.part++d1 }) y e u,G];exact wm _ _ (dD _) n m2 s2 _ (by omega) (by omega) (BM u) r
      ·rw[rp a (F.trans e) u,rp (s:={ s with part:=s.part++d1 }) y e u]
      ·rw[rn a (F.trans e) u,rn (s:={ s with part:=s.part++d1 }) y e u]
def rV (acc:List Int):FR→FR
 | .go s a=>.go s (acc++a)
 | .shut a=>.shut (acc++a)
 | .bad t a=>.bad t (acc++a)
theorem T1(a b:List Int)(r:FR):rV a (rV b r)=rV (a++b) r:=by cases r<;>simp[rV]
theorem T2:∀(n:Nat)(s:SV)(acc d:List Int),lB A hd now n s acc d=rV acc (lB A hd now n s [] d):=by
 intro n
 induction n with
 |zero=>intro s acc d;simp[lB,rV]
 |succ n h =>
  intro s acc d
  by_cases a:d=[]
  ·rw[a,pR,pR];simp[rV]
  ·rcases e:my s.part d with⟨t,ys⟩|⟨ys⟩|⟨k,b⟩
   ·rw[rm a e,rm a e];simp[rV]
   ·rw[qg a e,qg a e];exact h _ _ _
   ·rcases f:mr A hd now { s with part:=[] } k b with⟨s2,add⟩|⟨add⟩|⟨t,add⟩
    ·rw[rq a e f,rq a e f,h s2 (acc++add),h s2 ([]++add),T1,ix]
    ·rw[rp a e f,rp a e f];simp[rV]
    ·rw[rn a e f,rn a e f];simp[rV]
variable {au id:Int}
theorem T3{sent:List Int}{pe:Int}{rest:List ky}(hp:nw s.part)(m:Bytes d1)(o:Bytes d2):runM A hd au id now s sent (⟨pe,2,d1⟩::⟨pe,2,d2⟩::rest)=runM A hd au id now s sent (⟨pe,2,d1++d2⟩::rest):=by
 have n1:¬(2:Int)=1:=by decide
 by_cases e:s.st=0
 ·simp only[runM,lT,n1,dp,dn,e]
 ·have a:=T0 (A:=A) (hd:=hd) (now:=now) d1.length d1 (dD _) s [] d2 (d1++d2).length hp m o (by simp);rcases hm:lB A hd now d1.length s [] d1 with⟨s',add⟩|⟨add⟩|⟨t,add⟩
  ·rw[hm]at a;simp only[zg]at a;rw[T2 d2.length s' add d2]at a;have f:s'.st≠0:=Fu _ _ _ _ _ _ e hm;rcases h:lB A hd now d2.length s' [] d2 with⟨s2,b⟩|⟨b⟩|⟨t,b⟩<;>rw[h]at a<;>simp only[rV]at a<;>simp only[runM,lT,n1,dp,dn,e,f,hm,h,a,iF]
  ·rw[hm]at a;simp only[zg]at a;simp only[runM,lT,n1,dp,dn,e,hm,a]
  ·rw[hm]at a;simp only[zg]at a;simp only[runM,lT,n1,dp,dn,e,hm,a]
inductive ny:List ky→List ky→Prop
 |nil:ny [] []
 |same (x:ky) {l l':List ky}:ny l l'→ny (x::l) (x::l')
 |cut (pe:Int) (d1 d2:List Int) {l l':List ky}:ny l l'→ny (⟨pe,2,d1++d2⟩::l) (⟨pe,2,d1⟩::⟨pe,2,d2⟩::l')
theorem ny.kF{l l':List ky}(h:ny l l')(i:Nat):ny (kF i l) (kF i l'):=by
 induction h with
 |nil=>exact .nil
 | @same x l l' _ b =>
  by_cases e:x.pe=(i:Int)
  ·have a:∀l,Go.Proofs.YtjnkcibpkkjniaaGreat.kF i (x::l)=x::Go.Proofs.YtjnkcibpkkjniaaGreat.kF i l:=fun l=>by simp[Go.Proofs.YtjnkcibpkkjniaaGreat.kF,e]
   rw[a,a];exact .same x b
  ·have a:∀l,Go.Proofs.YtjnkcibpkkjniaaGreat.kF i (x::l)=Go.Proofs.YtjnkcibpkkjniaaGreat.kF i l:=fun l=>by simp[Go.Proofs.YtjnkcibpkkjniaaGreat.kF,e]
   rw[a,a];exact b
 | @cut pe d1 d2 l l' _ b =>
  by_cases e:pe=(i:Int)
  ·have a:∀d l,Go.Proofs.YtjnkcibpkkjniaaGreat.kF i (⟨pe,2,d⟩::l)=⟨pe,2,d⟩::Go.Proofs.YtjnkcibpkkjniaaGreat.kF i l:=fun d l=>by simp[Go.Proofs.YtjnkcibpkkjniaaGreat.kF,e]
   rw[a,a,a];exact .cut pe d1 d2 b
  ·have a:∀d l,Go.Proofs.YtjnkcibpkkjniaaGreat.kF i (⟨pe,2,d⟩::l)=Go.Proofs.YtjnkcibpkkjniaaGreat.kF i l:=fun d l=>by simp[Go.Proofs.YtjnkcibpkkjniaaGreat.kF,e]
   rw[a,a,a];exact b
variable {l l':List ky}
theorem ny.run(e:0≤hd∧hd≤65535)(z:lA now)(h:ny l l'):∀(s:SV)(sent:List Int),mA s→tw s sent→(∀x∈l,Bytes x.d)→runM A hd au id now s sent l'=runM A hd au id now s sent l:=by
 induction h with
 |nil=>intro s sent _ _ _;rfl
 | @same x l l' _ m =>
  intro s sent f a hb;obtain⟨k1,_,_⟩:=xL (A:=A) (hd:=hd) (au:=au) (id:=id) (k:=x.k) f a e z (hb x (by simp));simp only[runM];rcases o:lT A hd au id now s sent x.k x.d with⟨s',sent'⟩|⟨cl,sent'⟩|⟨t,sent'⟩
  ·obtain⟨q,r⟩:=k1 _ _ o;exact m s' sent' q r fun y u=>hb y (by simp[u])
  ·rfl
  ·rfl
 | @cut pe d1 d2 l l' _ m =>
  intro s sent f a hb;have b:Bytes (d1++d2):=hb ⟨pe,2,d1++d2⟩ (by simp);rw[T3 f.part (fun x hx=>b x (by simp[hx])) (fun x hx=>b x (by simp[hx]))];obtain⟨k1,_,_⟩:=xL (A:=A) (hd:=hd) (au:=au) (id:=id) (k:=2) f a e z b;simp only[runM];rcases o:lT A hd au id now s sent 2 (d1++d2)with⟨s',sent'⟩|⟨cl,sent'⟩|⟨t,sent'⟩
  ·obtain⟨q,r⟩:=k1 _ _ o;exact m s' sent' q r fun y u=>hb y (by simp[u])
  ·rfl
  ·rfl
theorem ny.turn(a:0≤hd∧hd≤65535)(f:lA now)(h:ny l l')(b:mA s)(hb:∀x∈l,Bytes x.d):pS A hd au id now s l'=pS A hd au id now s l:=by
 unfold pS;split
 ·rfl
 ·split
  ·rename_i m;have o:s.st=2∨s.st=3:=by
    unfold py at m;simp at m;exact m.1
   rw[h.run a f { s with spoke:=now } (ld 4 []) ⟨b.part,b.st,fun e=>by simp at e;omega,b.hold,b.heard,f⟩ ⟨fun e=>by simp at e;omega,fun e=>by simp at e;omega,by simp[sL]⟩ hb]
  ·rw[h.run a f s [] b ⟨fun _=>rfl,fun _=>by simp,by simp⟩ hb]
end
end Go.Proofs.YtjnkcibpkkjniaaGreat
namespace Go.Proofs.YtjnkcibpkkjniaaGreat
open Go Go.RowKit
def mB (x:Nat→List Int×Bool):Nat→List Nat
 |0=>[]
 |i+1=>if tz (x i) then mB x i++[i] else mB x i
theorem BN(x:Nat→List Int×Bool):∀n,(mB x n).length=oY x n
 |0=>rfl
 |i+1=>by unfold mB oY;split<;>simp[BN x i]
theorem BO(x:Nat→List Int×Bool):∀n,∀p∈mB x n,p<n
 |0,p,h=>by simp[mB]at h
 |i+1,p,h=>by
  unfold mB at h;split at h
  ·rcases gV.1 h with h|h
   ·have:=BO x i p h;omega
   ·simp at h;omega
  ·have:=BO x i p h;omega
def rW (x:Nat→List Int×Bool) (i:Nat):List Value:=[.int .i64 (i:Int),.string (strOfNums (x i).1),.bool (x i).2]
theorem Gg(x:Nat→List Int×Bool):∀n,pX x n=(mB x n).flatMap (rW x)
 |0=>rfl
 |i+1=>by unfold pX mB;split<;>simp[Gg x i,rW]
theorem T4(x:Nat→List Int×Bool):∀(l:List Nat)(k p:Nat),l[k]?=some p→∀j,j<3→(l.flatMap (rW x))[3*k+j]?=(rW x p)[j]?:=by
 intro l
 induction l with
 |nil=>intro k p h;simp at h
 |cons q l a =>
  intro k p h j b;rw[List.flatMap_cons]
  cases k with
  |zero =>
   simp at h;subst h;rw[jV (by simp[rW];omega)];simp
  |succ k =>
   simp at h;rw[jW (by simp[rW];omega),show 3*(k+1)+j-(rW x q).length=3*k+j by simp[rW];omega];exact a k p h j b
structure xS (n:Nat) (x:Nat→List Int×Bool) (v:Value) (w:World) (g cap:Nat) (ao:Option Addr):Prop where
 v:v=.slice ao (mB x n).length cap
 a:mB x n≠[]→ao=some ⟨g,0,none⟩
 b:mB x n≠[]→∃cur fr,w.heap[g]?=some (.cells cur 41 fr)
 at_:∀k p,(mB x n)[k]?=some p→∀j u,(rW x p)[j]?=some u→w.cell? ⟨g,3*k+j,none⟩=some u
theorem xS.keep{n:Nat}{x:Nat→List Int×Bool}{v:Value}{w w':World}{g cap:Nat}{ao:Option Addr}(h:xS n x v w g cap ao)(e:w'.heap[g]?=w.heap[g]?):xS n x v w' g cap ao :=
 ⟨h.v,h.a,fun f=>by rw[e];exact h.b f,fun k p m j u o=>(jT (a:=⟨g,3*k+j,none⟩) e).trans (h.at_ k p m j u o)⟩
end Go.Proofs.YtjnkcibpkkjniaaGreat
namespace Go.Proofs.YtjnkcibpkkjniaaGreat.kN
open Go Go.RowKit Go.Proofs.YtjnkcibpkkjniaaGreat
theorem BP{n:Nat}{X:Nat→SV×List Int×Bool}{v:Value}{w:World}(h:tA n X v w):∃g cap ao,xS n (fun i=>(X i).2) v w g cap ao:=by
 obtain⟨B,h⟩:=h;have hlen:=BN (fun i=>(X i).2) n;rcases h.2 with⟨rfl,e⟩|⟨g,cap,cur,rfl,_,o,_,_,_,y⟩
 ·have b:mB (fun i=>(X i).2) n=[]:=js (by rw[hlen];exact e);refine⟨0,0,none,by rw[b];rfl,fun f=>absurd b f,fun f=>absurd b f,fun k p a=>?_⟩;rw[b]at a;simp at a
 ·refine⟨g,cap,some ⟨g,0,none⟩,by rw[hlen],fun _=>rfl,fun _=>⟨cur,_,o⟩,fun k p a j u q=>?_⟩;have m:j<3:=(iV.1 q).1;have z:k<(mB (fun i=>(X i).2) n).length:=(iV.1 a).1;rw[kh o];have r:=T4 (fun i=>(X i).2) _ k p a j m;rw[←Gg,q,←y,jF (by omega)]at r;rw[←jR];exact r
end Go.Proofs.YtjnkcibpkkjniaaGreat.kN
