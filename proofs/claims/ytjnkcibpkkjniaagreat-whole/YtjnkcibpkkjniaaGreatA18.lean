import Derived.Test.YtjnkcibpkkjniaaGreatA00
import Derived.Test.YtjnkcibpkkjniaaGreatA17
import Derived.Deep.RegionLaw
set_option linter.all false
set_option maxHeartbeats 2000000
set_option maxRecDepth 20000
namespace Go.Proofs.YtjnkcibpkkjniaaGreat
section
open Go Go.RowKit
structure lS where
 c:Int
 s:Int
 d:List Int
def lS.agg (t:lS):Value:=.agg #[.int .u8 t.c,.int .u8 t.s,.string (strOfNums t.d)]
def lS.val (t:lS):Value:=.iface 215 t.agg
def lT (h:List Int):Int:=h.getD 18 0
def uw (k n:Int):Bool:=if k=1 then decide (29≤n) else if k=2 then decide (23≤n) else if k=3 then decide (21≤n) else decide (n=19)
def my (h:List Int):Option lS :=
 if h.take 16=mark then
  if kQ h<19∨4096<kQ h then some ⟨1,2,(h.drop 16).take 2⟩
  else if lT h<1∨4<lT h then some ⟨1,3,(h.drop 18).take 1⟩
  else if uw (lT h) (kQ h) then none else some ⟨1,2,(h.drop 16).take 2⟩
 else some ⟨1,1,[]⟩
theorem Oz{xs ys:List Int}(hx:Bytes xs)(d:Bytes ys)(h:strOfNums xs=strOfNums ys):xs=ys:=by
 have e:xs.length=ys.length:=by rw[←iE xs,←iE ys,h]
 apply List.ext_getElem e;intro i a c;have f:=tu hx (jf a) (by rw[iE];exact a);have j:=tu d (jf c) (by rw[iE];exact c);rw[←f,←j];congr 2;simp only[h]
theorem OA{a b:ByteArray}(h:a.toList=b.toList):a=b:=by
 rw[ji,ji]at h;exact ByteArray.ext (Array.toList_inj.1 h)
theorem Al(t:lS)(w:World):Calls Tryz.prog 176 #[.int .u8 t.c,.int .u8 t.s,.string (strOfNums t.d)] w fun e w'=>e=.panicked [{ v:=t.val,recovered:=false }]∧w'=w:=by
 obtain⟨c,s,d⟩:=t;go_enter Tryz.func176,Tryz.ntmps176
 go_wp2
 exact⟨rfl,rfl,rfl⟩
theorem OB(k n:Int)(w:World):Calls Tryz.prog 177 #[.int .i64 k,.int .i64 n] w fun e w'=>e=.returned (.bool (uw k n))∧w'=w:=by
 go_enter Tryz.func177,Tryz.ntmps177
 go_wp2
 all_goals go_ret
 all_goals(refine⟨?_,rfl⟩;simp_all[uw];try rfl)
theorem OC(xs ys:List Int)(hx:Bytes xs)(a:Bytes ys)(w:World):Calls Tryz.prog 179 #[.string (strOfNums xs),.string (strOfNums ys)] w fun e w'=>e=.returned (.bool (decide (xs.take ys.length=ys)))∧w'=w:=by
 by_cases hle:ys.length≤xs.length
 ·by_cases hp:xs.take ys.length=ys
  ·refine(Oy xs ys hp w).mono ?_;rintro e w' ⟨rfl,rfl⟩;exact⟨by simp[hp],rfl⟩
  ·have c:=iE;have i:(strOfNums xs).extract 0 ys.length=strOfNums (xs.take ys.length):=by rw[p8];simp
   have d:decide ((ys.length:Int)≤(xs.length:Int))=true:=by simpa using hle
   have f:¬(strOfNums (xs.take ys.length)).toList=(strOfNums ys).toList:=fun e=>hp (Oz (fun x h=>hx x (iV h)) a (OA e))
   go_enter Tryz.func179,Tryz.ntmps179
   go_wp2
   go_ret;exact⟨by simp[hp,f],rfl⟩
 ·have c:=iE;have d:decide ((ys.length:Int)≤(xs.length:Int))=false:=by simpa using hle
  have hp:¬xs.take ys.length=ys:=fun e=>hle (by rw[←e,iT];omega)
  go_enter Tryz.func179,Tryz.ntmps179
  go_wp2
  go_ret;exact⟨by simp[hp],rfl⟩
theorem OD(xs ys:List Int)(hx:Bytes xs)(a:Bytes ys)(w:World):Calls Tryz.prog 175 #[.string (strOfNums xs),.string (strOfNums ys)] w fun e w'=>e=.returned (.bool (decide (xs.take ys.length=ys)))∧w'=w:=by
 go_enter Tryz.func175,Tryz.ntmps175
 go_wp2_with (go_at_call 179;refine(OC xs ys hx a _).mono ?_;rintro e w1 ⟨rfl,rfl⟩)
 go_ret;exact⟨rfl,rfl⟩
theorem OE:Bytes mark:=by
 intro x hx;simp[mark]at hx;omega
theorem DG{h:List Int}(hb:Bytes h)(B:h.length=19)(w:World):Calls Tryz.prog 167 #[.string (strOfNums h)] w fun e w'=>w'=w∧match my h with
   |none=>∃v,e=.returned v
   |some t=>e=.panicked [{ v:=t.val,recovered:=false }]:=by
 have z:h[18]?=some (lT h):=by
  unfold lT;rw[jj,jf (by omega)];rfl
 have j:Hid (∀w,Calls Tryz.prog 174 #[.string (strOfNums h)] w fun e w'=>e=.returned (.int .i64 (kQ h))∧w'=w):=fun w=>Dx h hb (by omega) w
 have l:Hid (∀w,Calls Tryz.prog 169 #[.string (strOfNums h)] w fun e w'=>e=.returned (.int .i64 (lT h))∧w'=w):=fun w=>Dw h hb (lT h) z w
 have m:Hid (∀w,Calls Tryz.prog 175 #[.string (strOfNums h),.string (strOfNums mark)] w fun e w'=>e=.returned (.bool (decide (h.take 16=mark)))∧w'=w):=fun w=>OD h mark hb OE w
 have n:Hid (∀w,Calls Tryz.prog 177 #[.int .i64 (lT h),.int .i64 (kQ h)] w fun e w'=>e=.returned (.bool (uw (lT h) (kQ h)))∧w'=w):=fun w=>OB _ _ w
 have HR:Hid (_):=Al;have D:Hid (_):=B;have E:=Ad;have F:=iE;have G:(strOfNums h).extract 16 18=strOfNums ((h.drop 16).take 2):=p8 h 16 18;have C:(strOfNums h).extract 18 19=strOfNums ((h.drop 18).take 1):=p8 h 18 19;have es:(⟨#[]⟩:ByteArray)=strOfNums []:=rfl;clear z hb
 by_cases c:h.take 16=mark
 ·have r:decide (h.take 16=mark)=true:=by simpa using c
  by_cases d:kQ h<19
  ·have hd:my h=some ⟨1,2,(h.drop 16).take 2⟩:=by unfold my;rw[dj c,dj (.inl d)]
   rw[hd];have s:decide (kQ h<19)=true:=by simpa using d
   clear c hd d;go_enter Tryz.func167,Tryz.ntmps167
   go_wp2_with (first
    |(go_at_call 174;go_loud (refine(j.out _).mono ?_);go_loud (rintro e w1 ⟨rfl,rfl⟩))
    |(go_at_call 169;go_loud (refine(l.out _).mono ?_);go_loud (rintro e w1 ⟨rfl,rfl⟩))
    |(go_at_call 175;go_loud (refine(m.out _).mono ?_);go_loud (rintro e w1 ⟨rfl,rfl⟩))
    |(go_at_call 177;go_loud (refine(n.out _).mono ?_);go_loud (rintro e w1 ⟨rfl,rfl⟩))
    |(go_at_call 176;go_loud (refine(HR.out ⟨1,2,(h.drop 16).take 2⟩ _).mono ?_);go_loud (rintro e w1 ⟨rfl,rfl⟩)))
   exact⟨rfl,rfl,rfl⟩
  ·have s:decide (kQ h<19)=false:=by simpa using d
   by_cases i:4096<kQ h
   ·have hd:my h=some ⟨1,2,(h.drop 16).take 2⟩:=by unfold my;rw[dj c,dj (.inr i)]
    rw[hd];have u:decide (4096<kQ h)=true:=by simpa using i
    clear c hd d i;go_enter Tryz.func167,Tryz.ntmps167
    go_wp2_with (first
     |(go_at_call 174;go_loud (refine(j.out _).mono ?_);go_loud (rintro e w1 ⟨rfl,rfl⟩))
     |(go_at_call 169;go_loud (refine(l.out _).mono ?_);go_loud (rintro e w1 ⟨rfl,rfl⟩))
     |(go_at_call 175;go_loud (refine(m.out _).mono ?_);go_loud (rintro e w1 ⟨rfl,rfl⟩))
     |(go_at_call 177;go_loud (refine(n.out _).mono ?_);go_loud (rintro e w1 ⟨rfl,rfl⟩))
     |(go_at_call 176;go_loud (refine(HR.out ⟨1,2,(h.drop 16).take 2⟩ _).mono ?_);go_loud (rintro e w1 ⟨rfl,rfl⟩)))
    exact⟨rfl,rfl,rfl⟩
   ·have u:decide (4096<kQ h)=false:=by simpa using i
    have a:¬(kQ h<19∨4096<kQ h):=by omega
    by_cases o:lT h<1
    ·have hd:my h=some ⟨1,3,(h.drop 18).take 1⟩:=by unfold my;rw[dj c,dk a,dj (.inl o)]
     rw[hd];have x:decide (lT h<1)=true:=by simpa using o
     clear c hd d i o a;go_enter Tryz.func167,Tryz.ntmps167
     go_wp2_with (first
      |(go_at_call 174;go_loud (refine(j.out _).mono ?_);go_loud (rintro e w1 ⟨rfl,rfl⟩))
      |(go_at_call 169;go_loud (refine(l.out _).mono ?_);go_loud (rintro e w1 ⟨rfl,rfl⟩))
      |(go_at_call 175;go_loud (refine(m.out _).mono ?_);go_loud (rintro e w1 ⟨rfl,rfl⟩))
      |(go_at_call 177;go_loud (refine(n.out _).mono ?_);go_loud (rintro e w1 ⟨rfl,rfl⟩))
      |(go_at_call 176;go_loud (refine(HR.out ⟨1,3,(h.drop 18).take 1⟩ _).mono ?_);go_loud (rintro e w1 ⟨rfl,rfl⟩)))
     exact⟨rfl,rfl,rfl⟩
    ·have x:decide (lT h<1)=false:=by simpa using o
     by_cases q:4<lT h
     ·have hd:my h=some ⟨1,3,(h.drop 18).take 1⟩:=by unfold my;rw[dj c,dk a,dj (.inr q)]
      rw[hd];have y:decide (4<lT h)=true:=by simpa using q
      clear c hd d i o a q;go_enter Tryz.func167,Tryz.ntmps167
      go_wp2_with (first
       |(go_at_call 174;go_loud (refine(j.out _).mono ?_);go_loud (rintro e w1 ⟨rfl,rfl⟩))
       |(go_at_call 169;go_loud (refine(l.out _).mono ?_);go_loud (rintro e w1 ⟨rfl,rfl⟩))
       |(go_at_call 175;go_loud (refine(m.out _).mono ?_);go_loud (rintro e w1 ⟨rfl,rfl⟩))
       |(go_at_call 177;go_loud (refine(n.out _).mono ?_);go_loud (rintro e w1 ⟨rfl,rfl⟩))
       |(go_at_call 176;go_loud (refine(HR.out ⟨1,3,(h.drop 18).take 1⟩ _).mono ?_);go_loud (rintro e w1 ⟨rfl,rfl⟩)))
      exact⟨rfl,rfl,rfl⟩
     ·have y:decide (4<lT h)=false:=by simpa using q
      have f:¬(lT h<1∨4<lT h):=by omega
      cases A:uw (lT h) (kQ h)
      ·have hd:my h=some ⟨1,2,(h.drop 16).take 2⟩:=by unfold my;rw[dj c,dk a,dk f,A];rfl
       rw[hd];clear c hd d i o a q f;go_enter Tryz.func167,Tryz.ntmps167
       go_wp2_with (first
        |(go_at_call 174;go_loud (refine(j.out _).mono ?_);go_loud (rintro e w1 ⟨rfl,rfl⟩))
        |(go_at_call 169;go_loud (refine(l.out _).mono ?_);go_loud (rintro e w1 ⟨rfl,rfl⟩))
        |(go_at_call 175;go_loud (refine(m.out _).mono ?_);go_loud (rintro e w1 ⟨rfl,rfl⟩))
        |(go_at_call 177;go_loud (refine(n.out _).mono ?_);go_loud (rintro e w1 ⟨rfl,rfl⟩))
        |(go_at_call 176;go_loud (refine(HR.out ⟨1,2,(h.drop 16).take 2⟩ _).mono ?_);go_loud (rintro e w1 ⟨rfl,rfl⟩)))
       exact⟨rfl,rfl,rfl⟩
      ·have hd:my h=none:=by unfold my;rw[dj c,dk a,dk f,A];rfl
       rw[hd];clear c hd d i o a q f;go_enter Tryz.func167,Tryz.ntmps167
       go_wp2_with (first
        |(go_at_call 174;go_loud (refine(j.out _).mono ?_);go_loud (rintro e w1 ⟨rfl,rfl⟩))
        |(go_at_call 169;go_loud (refine(l.out _).mono ?_);go_loud (rintro e w1 ⟨rfl,rfl⟩))
        |(go_at_call 175;go_loud (refine(m.out _).mono ?_);go_loud (rintro e w1 ⟨rfl,rfl⟩))
        |(go_at_call 177;go_loud (refine(n.out _).mono ?_);go_loud (rintro e w1 ⟨rfl,rfl⟩)))
       exact iY (v:=.tuple #[]) (by simp[results,Tryz.results167,go_sem]) rfl ⟨rfl,_,rfl⟩
 ·have hd:my h=some ⟨1,1,[]⟩:=by unfold my;rw[dk c]
  rw[hd];have r:decide (h.take 16=mark)=false:=by simpa using c
  clear c hd;go_enter Tryz.func167,Tryz.ntmps167
  go_wp2_with (first
   |(go_at_call 174;go_loud (refine(j.out _).mono ?_);go_loud (rintro e w1 ⟨rfl,rfl⟩))
   |(go_at_call 169;go_loud (refine(l.out _).mono ?_);go_loud (rintro e w1 ⟨rfl,rfl⟩))
   |(go_at_call 175;go_loud (refine(m.out _).mono ?_);go_loud (rintro e w1 ⟨rfl,rfl⟩))
   |(go_at_call 177;go_loud (refine(n.out _).mono ?_);go_loud (rintro e w1 ⟨rfl,rfl⟩))
   |(go_at_call 176;go_loud (refine(HR.out ⟨1,1,[]⟩ _).mono ?_);go_loud (rintro e w1 ⟨rfl,rfl⟩)))
  exact⟨rfl,rfl,rfl⟩
end
section
open Go Go.RowKit
open Go.Proofs.YtjnkcibpkkjniaaGreat.kj (oC kH lf nO)
theorem OG{C:Array Value}(h:C.size=56):∃c0 c1 c2 c3 c4 c5 c6 c7 c8 c9 a c d kJ e f i j m n o q r s t u x y z A B D E F G H I J K L M O P R T U V W X Y Z aa ab ad ae af,C=#[c0,c1,c2,c3,c4,c5,c6,c7,c8,c9,a,c,d,kJ,e,f,i,j,m,n,o,q,r,s,t,u,x,y,z,A,B,D,E,F,G,H,I,J,K,L,M,O,P,R,T,U,V,W,X,Y,Z,aa,ab,ad,ae,af]:=by
 obtain⟨l⟩:=C
 match l,h with
 |c0::c1::c2::c3::c4::c5::c6::c7::c8::c9::a::c::d::kJ::e::f::i::j::m::n::o::q::r::s::t::u::x::y::z::A::B::D::E::F::G::H::I::J::K::L::M::O::P::R::T::U::V::W::X::Y::Z::aa::ab::ad::ae::af::[],_=>exact⟨_,_,_,_,_,_,_,_,_,_,_,_,_,_,_,_,_,_,_,_,_,_,_,_,_,_,_,_,_,_,_,_,_,_,_,_,_,_,_,_,_,_,_,_,_,_,_,_,_,_,_,_,_,_,_,_,rfl⟩
def nZ (b x1 x2 x3:List Int) (n1 n2 n3:Int) (n0:Nat):Nat→Value→World→Prop
 |0,v,_=>v=.string (strOfNums b)
 |1,v,_=>v=.string (strOfNums x1)
 |2,v,_=>v=.int .u32 (n1)
 |3,v,_=>v=.int .i64 (n1)
 |4,v,_=>v=.string (strOfNums b)
 |5,v,_=>v=.string (strOfNums x2)
 |6,v,_=>v=.int .u32 (n2)
 |7,v,_=>v=.int .i64 (n2)
 |8,v,_=>v=.string (strOfNums b)
 |9,v,_=>v=.string (strOfNums x3)
 |10,v,_=>v=.int .u32 (n3)
 |11,v,_=>v=.agg #[.int .i64 (n1),.int .i64 (n2),.int .u32 (n3)]
 |12,v,w=>∃bb,v=.pointer (some ⟨bb,0,none⟩)∧n0≤bb∧w.heap[bb]?=some (.cells #[.int .i64 0,.int .i64 0,.int .u32 0] 245 (0,0))
 |_,_,_=>True
variable {b x1 x2 x3:List Int} {n1 n2 n3:Int}
theorem OH{a:Nat}(w w':World)(j:Nat)(u:Value)(hB:Below w.heap.size w w')(h:nZ b x1 x2 x3 n1 n2 n3 a j u w):nZ b x1 x2 x3 n1 n2 n3 a j u w':=by
 unfold nZ at h ⊢;split at h<;>first|exact h|skip
 obtain⟨bb,d,e,c⟩:=h;exact⟨bb,d,e,(hB.block bb (dp.1 c).1).trans c⟩
noncomputable def rN:Array Oper:=match Tryz.f173.body with
 |some (.seq _ (.seq (.region _ ops _) _))=>ops
 |some (.seq _ (.block _ (.seq (.region _ ops _) _)))=>ops
 |_=>#[]
theorem OI:kH rN [0,1,4] 56=true:=by kernel_rfl
theorem OJ:lf rN=true:=by kernel_rfl
theorem OK:rN.size=14:=by kernel_rfl
def DI (n1 n2 n3:Int) (n0:Nat) (w0:World) (a:Act) (w':World):Prop:=∃bb,a.tmps[5]?=some (.pointer (some ⟨bb,0,none⟩))∧n0≤bb∧w'.heap[bb]?=some (.cells #[.int .i64 (n1),.int .i64 (n2),.int .u32 (n3)] 245 (0,0))∧Below n0 w0 w'
theorem OL{Q:Exit→Act→World→Prop}{w0:World}(o:Oper)(a:Act)(w:World)(f:rN[13]?=some o)(c:∀(j:Nat)(o':Oper)(d:Nat),rN[j]?=some o'→o'.dst=some d→(∃e∈o.after,e.on=j∧Region.binds .any e=true)→∃v,a.tmps[d]?=some v∧nZ b x1 x2 x3 n1 n2 n3 w0.heap.size j v w)(n:Below w0.heap.size w0 w)(K:Act→World→Prop)(q:∀v w',DI n1 n2 n3 w0.heap.size w0 (a.put o.dst v) w'→K (a.put o.dst v) w'):o.wp Tryz.prog a w K Q:=by
 simp only[rN,Tryz.f173]at f;simp only[fR,gx,fS,dR]at f;subst f;obtain⟨s,i,bb,rfl,l,p2⟩:=c 12 _ _ rfl rfl ⟨⟨12,.data⟩,by simp,rfl,rfl⟩;obtain⟨t,r,p3⟩:=c 11 _ _ rfl rfl ⟨⟨11,.data⟩,by simp,rfl,rfl⟩;simp only[nZ]at p3;subst p3;have c0:=jV p2 0;have c1:=jV p2 1;have c2:=jV p2 2;have u:=kK p2 0;have z1:=kK p2 1;have z2:=kK p2 2;simp at c0 c1 c2;have m:=lj p2 0 (.int .i64 n1);simp only[ik,iu]at m;have k1:=lj m 1 (.int .i64 n2);simp only[ik,iu,iq]at k1;have k2:=lj k1 2 (.int .u32 n3);simp only[ik,iu,iq]at k2;unfold Oper.wp execOp;simp only[Act.eval,du,i,r,ez];go_simp;refine q undef _ ⟨bb,i,l,k2,?_⟩;refine iL (iL (iL n ?_ _) ?_ _) ?_ _<;>exact l
end
section
open Go Go.RowKit
variable {w:World} {sb:Nat} {au id st hold heard spoke:Int} {p:Pz} {pv:Value}
theorem SN.of(h:w.heap[sb]?=some (.cells (j5 au id p st hold heard spoke pv) 100 (0,0)))(n:Nat):SN (w.drewN n) sb 0 st hold heard spoke:=by
 have e:∀i,(w.drewN n).cell? ⟨sb,i,none⟩=(j5 au id p st hold heard spoke pv)[i]?:=fun i=>(jV (w:=w.drewN n) (by first|exact h|(simp;exact h)) i)
 exact⟨e 9,e 10,e 11,e 12⟩
variable {base tb:Nat} {now:Int} {sv:Value} {sent:List Int} {cl ov:Bool}
theorem TS.drewN{S:Array Value}(h:TS w base tb sb now sv sent cl ov S)(n:Nat):TS (w.drewN n) base tb sb now sv sent cl ov S∧Rest base tb sb w (w.drewN n):=⟨⟨h.t,h.s,h.own,h.lt,h.ne⟩,⟨rfl,dx _,fun _ _ _ _=>rfl⟩⟩
variable {b:Bool}
theorem Am(h:∀n,SN (w.drewN n) sb 0 st hold heard spoke)(a:kO now)(c:kO heard)(hb:pq st hold heard now=b)(n:Nat):Calls Tryz.prog 143 #[.pointer (some ⟨sb,0,none⟩),.int .i64 now] (w.drewN n) fun e w'=>e=.returned (.bool b)∧∃m,w'=(w.drewN n).drewN m:=by
 have:=Oq _ _ _ _ _ _ _ _ (h n) a c;rw[hb]at this;exact this
theorem DJ(h:∀n,SN (w.drewN n) sb 0 st hold heard spoke)(a:kO now)(c:kO spoke)(d:0≤hold∧hold≤100000)(hb:oY st hold spoke now=b)(n:Nat):Calls Tryz.prog 145 #[.pointer (some ⟨sb,0,none⟩),.int .i64 now] (w.drewN n) fun e w'=>e=.returned (.bool b)∧∃m,w'=(w.drewN n).drewN m:=by
 have:=Ot _ _ _ _ _ _ _ _ (h n) a c d;rw[hb]at this;exact this
section
variable {w:World} {base tb sb:Nat} {now:Int} {sv:Value} {sent:List Int} {cl ov:Bool} {au id:Int} {p:Pz} {st hold heard spoke:Int} {pa:Option Addr} {pl pc:Nat}
theorem OM(h:TS w base tb sb now sv sent cl ov (j5 au id p st hold heard spoke (.slice pa pl pc)))(l:kO now)(m:kO heard)(hb:pq st hold heard now=true)(i:sent.length≤50000):Calls Tryz.prog 118 #[.pointer (some ⟨tb,0,none⟩)] w fun e w'=>(∃v,e=.returned v)∧∃sv',TS w' base tb sb now sv' (sent++j9 3 [4,0]) true true (j5 au id p 0 0 0 0 (.slice none 0 0))∧Rest base tb sb w w':=by
 obtain⟨⟨c0,c1,c2,c3,c4⟩,z2,t,u⟩:=h.facts;have o:Hid (∀n,SN (w.drewN n) sb 0 st hold heard spoke):=fun n=>SN.of h.s n
 have j:Hid (_):=h;have q:Hid (_):=i;have a:Hid (base≤w.heap.size):=h.lt.2.2;clear h i;go_enter Tryz.func118,Tryz.ntmps118
 go_wp2_with fail
 go_quiet ((go_at_call 143;exact jk (Am o.out l m hb _)))
 go_wp2_with (first
  |(go_at_call 144;go_loud (refine(Ov _).mono ?_);go_loud (rintro e w1 ⟨rfl,hB⟩);go_loud (have H1:Hid (TS w1 base tb sb now sv sent cl ov (j5 au id p st hold heard spoke (.slice pa pl pc))):=TS.below (j.out.drewN nq).1 hB);go_loud (have c:Hid (Rest base tb sb w w1):=(j.out.drewN nq).2.trans (Rest.below hB a.out));clear hB)
  |(go_at_call 117;go_loud (refine(Dv H1.out (by omega) (by omega) Bytes.nil q.out).mono ?_);go_loud (rintro e w2 ⟨⟨v2,rfl⟩,r,d,f⟩)))
 exact iY (v:=.tuple #[]) (by simp[results,Tryz.results118,go_sem]) rfl ⟨⟨_,rfl⟩,_,d,c.out.trans f⟩
theorem ON(h:TS w base tb sb now sv sent cl ov (j5 au id p st hold heard spoke (.slice pa pl pc)))(t:kO now)(x:kO heard)(j3:kO spoke)(d:0≤hold∧hold≤100000)(hb:pq st hold heard now=false)(i:oY st hold spoke now=true)(y:sent.length≤50000):Calls Tryz.prog 118 #[.pointer (some ⟨tb,0,none⟩)] w fun e w'=>(∃v,e=.returned v)∧∃sv',TS w' base tb sb now sv' (sent++j9 4 []) cl ov (j5 au id p st hold heard now (.slice pa pl pc))∧Rest base tb sb w w':=by
 obtain⟨⟨c0,c1,c2,c3,c4⟩,z2,G,H⟩:=h.facts;have z:Hid (∀n,SN (w.drewN n) sb 0 st hold heard spoke):=fun n=>SN.of h.s n
 have A:Hid (_):=h;have B:Hid (sent.length+(j9 4 []).length≤1000000):=by show _≤_;rw[rM];simp;omega
 have C:Hid (Bytes (j9 4 [])):=yc (by omega) Bytes.nil;have j:Hid (base≤w.heap.size):=h.lt.2.2;have D:Hid (_):=d;clear h y d;go_enter Tryz.func118,Tryz.ntmps118
 go_wp2_with fail
 go_quiet ((go_at_call 143;exact jk (Am z.out t x hb _)))
 go_wp2_with fail
 have hd:=A.out.drewN nq;have c:Hid (base≤(w.drewN nq).heap.size):=j.out;generalize w.drewN nq=w1 at hd c ⊢;obtain⟨a,f⟩:=hd;obtain⟨⟨d0,d1,d2,d3,d4⟩,I,J,K⟩:=a.facts;have l:Hid (∀n,SN (w1.drewN n) sb 0 st hold heard spoke):=fun n=>SN.of a.s n
 have H1:Hid (_):=a;have m:Hid (_):=f;clear a f
 go_quiet ((go_at_call 145;exact jk (DJ l.out t j3 D.out i _)))
 go_wp2_with (first
  |(go_at_call 146;go_loud (refine(Dr _).mono ?_);go_loud (rintro e w2 ⟨rfl,hB⟩);go_loud (have E:Hid (TS w2 base tb sb now sv sent cl ov (j5 au id p st hold heard spoke (.slice pa pl pc))):=TS.below (H1.out.drewN nq).1 hB);go_loud (have o:Hid (Rest base tb sb w1 w2):=(H1.out.drewN nq).2.trans (Rest.below hB c.out));clear hB)
  |(go_at_call 140;go_loud (refine(Af (u:=.int .i64 spoke) E.out rfl rfl C.out B.out).mono ?_);go_loud (rintro e w3 ⟨⟨v2,rfl⟩,F,q,r⟩)))
 exact iY (v:=.tuple #[]) (by simp[results,Tryz.results118,go_sem]) rfl ⟨⟨_,rfl⟩,_,q,m.out.trans (o.out.trans r)⟩
theorem OO(h:TS w base tb sb now sv sent cl ov (j5 au id p st hold heard spoke (.slice pa pl pc)))(l:kO now)(m:kO heard)(j3:kO spoke)(c:0≤hold∧hold≤100000)(hb:pq st hold heard now=false)(f:oY st hold spoke now=false):Calls Tryz.prog 118 #[.pointer (some ⟨tb,0,none⟩)] w fun e w'=>(∃v,e=.returned v)∧TS w' base tb sb now sv sent cl ov (j5 au id p st hold heard spoke (.slice pa pl pc))∧Rest base tb sb w w':=by
 obtain⟨⟨c0,c1,c2,c3,c4⟩,z2,t,u⟩:=h.facts;have o:Hid (∀n,SN (w.drewN n) sb 0 st hold heard spoke):=fun n=>SN.of h.s n
 have q:Hid (_):=h;have r:Hid (_):=c;clear h c;go_enter Tryz.func118,Tryz.ntmps118
 go_wp2_with fail
 go_quiet ((go_at_call 143;exact jk (Am o.out l m hb _)))
 go_wp2_with fail
 have hd:=q.out.drewN nq;generalize w.drewN nq=w1 at hd ⊢;obtain⟨a,d⟩:=hd;obtain⟨⟨d0,d1,d2,d3,d4⟩,x,y,z⟩:=a.facts;have i:Hid (∀n,SN (w1.drewN n) sb 0 st hold heard spoke):=fun n=>SN.of a.s n
 have H1:Hid (_):=a;have j:Hid (_):=d;clear a d
 go_quiet ((go_at_call 145;exact jk (DJ i.out l j3 r.out f _)))
 go_wp2_with fail
 exact iY (v:=.tuple #[]) (by simp[results,Tryz.results118,go_sem]) rfl ⟨⟨_,rfl⟩,(H1.out.drewN nq).1,j.out.trans (H1.out.drewN nq).2⟩
end
theorem DK(w:World)(sb so:Nat)(h:w.cell? ⟨sb,so+9,none⟩=some (.int .i64 1)):Calls Tryz.prog 170 #[.pointer (some ⟨sb,so,none⟩),.int .i64 1] w fun e w'=>e=.returned (.bool true)∧w'=w:=by
 go_enter Tryz.func170,Tryz.ntmps170
 go_wp2
 go_ret;exact⟨rfl,rfl⟩
variable {w':World}
theorem K2.below(h:Below w.heap.size w w'):K2 tb sb sv sv w w':=⟨fun b hb _ _ _=>h.block b hb,.inl rfl⟩
theorem K2.trans{tb sb:Nat}{s1 s2 i:Value}{a b c:World}(h:K2 tb sb s1 s2 a b)(k:K2 tb sb s2 i b c)(r:a.heap.size≤b.heap.size):K2 tb sb s1 i a c:=by
 refine⟨fun x o l m n=>(k.heap x (by omega) l m fun e=>?_).trans (h.heap x o l m n),?_⟩
 ·rcases h.own with d|⟨j,d,f⟩
  ·rw[d]at e;exact n e
  ·rw[d]at e;cases e;omega
 ·rcases k.own with d|⟨j,d,f⟩
  ·rcases h.own with f|⟨j,f,q⟩
   ·exact .inl (d.trans f)
   ·exact .inr ⟨j,d.trans f,q⟩
  ·exact .inr ⟨j,d,by omega⟩
theorem K2.drew{s s':Value}(h:K2 tb sb s s' w w'):K2 tb sb s s' w w'.drew:=⟨h.heap,h.own⟩
def su (a b:Int):Int:=if b<a then b else a
theorem OP(h:TS w base tb sb now sv sent cl ov (j5 au id p st hold heard spoke pv)){oa a f:Int}(L:sent.length≤50000):Calls Tryz.prog 172 #[.pointer (some ⟨tb,0,none⟩),.agg #[.int .i64 oa,.int .i64 a,.int .u32 f]] w fun e w'=>(∃v,e=.returned v)∧∃sv',TS w' base tb sb now sv' (sent++j9 4 []) cl ov (j5 au id p 2 (su p.hold a) heard now pv)∧Rest base tb sb w w'∧K2 tb sb sv sv' w w':=by
 obtain⟨U,c,V,W,X,ia,il,ic,ea,el,ec⟩:=p;simp only[j5]at h ⊢;have o:Below w.heap.size w (w.alloc (.cells #[.int .i64 oa,.int .i64 a,.int .u32 f] 245)):=(iD _ _).alloc (dx _) _;have i:=h.below o;have d:Hid (Rest base tb sb w _):=Rest.below o h.lt.2.2;have r:Hid (∀b,b<w.heap.size→(w.alloc (.cells #[.int .i64 oa,.int .i64 a,.int .u32 f] 245)).heap[b]?=w.heap[b]?):=fun b hb=>o.block b hb
 have j:Hid (_):=i;have Y:Hid (_):=L;have l:(w.alloc (.cells #[.int .i64 oa,.int .i64 a,.int .u32 f] 245)).heap[w.heap.size]?=some (.cells #[.int .i64 oa,.int .i64 a,.int .u32 f] 245 (0,0)):=jl w _;have hsz:=h.lt.2.2;clear h i L o;go_enter Tryz.func172,Tryz.ntmps172
 go_wp2_with fail
 generalize(w.alloc (.cells #[.int .i64 oa,.int .i64 a,.int .u32 f] 245))=w1 at j d r l ⊢;obtain⟨⟨c0,c1,c2,c3,c4⟩,z2,Z,z4⟩:=j.out.facts;obtain⟨e0,e1,e2,e3,e4,e5,e6,e7,e8,e9,t,x,y,z,y0,y1,y2,y3,y4,y5,y6,y7,y8,y9,A,B,C,D⟩:=oD j.out.s;have M:=jV l 0;have O:=jV l 1;have P:=jV l 2;simp at M O P
 go_region
 have k1:=j.out.kF 9 (.int .i64 2);have k2:=k1.1.kF 10 (.int .i64 (if a<c then a else c));have q:=k2.1.drew;have E:=(d.out.trans (k1.2.trans k2.2)).drew;have F:K2 tb sb sv sv w (((w1.setCell ⟨sb,9,none⟩ (.int .i64 2)).setCell ⟨sb,10,none⟩ (.int .i64 (if a<c then a else c)))).drew :=
  K2.drew ⟨fun b h1 h2 R h4=>(kn (dE R) 10 _).trans ((kn (dE R) 9 _).trans (r.out b h1)),.inl rfl⟩
 simp only[ik,iq,iu]at q;clear k1 k2 c0 c1 c2 c3 c4 z2 Z z4 e0 e1 e2 e3 e4 e5 e6 e7 e8 e9 t x y z y0 y1 y2 y3 y4 y5 y6 y7 y8 y9 A B C D M O P j d r l;generalize((w1.setCell ⟨sb,9,none⟩ (.int .i64 2)).setCell ⟨sb,10,none⟩ (.int .i64 (if a<c then a else c))).drew=w2 at q E F ⊢;have T:Hid (_):=q;have m:Hid (_):=E;have G:Hid (_):=F;have Hb:Hid (Bytes (j9 4 [])):=yc (by omega) Bytes.nil;have Hn:Hid (sent.length+(j9 4 []).length≤1000000):=by show _≤_;rw[rM];have:=Y.out;simp;omega
 clear q E F
 go_wp2_with (first
  |(go_at_call 146;go_loud (refine(Dr _).mono ?_);go_loud (rintro e w3 ⟨rfl,hB⟩);go_loud (have H3:Hid (TS w3 base tb sb now sv sent cl ov #[.int .i64 au,.int .u32 id,.int .i64 U,.int .i64 c,.int .i64 V,.int .i64 W,.int .i64 X,.slice ia il ic,.slice ea el ec,.int .i64 2,.int .i64 (if a<c then a else c),.int .i64 heard,.int .i64 spoke,pv]):=T.out.below hB);go_loud (have n:Hid (Rest base tb sb w2 w3):=Rest.below hB T.out.lt.2.2);go_loud (have H:Hid (K2 tb sb sv sv w2 w3):=K2.below hB);clear hB)
  |(go_at_call 140;go_loud (refine(Dk (u:=.int .i64 spoke) H3.out rfl rfl Hb.out Hn.out).mono ?_);go_loud (rintro e w4 ⟨⟨v2,rfl⟩,aa,I,J,K⟩)))
 all_goals exact iY (v:=.tuple #[]) (by simp[results,Tryz.results172,go_sem]) rfl ⟨⟨_,rfl⟩,_,I,m.out.trans (n.out.trans J),G.out.trans (H.out.trans K n.out.size) m.out.size⟩
theorem OS{P:Program}{ops:Array Oper}{o:Oper}{a:Act}{K:Act→World→Prop}{Q:Exit→Act→World→Prop}{E:Prop}(r:o.guard=none)(s x:Operand)(t u:TypeId)(f:o.op=Op.call { callee:=Callee.builtin Builtin.append,args:=#[s,x],argTypes:=#[t,u] })(base:Nat)(e:TypeId)(i:TypeInfo)(z:Value)(y:P.underlying t=some (.slice e))(j:P.underlying u=some .string)(A:P.info? e=some i)(B:i.zero=some z)(C:i.size=1)(D:i.bytes=1)(F:z.cells.size=1)(v:Value)(n:Nat)(xs:List Value)(G:a.eval s=v)(c:w.ownsRow base e 1 v n xs)(l:List Int)(hx:a.eval x=.string (strOfNums l))(H:Bytes l)(b1:n+l.length≤140737488355328)(hb:base≤w.heap.size)(m:∀u∈z.cells.toList,Pl u)(q:kS Pl w v)(I:∀v' w',w'.ownsRow base e 1 v' (n+l.length) (xs++cellsOf l)→w.grownBy w' v.ownBlock→(v'.ownBlock=v.ownBlock∨v'.ownBlock=some w.heap.size)→kS Pl w' v'→K (a.put o.dst v') w'):if Region.wanted o (yielded ops a.tmps)=true then Oper.wp P o a w K Q else E:=by
 have hw:Region.wanted o (yielded ops a.tmps)=true:=by simp[Region.wanted,r]
 rw[dj hw];obtain⟨v',w',d,r1,r2,J,L⟩:=Dh (P:=P) w Pl base t u o.type e i z y j A B C D F v n xs c H b1 hb m (fun u hu=>by obtain⟨x,_,rfl⟩:=iM.1 hu;exact Pl.int _ _) q;unfold Oper.wp;simp[execOp,f,resolve,invoke,builtin,G,hx,d,Result.andThen];exact I v' w' r1 r2 J L
structure TP (w:World) (base tb sb:Nat) (now:Int) (sv:Value) (sent:List Int) (cl ov:Bool) (S:Array Value) (pv:Value) (xs:List Int):Prop where
 ts:TS w base tb sb now sv sent cl ov S
 kJ:S[13]?=some pv
 own:w.ownsRow base 5 1 pv xs.length (cellsOf xs)
 mf:∀k,pv.ownBlock=some k→sv.ownBlock≠some k
 pl:kS Pl w pv
end
section
open Go Go.RowKit
open Go.Proofs.YtjnkcibpkkjniaaGreat.kj (oC kH lf nO)
def n6 (tb sb mb:Nat) (b:List Int) (n1 n2 n3:Int):Nat→Value→World→Prop
 |0,v,_=>v=.pointer (some ⟨tb,0,none⟩)
 |1,v,_=>v=.pointer (some ⟨mb,1,none⟩)
 |2,v,_=>v=.string (strOfNums b)
 |3,v,_=>v=.pointer (some ⟨tb,0,none⟩)
 |4,v,_=>v=.pointer (some ⟨tb,0,none⟩)
 |5,v,_=>v=.pointer (some ⟨tb,0,none⟩)
 |6,v,_=>v=.pointer (some ⟨sb,0,none⟩)
 |7,v,_=>v=.pointer (some ⟨sb,0,none⟩)
 |8,v,_=>v=.pointer (some ⟨sb,2,none⟩)
 |9,v,_=>v=.pointer (some ⟨sb,2,none⟩)
 |10,v,_=>v=.int .i64 n1
 |11,v,_=>v=.agg #[.int .i64 n1,.int .i64 n2,.int .u32 n3]
 |_,_,_=>True
variable {tb sb mb:Nat} {b:List Int} {n1 n2 n3:Int}
theorem OT(w w':World)(j:Nat)(u:Value)(hB:Below w.heap.size w w')(h:n6 tb sb mb b n1 n2 n3 j u w):n6 tb sb mb b n1 n2 n3 j u w':=by
 unfold n6 at h ⊢;split at h<;>exact h
noncomputable def opsOf (n:Nat):Code→Option (Array Oper)
 | .region id ops _=>if id=n then some ops else none
 | .seq x y=>(opsOf n x).orElse fun _=>opsOf n y
 | .cond _ x y=>(opsOf n x).orElse fun _=>opsOf n y
 | .block _ c=>opsOf n c
 | .loop c=>opsOf n c
 |_=>none
noncomputable def pr:Array Oper:=((Tryz.f157.body).bind (opsOf 6)).getD #[]
theorem DL:kH pr [0,3] 52=true:=by kernel_rfl
theorem DN:lf pr=true:=by kernel_rfl
theorem DO:pr.size=13:=by kernel_rfl
variable {Q:Exit→Act→World→Prop} {w0:World}
theorem OU(q:tb<w0.heap.size)(r:sb<w0.heap.size)(s:mb<w0.heap.size)(ct:w0.cell? ⟨tb,0,none⟩=some (.pointer (some ⟨sb,0,none⟩)))(cs:w0.cell? ⟨sb,2,none⟩=some (.int .i64 n1))(y:w0.cell? ⟨mb,1,none⟩=some (.string (strOfNums b)))(t:Hid (∀w,Calls Tryz.prog 173 #[.string (strOfNums b),.int .i64 n1] w fun e w'=>e=.returned (.agg #[.int .i64 n1,.int .i64 n2,.int .u32 n3])∧Below w.heap.size w w'))(i:Nat)(o:Oper)(a:Act)(w:World)(A:i<12)(u:pr[i]?=some o)(f0:a.tmps[0]?=some (.pointer (some ⟨tb,0,none⟩)))(f3:a.tmps[3]?=some (.pointer (some ⟨mb,0,none⟩)))(c:∀(j:Nat)(o':Oper)(d:Nat),pr[j]?=some o'→o'.dst=some d→(∃e∈o.after,e.on=j∧Region.binds .any e=true)→∃v,a.tmps[d]?=some v∧n6 tb sb mb b n1 n2 n3 j v w)(x:Below w0.heap.size w0 w)(K:Act→World→Prop)(m:∀v w',n6 tb sb mb b n1 n2 n3 i v w'→Below w.heap.size w w'→K (a.put o.dst v) w'):o.wp Tryz.prog a w K Q:=by
 have B:=(x.cell (p:=⟨tb,0,none⟩) q).trans ct;have C:=(x.cell (p:=⟨sb,2,none⟩) r).trans cs;have D:=(x.cell (p:=⟨mb,1,none⟩) s).trans y;clear ct cs y;obtain rfl|rfl|rfl|rfl|rfl|rfl|rfl|rfl|rfl|rfl|rfl|rfl:i=0∨i=1∨i=2∨i=3∨i=4∨i=5∨i=6∨i=7∨i=8∨i=9∨i=10∨i=11:=by omega
 all_goals
  simp only[pr,Tryz.f157,opsOf,dW]at u;simp[]at u;subst u
 ·unfold Oper.wp execOp;simp only[Act.eval,du,f0,ez];go_simp;exact m _ _ rfl (iD _ _)
 ·unfold Oper.wp execOp;simp only[Act.eval,du,f3,ez];go_simp;exact m _ _ rfl (iD _ _)
 ·obtain⟨n,l,f⟩:=c 1 _ _ rfl rfl ⟨⟨1,.data⟩,by simp,rfl,rfl⟩;simp only[n6]at f
  try subst f
  unfold Oper.wp execOp;simp only[Act.eval,du,l,ez];go_simp;exact m _ _ rfl (iD _ _)
 ·unfold Oper.wp execOp;simp only[Act.eval,du,f0,ez];go_simp;exact m _ _ rfl (iD _ _)
 ·obtain⟨n,l,f⟩:=c 3 _ _ rfl rfl ⟨⟨3,.data⟩,by simp,rfl,rfl⟩;simp only[n6]at f
  try subst f
  unfold Oper.wp execOp;simp only[Act.eval,du,l,ez];go_simp;exact m _ _ rfl (iD _ _)
 ·obtain⟨n,l,f⟩:=c 4 _ _ rfl rfl ⟨⟨4,.data⟩,by simp,rfl,rfl⟩;simp only[n6]at f
  try subst f
  unfold Oper.wp execOp;simp only[Act.eval,du,l,ez];go_simp;exact m _ _ rfl (iD _ _)
 ·obtain⟨n,l,f⟩:=c 5 _ _ rfl rfl ⟨⟨5,.data⟩,by simp,rfl,rfl⟩;simp only[n6]at f
  try subst f
  unfold Oper.wp execOp;simp only[Act.eval,du,l,ez];go_simp;exact m _ _ rfl (iD _ _)
 ·obtain⟨n,l,f⟩:=c 6 _ _ rfl rfl ⟨⟨6,.data⟩,by simp,rfl,rfl⟩;simp only[n6]at f
  try subst f
  unfold Oper.wp execOp;simp only[Act.eval,du,l,ez];go_simp;exact m _ _ rfl (iD _ _)
 ·obtain⟨n,l,f⟩:=c 7 _ _ rfl rfl ⟨⟨7,.data⟩,by simp,rfl,rfl⟩;simp only[n6]at f
  try subst f
  unfold Oper.wp execOp;simp only[Act.eval,du,l,ez];go_simp;exact m _ _ rfl (iD _ _)
 ·obtain⟨n,l,f⟩:=c 8 _ _ rfl rfl ⟨⟨8,.data⟩,by simp,rfl,rfl⟩;simp only[n6]at f
  try subst f
  unfold Oper.wp execOp;simp only[Act.eval,du,l,ez];go_simp;exact m _ _ rfl (iD _ _)
 ·obtain⟨n,l,f⟩:=c 9 _ _ rfl rfl ⟨⟨9,.data⟩,by simp,rfl,rfl⟩;simp only[n6]at f
  try subst f
  unfold Oper.wp execOp;simp only[Act.eval,du,l,ez];go_simp;exact m _ _ rfl (iD _ _)
 ·obtain⟨n,l,f⟩:=c 2 _ _ rfl rfl ⟨⟨2,.data⟩,by simp,rfl,rfl⟩;simp only[n6]at f
  try subst f
  obtain⟨E,F,z⟩:=c 10 _ _ rfl rfl ⟨⟨10,.data⟩,by simp,rfl,rfl⟩;simp only[n6]at z
  try subst z
  unfold Oper.wp execOp;simp only[];go_simp;refine(t.out w).mono ?_;rintro e w1 ⟨rfl,hB⟩;exact m _ _ rfl hB
theorem OV{Post:Act→World→Prop}{P0:World→Prop}(m:Hid (∀w,Below w0.heap.size w0 w→Calls Tryz.prog 172 #[.pointer (some ⟨tb,0,none⟩),.agg #[.int .i64 n1,.int .i64 n2,.int .u32 n3]] w fun e w'=>(∃v,e=.returned v)∧P0 w'))(o:Oper)(a:Act)(w:World)(f:pr[12]?=some o)(c:∀(j:Nat)(o':Oper)(d:Nat),pr[j]?=some o'→o'.dst=some d→(∃e∈o.after,e.on=j∧Region.binds .any e=true)→∃v,a.tmps[d]?=some v∧n6 tb sb mb b n1 n2 n3 j v w)(n:Below w0.heap.size w0 w)(K:Act→World→Prop)(q:∀v w',P0 w'→K (a.put o.dst v) w'):o.wp Tryz.prog a w K Q:=by
 simp only[pr,Tryz.f157,opsOf,dW]at f;simp[]at f;subst f;obtain⟨s,t,i⟩:=c 0 _ _ rfl rfl ⟨⟨0,.data⟩,by simp,rfl,rfl⟩;simp only[n6]at i
 try subst i
 obtain⟨u,x,l⟩:=c 11 _ _ rfl rfl ⟨⟨11,.data⟩,by simp,rfl,rfl⟩;simp only[n6]at l
 try subst l
 unfold Oper.wp execOp;simp only[];go_simp;refine(m.out w n).mono ?_;rintro e w1 ⟨⟨v,rfl⟩,r⟩;exact q v w1 r
end
section
open Go Go.RowKit
open Go.Proofs.YtjnkcibpkkjniaaGreat.kj (kH lf nO)
def om (sb g N cp:Nat) (h b:List Int) (k:Int):Nat→Value→World→Prop
 |0,v,_=>v=.pointer (some ⟨sb,13,none⟩)
 |1,v,_=>v=.string (strOfNums h)
 |2,v,_=>v=.int .i64 k
 |3,v,_=>v=.pointer (some ⟨sb,13,none⟩)
 |4,v,_=>v=.pointer (some ⟨sb,13,none⟩)
 |5,v,_=>v=.pointer (some ⟨sb,13,none⟩)
 |6,v,_=>v=.slice (some ⟨g,0,none⟩) N cp
 |7,v,_=>v=.slice (if cp=19 then some ⟨g,0,none⟩ else some ⟨g,19,none⟩) (N-19) (cp-19)
 |8,v,_=>v=.string (strOfNums b)
 |9,v,_=>v=.agg #[.int .i64 k,.string (strOfNums b)]
 |_,_,_=>True
variable {sb g N cp:Nat} {h b:List Int} {k:Int}
theorem DT(w w':World)(j:Nat)(u:Value)(hB:Below w.heap.size w w')(a:om sb g N cp h b k j u w):om sb g N cp h b k j u w':=by
 unfold om at a ⊢;split at a<;>exact a
noncomputable def qX:Array Oper:=((Tryz.f156.body).bind (opsOf 7)).getD #[]
theorem DU:kH qX [0,1,5,7] 62=true:=by kernel_rfl
theorem DV:lf qX=true:=by kernel_rfl
theorem DW:qX.size=11:=by kernel_rfl
variable {Q:Exit→Act→World→Prop} {w0:World}
theorem DX(s:sb<w0.heap.size)(t:w0.cell? ⟨sb,13,none⟩=some (.slice (some ⟨g,0,none⟩) N cp))(hN:19≤N)(A:N≤cp)(n:∀w,Below w0.heap.size w0 w→Calls Tryz.prog 168 #[.pointer (some ⟨sb,13,none⟩)] w fun e w'=>e=.returned (.string (strOfNums h))∧w'=w)(u:∀w,Calls Tryz.prog 169 #[.string (strOfNums h)] w fun e w'=>e=.returned (.int .i64 k)∧w'=w)(q:∀w,Below w0.heap.size w0 w→(convert 86 9 (.slice (if cp=19 then some ⟨g,0,none⟩ else some ⟨g,19,none⟩) (N-19) (cp-19))).run Tryz.prog w=.ok (.string (strOfNums b)) w)(i:Nat)(o:Oper)(a:Act)(w:World)(F:i<10)(x:qX[i]?=some o)(f0:a.tmps[0]?=some (.pointer (some ⟨sb,13,none⟩)))(c:∀(j:Nat)(o':Oper)(d:Nat),qX[j]?=some o'→o'.dst=some d→(∃e∈o.after,e.on=j∧Region.binds .any e=true)→∃v,a.tmps[d]?=some v∧om sb g N cp h b k j v w)(y:Below w0.heap.size w0 w)(K:Act→World→Prop)(m:∀v w',om sb g N cp h b k i v w'→Below w.heap.size w w'→K (a.put o.dst v) w'):o.wp Tryz.prog a w K Q:=by
 have n:Hid (_):=n;have u:Hid (∀w,_):=u;have q:Hid (_):=q;have B:(19:Int)≤(N:Int):=by omega
 have C:¬cp<19:=by omega
 have D:¬cp<N:=by omega
 obtain rfl|rfl|rfl|rfl|rfl|rfl|rfl|rfl|rfl|rfl:i=0∨i=1∨i=2∨i=3∨i=4∨i=5∨i=6∨i=7∨i=8∨i=9:=by omega
 all_goals
  simp only[qX,Tryz.f156,opsOf,dW]at x;simp[]at x;subst x
 ·unfold Oper.wp execOp;simp only[Act.eval,du,f0,ez];go_simp;exact m _ _ rfl (iD _ _)
 ·obtain⟨r,l,f⟩:=c 0 _ _ rfl rfl ⟨⟨0,.data⟩,by simp,rfl,rfl⟩;simp only[om]at f
  try subst f
  unfold Oper.wp execOp;simp only[];go_simp;refine(n.out w y).mono ?_;rintro e w1 ⟨rfl,rfl⟩;exact m _ _ rfl (iD _ _)
 ·obtain⟨r,l,f⟩:=c 1 _ _ rfl rfl ⟨⟨1,.data⟩,by simp,rfl,rfl⟩;simp only[om]at f
  try subst f
  unfold Oper.wp execOp;simp only[];go_simp;refine(u.out w).mono ?_;rintro e w1 ⟨rfl,rfl⟩;exact m _ _ rfl (iD _ _)
 ·unfold Oper.wp execOp;simp only[Act.eval,du,f0,ez];go_simp;exact m _ _ rfl (iD _ _)
 ·obtain⟨r,l,f⟩:=c 3 _ _ rfl rfl ⟨⟨3,.data⟩,by simp,rfl,rfl⟩;simp only[om]at f
  try subst f
  unfold Oper.wp execOp;simp only[Act.eval,du,l,ez];go_simp;exact m _ _ rfl (iD _ _)
 ·obtain⟨r,l,f⟩:=c 4 _ _ rfl rfl ⟨⟨4,.data⟩,by simp,rfl,rfl⟩;simp only[om]at f
  try subst f
  unfold Oper.wp execOp;simp only[Act.eval,du,l,ez];go_simp;exact m _ _ rfl (iD _ _)
 ·obtain⟨r,l,f⟩:=c 5 _ _ rfl rfl ⟨⟨5,.data⟩,by simp,rfl,rfl⟩;simp only[om]at f
  try subst f
  have G:=(y.cell (p:=⟨sb,13,none⟩) s).trans t;unfold Oper.wp execOp;simp only[Act.eval,du,l,ez];go_simp;exact m _ _ rfl (iD _ _)
 ·obtain⟨r,l,f⟩:=c 6 _ _ rfl rfl ⟨⟨6,.data⟩,by simp,rfl,rfl⟩;simp only[om]at f
  try subst f
  unfold Oper.wp execOp;simp only[Act.eval,du,l,ez];go_simp;exact m _ _ rfl (iD _ _)
 ·obtain⟨r,l,f⟩:=c 7 _ _ rfl rfl ⟨⟨7,.data⟩,by simp,rfl,rfl⟩;simp only[om]at f
  try subst f
  have E:=q.out w y;unfold Oper.wp execOp;simp only[Act.eval,du,l,ez];go_simp;exact m _ _ rfl (iD _ _)
 ·obtain⟨r,l,f⟩:=c 2 _ _ rfl rfl ⟨⟨2,.data⟩,by simp,rfl,rfl⟩;simp only[om]at f
  try subst f
  obtain⟨H,I,z⟩:=c 8 _ _ rfl rfl ⟨⟨8,.data⟩,by simp,rfl,rfl⟩;simp only[om]at z
  try subst z
  unfold Oper.wp execOp;simp only[Act.eval,du];go_simp;exact m _ _ rfl (iD _ _)
theorem DY{rb:Nat}{q r:Value}(hm:w0.heap[rb]?=some (.cells #[q,r] 247 (0,0)))(o:Oper)(a:Act)(w:World)(i:qX[10]?=some o)(f5:a.tmps[5]?=some (.pointer (some ⟨rb,0,none⟩)))(f:∀(j:Nat)(o':Oper)(d:Nat),qX[j]?=some o'→o'.dst=some d→(∃e∈o.after,e.on=j∧Region.binds .any e=true)→∃v,a.tmps[d]?=some v∧om sb g N cp h b k j v w)(l:Below w0.heap.size w0 w)(K:Act→World→Prop)(s:∀v w',(∃m,Below w0.heap.size w0 m∧w'=(m.setCell ⟨rb,0,none⟩ (.int .i64 k)).setCell ⟨rb,1,none⟩ (.string (strOfNums b)))→K (a.put o.dst v) w'):o.wp Tryz.prog a w K Q:=by
 have c:=(l.block rb (dp.1 hm).1).trans hm;have t:=jV c 0;have n1:=jV c 1;have x:=kK c 0;have y:=kK c 1;simp at t n1;simp only[qX,Tryz.f156,opsOf,dW]at i;simp[]at i;subst i;obtain⟨v1,u,n⟩:=f 9 _ _ rfl rfl ⟨⟨9,.data⟩,by simp,rfl,rfl⟩;simp only[om]at n;subst n;unfold Oper.wp execOp;simp only[Act.eval,du,f5,u,ez];go_simp;exact s undef _ ⟨w,l,rfl⟩
end
section
open Go Go.RowKit
section
variable {w0 w w1:World} {base tb sb rb:Nat} {now:Int} {sv:Value} {sent:List Int} {cl ov:Bool} {S:Array Value} {pv:Value} {xs:List Int} {msg:Array Value}
end
end
end Go.Proofs.YtjnkcibpkkjniaaGreat
