import Derived.Test.YtjnkcibpkkjniaaGreatA00
import Derived.Test.YtjnkcibpkkjniaaGreatA16
set_option linter.all false
set_option maxHeartbeats 1600000
set_option maxRecDepth 20000
namespace Go.Proofs.YtjnkcibpkkjniaaGreat
section
open Go.RowKit
theorem vj:∀xs ys:List Int,(xs++ys).length=xs.length+ys.length:=fun _ _=>iF
theorem p7:∀n,(kB n).length=2:=fun _=>rfl
theorem Dn:mark.length=16:=rfl
theorem rM(kind:Int)(b:List Int):(j9 kind b).length=19+b.length:=by simp[j9,p7,Dn];omega
theorem Dp(kind:Int)(b:List Int)(hb:b.length≤65535)(w:World):Calls Tryz.prog 15 #[.int .u8 kind,.string (strOfNums b)] w fun e w'=>e=.returned (.string (strOfNums (j9 kind b)))∧Below w.heap.size w w':=by
 have kc:=Ab;have c:=qW;have d:=iE;have f:=Ad;have k2:=p7;have a:=Dn;have ka:=vj;go_enter Tryz.func15,Tryz.ntmps15
 go_wp2_with fail
 go_region_with (first
  |(go_at_call 31;go_loud (refine(sr _).mono ?_);go_loud (rintro e w' ⟨rfl,rfl⟩))
  |(go_at_call 32;go_loud (refine(Dc _ _).mono ?_);go_loud (rintro e w' ⟨rfl,rfl⟩)))
 all_goals(go_wp2_with fail;go_ret;exact⟨rfl,by(repeat(first|exact iD _ _|refine iG ?_|refine iH ?_ (by first|omega|(simp only[iI,iJ,iK];omega)|simp) _|refine iL ?_ (by first|omega|simp) _|assumption))⟩)
theorem Dq(w:World):Calls Tryz.prog 16 #[] w fun e w'=>e=.returned (.string (strOfNums (j9 4 [])))∧Below w.heap.size w w':=by
 have a:(⟨#[]⟩:ByteArray)=strOfNums []:=rfl;go_enter Tryz.func16,Tryz.ntmps16
 go_wp2_with (go_at_call 15;rw[a];refine(Dp 4 [] (by simp) _).mono ?_;rintro e w' ⟨rfl,hB⟩)
 go_ret;exact⟨rfl,hB⟩
theorem Dr(w:World):Calls Tryz.prog 146 #[] w fun e w'=>e=.returned (.string (strOfNums (j9 4 [])))∧Below w.heap.size w w':=by
 have a:(⟨#[]⟩:ByteArray)=strOfNums []:=rfl;go_enter Tryz.func146,Tryz.ntmps146
 go_wp2_with (go_at_call 154;rw[a];refine(Ae 4 [] (by simp) _).mono ?_;rintro e w' ⟨rfl,hB⟩)
 go_ret;exact⟨rfl,hB⟩
end
section
open Go.RowKit
def nY (n:Int):List Int:=[n / 16777216 % 256,n / 65536 % 256,n / 256 % 256,n % 256]
theorem tq:∀n,(nY n).length=4:=fun _=>rfl
theorem Oo(c s:Int)(d:List Int)(hd:d.length≤60000)(w:World):Calls Tryz.prog 141 #[.agg #[.int .u8 c,.int .u8 s,.string (strOfNums d)]] w fun e w'=>e=.returned (.string (strOfNums (j9 3 (c::s::d))))∧Below w.heap.size w w':=by
 have kc:=x9;have a:=qW;have b:=iE;go_enter Tryz.func141,Tryz.ntmps141
 go_wp2_with (go_at_call 154;refine(Ae _ _ (by simp;omega) _).mono ?_;rintro e w' ⟨rfl,hB⟩)
 go_ret;exact⟨rfl,jd (by(repeat(first|exact iD _ _|refine iG ?_|refine iH ?_ (by first|omega|(simp only[iI,iJ,iK];omega)|simp) _|refine iL ?_ (by first|omega|simp) _|assumption))) (hB.mono (by simp only[iI];omega))⟩
structure SN (w:World) (sb so:Nat) (st hold heard spoke:Int):Prop where
 st:w.cell? ⟨sb,so+9,none⟩=some (.int .i64 st)
 hold:w.cell? ⟨sb,so+10,none⟩=some (.int .i64 hold)
 heard:w.cell? ⟨sb,so+11,none⟩=some (.int .i64 heard)
 spoke:w.cell? ⟨sb,so+12,none⟩=some (.int .i64 spoke)
def kO (n:Int):Prop:=-2305843009213693952≤n∧n≤2305843009213693952
theorem kO.sub{a b:Int}(h:kO a)(k:kO b):wrap64 (a-b)=a-b:=by
 obtain⟨c,d⟩:=h;obtain⟨k1,k2⟩:=k;unfold wrap64;omega
def pq (st hold heard now:Int):Bool:=st != 0&&(hold != 0&&decide (hold≤now-heard))
theorem Oq(w:World)(sb so:Nat)(st hold heard spoke now:Int)(h:SN w sb so st hold heard spoke)(f:kO now)(g:kO heard):Calls Tryz.prog 143 #[.pointer (some ⟨sb,so,none⟩),.int .i64 now] w fun e w'=>e=.returned (.bool (pq st hold heard now))∧∃m,w'=w.drewN m:=by
 obtain⟨c1,c2,c3,c4⟩:=h;have hw:=f.sub g;clear f g
 by_cases a:(st != 0)=true
 ·by_cases b:(hold != 0)=true
  ·have he:pq st hold heard now=decide (hold≤now-heard):=by simp[pq,a,b]
   rw[he];clear he;go_enter Tryz.func143,Tryz.ntmps143
   go_wp2_with fail
   go_quiet (fail)
   go_wp2_with fail
   go_ret;exact⟨rfl,_,rfl⟩
  ·have c:(hold != 0)=false:=by simpa using b
   have he:pq st hold heard now=false:=by simp[pq,c]
   rw[he];clear he b;go_enter Tryz.func143,Tryz.ntmps143
   go_wp2_with fail
   go_quiet (fail)
   go_wp2_with fail
   go_ret;exact⟨rfl,_,rfl⟩
 ·have d:(st != 0)=false:=by simpa using a
  have he:pq st hold heard now=false:=by simp[pq,d]
  rw[he];clear he a;go_enter Tryz.func143,Tryz.ntmps143
  go_wp2_with fail
  go_quiet (fail)
  go_wp2_with fail
  go_ret;exact⟨rfl,_,rfl⟩
def oY (st hold spoke now:Int):Bool:=(st == 2 || st == 3)&&(hold != 0&&decide (hold / 3≤now-spoke))
theorem Ot(w:World)(sb so:Nat)(st hold heard spoke now:Int)(h:SN w sb so st hold heard spoke)(g:kO now)(i:kO spoke)(a:0≤hold∧hold≤100000):Calls Tryz.prog 145 #[.pointer (some ⟨sb,so,none⟩),.int .i64 now] w fun e w'=>e=.returned (.bool (oY st hold spoke now))∧∃m,w'=w.drewN m:=by
 obtain⟨c1,c2,c3,c4⟩:=h;have hw:=g.sub i;obtain⟨a,c⟩:=a;have l:wrap64 (hold.tdiv 3)=hold / 3:=by
  rw[Int.tdiv_eq_ediv_of_nonneg a];unfold wrap64;omega
 clear g i
 by_cases b:(st == 2 || st == 3)=true
 ·have j:st=2∨st=3:=by simpa using b
  by_cases d:(hold != 0)=true
  ·have he:oY st hold spoke now=decide (hold / 3≤now-spoke):=by simp[oY,b,d]
   rw[he];clear he b;rcases j with rfl|rfl
   ·go_enter Tryz.func145,Tryz.ntmps145
    go_wp2_with fail
    go_quiet (fail)
    go_wp2_with fail
    go_ret;exact⟨rfl,_,rfl⟩
   ·go_enter Tryz.func145,Tryz.ntmps145
    go_wp2_with fail
    go_quiet (fail)
    go_wp2_with fail
    go_ret;exact⟨rfl,_,rfl⟩
  ·have f:(hold != 0)=false:=by simpa using d
   have he:oY st hold spoke now=false:=by simp[oY,f]
   rw[he];clear he b d;rcases j with rfl|rfl
   ·go_enter Tryz.func145,Tryz.ntmps145
    go_wp2_with fail
    go_quiet (fail)
    go_wp2_with fail
    go_ret;exact⟨rfl,_,rfl⟩
   ·go_enter Tryz.func145,Tryz.ntmps145
    go_wp2_with fail
    go_quiet (fail)
    go_wp2_with fail
    go_ret;exact⟨rfl,_,rfl⟩
 ·have he:oY st hold spoke now=false:=by simp only[oY,Bool.not_eq_true]at b ⊢;rw[b];rfl
  rw[he];have g2:(st == 2)=false:=by simp at b ⊢;exact b.1
  have n:(st == 3)=false:=by simp at b ⊢;exact b.2
  clear he b;go_enter Tryz.func145,Tryz.ntmps145
  go_wp2_with fail
  go_quiet (fail)
  go_wp2_with fail
  go_ret;exact⟨rfl,_,rfl⟩
end
section
open Go Go.RowKit
variable {w:World} {base tb sb:Nat} {now:Int} {sv:Value} {sent:List Int} {cl ov:Bool} {S:Array Value}
theorem TS.facts(h:TS w base tb sb now sv sent cl ov S):(w.cell? ⟨tb,0,none⟩=some (.pointer (some ⟨sb,0,none⟩))∧w.cell? ⟨tb,1,none⟩=some (.int .i64 now)∧w.cell? ⟨tb,2,none⟩=some sv∧w.cell? ⟨tb,3,none⟩=some (.bool cl)∧w.cell? ⟨tb,4,none⟩=some (.bool ov)) ∧
   w.frozen? ⟨tb,2,none⟩=false∧w.frozen? ⟨tb,3,none⟩=false∧w.frozen? ⟨tb,4,none⟩=false :=
 ⟨⟨jV h.t 0,jV h.t 1,jV h.t 2,jV h.t 3,jV h.t 4⟩,kK h.t 2,kK h.t 3,kK h.t 4⟩
theorem TS.Ou{w':World}{S':Array Value}(h:TS w base tb sb now sv sent cl ov S)(c:w'.heap[sb]?=some (.cells S' 100 (0,0)))(d:w'.os=w.os)(e:w.heap.size≤w'.heap.size)(a:∀b,b<w.heap.size→b≠sb→w'.heap[b]?=w.heap[b]?):TS w' base tb sb now sv sent cl ov S'∧Rest base tb sb w w':=by
 have l:=h.lt;refine⟨⟨(a tb (by omega) h.ne).trans h.t,c,lL h.own fun k f=>?_,⟨l.1,l.2.1,by omega⟩,h.ne⟩,⟨d,e,fun b k1 k2 g=>a b (by omega) g⟩⟩;have:=iX h.own k f;exact a k this.2 (by omega)
variable {au id st hold heard spoke:Int} {p:Pz} {pa:Option Addr} {pl pc:Nat}
theorem Ds(h:TS w base tb sb now sv sent cl ov (j5 au id p st hold heard spoke (.slice pa pl pc))):Calls Tryz.prog 149 #[.pointer (some ⟨tb,0,none⟩)] w fun e w'=>(∃v,e=.returned v)∧TS w' base tb sb now sv sent cl true (j5 au id p 0 0 0 0 (.slice none 0 0))∧Rest base tb sb w w':=by
 obtain⟨⟨c0,c1,c2,c3,c4⟩,z2,m,n⟩:=h.facts;have c:Hid (_):=h;have d:=h.ne;have f:Hid (Calls Tryz.prog 158 _ w _):=On h.s;clear h;go_enter Tryz.func149,Tryz.ntmps149
 go_wp2_with (go_at_call 158;refine f.out.mono ?_;rintro e w1 ⟨⟨v,rfl⟩,g1,g2,g,j⟩;obtain⟨a,l⟩:=c.out.Ou g1 g2 g j;obtain⟨⟨d0,d1,d2,d3,d4⟩,o,q,r⟩:=a.facts)
 have b:=a.Dj (i:=4) (v:=.bool true) (cl':=cl) (ov':=true) rfl a.own;exact iY (v:=.tuple #[]) (by simp[results,Tryz.results149,go_sem]) rfl ⟨⟨_,rfl⟩,b.1,l.trans b.2⟩
theorem Du(h:TS w base tb sb now sv sent cl ov (j5 au id p st hold heard spoke (.slice pa pl pc))):Calls Tryz.prog 142 #[.pointer (some ⟨tb,0,none⟩)] w fun e w'=>(∃v,e=.returned v)∧TS w' base tb sb now sv sent true true (j5 au id p 0 0 0 0 (.slice none 0 0))∧Rest base tb sb w w':=by
 obtain⟨⟨c0,c1,c2,c3,c4⟩,z2,c,d⟩:=h.facts;have a:=h.Dj (i:=3) (v:=.bool true) (cl':=true) (ov':=ov) rfl h.own;have b:Hid (Calls Tryz.prog 149 _ _ _):=Ds a.1;have HR:Hid (Rest base tb sb w (w.setCell ⟨tb,3,none⟩ (.bool true))):=a.2;clear h a;go_enter Tryz.func142,Tryz.ntmps142
 go_wp2_with (go_at_call 149;refine b.out.mono ?_;rintro e w1 ⟨⟨v,rfl⟩,g1,g2⟩)
 exact iY (v:=.tuple #[]) (by simp[results,Tryz.results142,go_sem]) rfl ⟨⟨_,rfl⟩,g1,HR.out.trans g2⟩
theorem Ov(w:World):Calls Tryz.prog 144 #[] w fun e w'=>e=.returned (.agg #[.int .u8 4,.int .u8 0,.string (strOfNums [])])∧Below w.heap.size w w':=by
 go_enter Tryz.func144,Tryz.ntmps144
 go_wp2
 exact iZ (v:=.agg #[.int .u8 4,.int .u8 0,.string (strOfNums [])]) (by simp[results,Tryz.results144,go_sem];try rfl) rfl ⟨rfl,by(repeat(first|exact iD _ _|refine iG ?_|refine iH ?_ (by first|omega|(simp only[iI,iJ,iK];omega)|simp) _|refine iL ?_ (by first|omega|simp) _|assumption))⟩
variable {xs:List Int}
theorem Bytes.app{ys:List Int}(h:Bytes xs)(k:Bytes ys):Bytes (xs++ys):=fun x hx=>by
 rcases gQ.1 hx with e|e
 ·exact h x e
 ·exact k x e
theorem Bytes.cons{x:Int}{xs:List Int}(h:0≤x∧x<256)(k:Bytes xs):Bytes (x::xs):=fun y a=>by
 rcases fJ.1 a with rfl|e
 ·exact h
 ·exact k y e
theorem Bytes.nil:Bytes []:=fun x hx=>by cases hx
theorem yb(n:Int):Bytes (kB n):=Bytes.cons (by omega) (Bytes.cons (by omega) Bytes.nil)
theorem Ow:Bytes mark:=by
 intro x hx;simp[mark]at hx;omega
variable {k:Int}
theorem yc{b:List Int}(a:0≤k∧k<256)(hb:Bytes b):Bytes (j9 k b):=Ow.app ((yb _).app (Bytes.cons a hb))
theorem Dv(h:TS w base tb sb now sv sent cl ov (j5 au id p st hold heard spoke (.slice pa pl pc))){c s:Int}{d:List Int}(o:0≤c∧c<256)(q:0≤s∧s<256)(hd:Bytes d)(r:sent.length+d.length≤50000):Calls Tryz.prog 117 #[.pointer (some ⟨tb,0,none⟩),.agg #[.int .u8 c,.int .u8 s,.string (strOfNums d)]] w fun e w'=>(∃v,e=.returned v)∧∃sv',TS w' base tb sb now sv' (sent++j9 3 (c::s::d)) true true (j5 au id p 0 0 0 0 (.slice none 0 0))∧Rest base tb sb w w':=by
 have l:=h.lt;have t:Hid (_):=h;have x:Hid (Bytes (j9 3 (c::s::d))):=yc (by omega) (Bytes.cons o (Bytes.cons q hd));have y:Hid (d.length≤60000):=by show _≤_;omega
 have z:Hid (sent.length+(j9 3 (c::s::d)).length≤1000000):=by show _≤_;rw[rM];simp;omega
 have g:Hid (base≤w.heap.size):=l.2.2;clear h l o q hd r;go_enter Tryz.func117,Tryz.ntmps117
 go_wp2_with (first
  |(go_at_call 141;go_loud (refine(Oo c s d y.out _).mono ?_);go_loud (rintro e w1 ⟨rfl,hB⟩);go_loud (have a:Below w.heap.size w w1:=jd (by(repeat(first|exact iD _ _|refine iG ?_|refine iH ?_ (by first|omega|(simp only[iI,iJ,iK];omega)|simp) _|refine iL ?_ (by first|omega|simp) _|assumption))) (hB.mono (by simp)));go_loud (have H1:Hid (TS w1 base tb sb now sv sent cl ov (j5 au id p st hold heard spoke (.slice pa pl pc))):=t.out.below a);go_loud (have i:Hid (Rest base tb sb w w1):=Rest.below a g.out);clear hB a)
  |(go_at_call 140;go_loud (refine(Af (u:=.int .i64 spoke) H1.out rfl rfl x.out z.out).mono ?_);go_loud (rintro e w2 ⟨⟨v2,rfl⟩,A,b,f⟩);go_loud (have B:Hid (_):=b);go_loud (have j:Hid (_):=f);clear b f)
  |(go_at_call 142;go_loud (refine(Du (spoke:=now) (st:=st) (hold:=hold) (heard:=heard) (au:=au) (id:=id) (p:=p) (pa:=pa) (pl:=pl) (pc:=pc) B.out).mono ?_);go_loud (rintro e w3 ⟨⟨v3,rfl⟩,m,n⟩)))
 exact iY (v:=.tuple #[]) (by simp[results,Tryz.results117,go_sem]) rfl ⟨⟨_,rfl⟩,_,m,i.out.trans (j.out.trans n)⟩
theorem p8(xs:List Int)(a b:Nat):(strOfNums xs).extract a b=strOfNums ((xs.drop a).take (b-a)):=by
 simp[strOfNums,ByteArray.extract,ByteArray.copySlice]
theorem tu(hx:Bytes xs){i:Nat}(b:xs[i]?=some k)(h:i<(strOfNums xs).size):(((strOfNums xs)[i]'h).toNat:Int)=k:=by
 have c:i<xs.length:=(je.1 b).1;have e:(strOfNums xs)[i]'h=UInt8.ofNat (xs[i]).toNat:=by
  show(strOfNums xs).data[i]'(by exact h)=_;simp[strOfNums]
 have a:xs[i]=k:=by rw[jf c]at b;exact eX b
 rw[e,a];exact Dd (by rw[←a];exact hx _ (jg c))
def kP (xs:List Int):Int:=xs.foldl (fun n x=>256*n+x) 0
theorem Ai(xs:List Int)(x:Int):kP (xs++[x])=256*kP xs+x:=by simp[kP,List.foldl_append]
theorem uv(h:Bytes xs):0≤kP xs∧kP xs<256 ^ xs.length:=by
 have key:∀(n:Nat)(xs:List Int),xs.length=n→Bytes xs→0≤kP xs∧kP xs<256 ^ n:=by
  intro n
  induction n with
  |zero=>intro xs a _;obtain rfl:=iQ a;simp[kP]
  |succ n b =>
   intro xs a hb;obtain⟨ys,y,rfl⟩:∃ys y,xs=ys++[y]:=⟨xs.dropLast,xs.getLast (by intro e;subst e;simp at a),(List.dropLast_concat_getLast _).symm⟩;have c:=b ys (by simp at a;exact a) fun x hx=>hb x (by simp[hx])
   have d:=hb y (by simp);rw[Ai,Int.pow_succ];omega
 exact key _ xs rfl h
theorem Ox{n x:Int}(c:0≤n)(d:n<16777216)(hx:0≤x∧x<256):bits .or .u32 (n*256 % 4294967296) (x % 4294967296)=256*n+x:=by
 rw[Int.emod_eq_of_lt (by omega) (by omega),Int.emod_eq_of_lt (by omega) (by omega),u32_or _ _ (by omega) (by omega) hx.1 (by omega)];have e:=Nat.two_pow_add_eq_or_of_lt (i:=8) (b:=x.toNat) (by omega) n.toNat
 have a:(n*256).toNat=2 ^ 8*n.toNat:=by omega
 rw[a,←e];omega
theorem Dw(xs:List Int)(hx:Bytes xs)(k:Int)(a:xs[18]?=some k)(w:World):Calls Tryz.prog 169 #[.string (strOfNums xs)] w fun e w'=>e=.returned (.int .i64 k)∧w'=w:=by
 have b:=iE;have c:18<xs.length:=(je.1 a).1;have d:18<(strOfNums xs).size:=by rw[b];exact c
 have f:∀h:18<(strOfNums xs).size,(((strOfNums xs)[18]'h).toNat:Int)=k:=fun h=>tu hx a h
 have hb:0≤k∧k<256:=by
  have:=hx k (gn a);exact this
 have hw:wrap64 k=k:=by unfold wrap64;omega
 go_enter Tryz.func169,Tryz.ntmps169
 go_wp2
 go_ret;exact⟨rfl,rfl⟩
theorem yd(xs:List Int)(hx:Bytes xs)(r:xs.length≤4)(w:World):Calls Tryz.prog 178 #[.string (strOfNums xs)] w fun e w'=>e=.returned (.int .u32 (kP xs))∧w'=w:=by
 have o:=iE;go_enter Tryz.func178,Tryz.ntmps178
 go_wp2_with fail
 go_loop [3,7] (fun n i=>∃k:Nat,k≤xs.length∧i=.int .i64 k∧n=.int .u32 (kP (xs.take k))) (fun _ i=>xs.length-(intOf i).toNat)
 case atStart=>exact⟨0,eI _,rfl,rfl⟩
 case round =>
  obtain⟨k,s,rfl,rfl⟩:=hrel
  by_cases a:k<xs.length
  ·have b:xs[k]?=some xs[k]:=jf a;have d:=hx _ (jg a);have c:=uv (xs:=xs.take k) (fun x h=>hx x (iV h));have f:(xs.take k).length=k:=by rw[iT];omega
   rw[f]at c;have hp:(256:Int) ^ k≤16777216:=by
    have:k=0∨k=1∨k=2∨k=3:=by omega
    rcases this with rfl|rfl|rfl|rfl<;>decide
   have hsz:k<(strOfNums xs).size:=by rw[o];exact a
   have q:(((strOfNums xs)[k]'hsz).toNat:Int)=xs[k]:=tu hx b hsz;have g:=Ox c.1 (by omega) d;have j:kP (xs.take (k+1))=256*kP (xs.take k)+xs[k]:=by
    rw[List.take_add_one,b];exact Ai _ _
   have m:Hid (bits .or .u32 (kP (xs.take k)*256 % 4294967296) (xs[k] % 4294967296)=kP (xs.take (k+1))):=by rw[j];exact g
   clear g j c hp b d f
   go_wp2_with fail
   go_round
   case rel=>exact⟨k+1,by omega,by go_num,by first|rw[q,m.out]|rw[m.out]⟩
   case measure=>simp[intOf];omega
  ·have l:k=xs.length:=by omega
   subst l
   go_wp2_with fail
   go_ret;exact⟨rfl,rfl⟩
def kQ (xs:List Int):Int:=kP ((xs.drop 16).take 2)
theorem Dx(xs:List Int)(hx:Bytes xs)(f:18≤xs.length)(w:World):Calls Tryz.prog 174 #[.string (strOfNums xs)] w fun e w'=>e=.returned (.int .i64 (kQ xs))∧w'=w:=by
 have g:=iE;have i:(strOfNums xs).extract 16 18=strOfNums ((xs.drop 16).take 2):=p8 xs 16 18;have a:Bytes ((xs.drop 16).take 2):=fun x h=>hx x (iW (iV h))
 have b:((xs.drop 16).take 2).length=2:=by simp;omega
 have c:=uv a;rw[b]at c;have hw:wrap64 (kQ xs)=kQ xs:=by unfold wrap64 kQ;omega
 have d:Hid (Calls Tryz.prog 178 #[.string (strOfNums ((xs.drop 16).take 2))] w fun e w'=>e=.returned (.int .u32 (kQ xs))∧w'=w):=yd _ a (by omega) w;clear c b a;go_enter Tryz.func174,Tryz.ntmps174
 go_wp2_with (go_at_call 178;refine d.out.mono ?_;rintro e w1 ⟨rfl,rfl⟩)
 go_ret;exact⟨by show Ending.returned (Value.int .i64 (wrap64 (kQ xs)))=_;rw[hw],rfl⟩
theorem Oy(xs ys:List Int)(hp:xs.take ys.length=ys)(w:World):Calls Tryz.prog 179 #[.string (strOfNums xs),.string (strOfNums ys)] w fun e w'=>e=.returned (.bool true)∧w'=w:=by
 have a:=iE;have b:(strOfNums xs).extract 0 ys.length=strOfNums ys:=by rw[p8];simp[hp]
 have hle:ys.length≤xs.length:=by rw[←hp,iT];omega
 have c:decide ((ys.length:Int)≤(xs.length:Int))=true:=by simpa using hle
 go_enter Tryz.func179,Tryz.ntmps179
 go_wp2
 go_ret;exact⟨rfl,rfl⟩
theorem Aj{v:Value}{n:Nat}(h:w.ownsRow base 5 1 v n (cellsOf xs))(a:0<xs.length):∃g c,v=.slice (some ⟨g,0,none⟩) xs.length c∧xs.length≤c∧(∀i (b:i<xs.length),w.cell? ⟨g,i,none⟩=some (.int .u8 xs[i])):=by
 have d:n=xs.length:=by have:=h.1;rw[Df]at this;omega
 subst d;rcases h.2 with⟨_,e⟩|⟨g,c,cur,k1,k2,j,f,l,m,o⟩
 ·rw[e]at a;exact absurd a (by simp)
 ·refine⟨g,c,k1,f,fun i b=>?_⟩;have:=h.cells (g:=g) (by rw[k1];rfl) i (.int .u8 xs[i]) (by simp[cellsOf,jf b]);simpa[iS]using this
theorem Dy(w:World)(g c:Nat)(ys:List Int)(h:∀i (a:i<ys.length),w.cell? ⟨g,i,none⟩=some (.int .u8 ys[i])):(convert 86 9 (.slice (some ⟨g,0,none⟩) ys.length c)).run Tryz.prog w=.ok (.string (strOfNums ys)) w :=
 iC w 86 5 Tryz.underlying86 Tryz.underlying5 g 0 ys.length c ys rfl (fun i a=>by
  rw[dB,h i a];simp[List.getD,jf a]) 9 Tryz.underlying9
variable {cb co:Nat} {pv:Value}
theorem Ak(l:w.cell? ⟨cb,co,none⟩=some pv)(d:w.ownsRow base 5 1 pv xs.length (cellsOf xs))(m:19≤xs.length):Calls Tryz.prog 168 #[.pointer (some ⟨cb,co,none⟩)] w fun e w'=>e=.returned (.string (strOfNums (xs.take 19)))∧w'=w:=by
 obtain⟨g,c,rfl,f,a⟩:=Aj d (by omega);have b:(xs.take 19).length=19:=by rw[iT];omega
 have kc:=Dy w g c (xs.take 19) (fun i h=>by
  rw[List.getElem_take];exact a i (by rw[b]at h;omega))
 rw[b]at kc;have j:19≤c:=by omega
 clear d a;go_enter Tryz.func168,Tryz.ntmps168
 go_wp2
 go_ret;exact⟨rfl,rfl⟩
theorem vk(xs:List Int)(a:19≤xs.length):kQ (xs.take 19)=kQ xs:=by
 unfold kQ;rw[List.drop_take,List.take_take];rfl
def lA (xs:List Int):Int:=if xs.length<19 then 19-(xs.length:Int) else kQ xs-(xs.length:Int)
theorem DC(c:w.cell? ⟨cb,co,none⟩=some pv)(a:w.ownsRow base 5 1 pv xs.length (cellsOf xs))(b:xs.length<19):Calls Tryz.prog 166 #[.pointer (some ⟨cb,co,none⟩)] w fun e w'=>e=.returned (.int .i64 (lA xs))∧∃m,w'=w.drewN m:=by
 obtain⟨ao,d,rfl,_⟩:=p6 a;have e:lA xs=19-(xs.length:Int):=by unfold lA;rw[dj b]
 have f:(xs.length:Int)<19:=by omega
 rw[e];clear a e;go_enter Tryz.func166,Tryz.ntmps166
 go_wp2_with fail
 go_ret;exact⟨rfl,0,rfl⟩
theorem DD(g:w.cell? ⟨cb,co,none⟩=some pv)(b:w.ownsRow base 5 1 pv xs.length (cellsOf xs))(hb:Bytes xs)(f:19≤xs.length)(i:xs.length≤100000):Calls Tryz.prog 166 #[.pointer (some ⟨cb,co,none⟩)] w fun e w'=>e=.returned (.int .i64 (lA xs))∧∃m,w'=w.drewN m:=by
 have a:Bytes (xs.take 19):=fun x h=>hb x (iV h)
 have c:(xs.take 19).length=19:=by rw[iT];omega
 have j:Hid (∀n,Calls Tryz.prog 168 #[.pointer (some ⟨cb,co,none⟩)] (w.drewN n) fun e w'=>e=.returned (.string (strOfNums (xs.take 19)))∧w'=w.drewN n):=fun n=>Ak (w:=w.drewN n) (base:=base) (pv:=pv) (by simpa using g) (lL b fun k _=>rfl) f
 have l:Hid (∀w,Calls Tryz.prog 174 #[.string (strOfNums (xs.take 19))] w fun e w'=>e=.returned (.int .i64 (kQ xs))∧w'=w):=fun w=>by rw[←vk xs f];exact Dx _ a (by omega) w
 have d:0≤kQ xs∧kQ xs<65536:=by
  have o:Bytes ((xs.drop 16).take 2):=fun x h=>hb x (iW (iV h))
  have:=uv o;rw[show((xs.drop 16).take 2).length=2 by simp;omega]at this;exact this
 obtain⟨ao,q,rfl,_⟩:=p6 b;have e:lA xs=kQ xs-(xs.length:Int):=by unfold lA;rw[dk (by omega)]
 have r:¬((xs.length:Int)<19):=by omega
 have hw:wrap64 (kQ xs-(xs.length:Int))=kQ xs-(xs.length:Int):=by unfold wrap64;omega
 rw[e];clear b e a c hb d;go_enter Tryz.func166,Tryz.ntmps166
 go_wp2_with fail
 go_quiet ((first|(go_at_call 168;exact jh (j.out _))|(go_at_call 174;exact jh (l.out _))))
 go_wp2_with fail
 go_ret;exact⟨by first|rfl|(show Ending.returned (Value.int .i64 (wrap64 (kQ xs-(xs.length:Int))))=_;rw[hw]),_,rfl⟩
end
end Go.Proofs.YtjnkcibpkkjniaaGreat
