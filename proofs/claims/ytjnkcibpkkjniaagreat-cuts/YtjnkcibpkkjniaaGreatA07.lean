import Derived.Test.YtjnkcibpkkjniaaGreatA00
import Derived.Test.YtjnkcibpkkjniaaGreatA06
import Derived.Deep.RegionLaw
set_option linter.all false
set_option maxHeartbeats 2000000
set_option maxRecDepth 20000
namespace Go.Proofs.YtjnkcibpkkjniaaGreat
section
open Go.RowKit
def px (n:Int):List Int:=[n / 16777216 % 256,n / 65536 % 256,n / 256 % 256,n % 256]
theorem jj:∀n,(px n).length=4:=fun _=>rfl
theorem Qw(c s:Int)(d:List Int)(hd:d.length≤60000)(w:World):Calls Tryz.prog 141 #[.agg #[.int .u8 c,.int .u8 s,.string (strOfNums d)]] w fun e w'=>e=.returned (.string (strOfNums (ld 3 (c::s::d))))∧Below w.heap.size w w':=by
 have kc:=yK;have f:=sK;have j:=jf;go_enter Tryz.func141,Tryz.ntmps141
 go_wp2_with (go_at_call 154;refine(A2 _ _ (by simp;omega) _).mono ?_;rintro e w' ⟨rfl,hB⟩)
 go_ret;exact⟨rfl,jC ji (hB.mono (by simp only[iO,jl];omega))⟩
structure SN (w:World) (sb so:Nat) (st hold heard spoke:Int):Prop where
 st:w.cell? ⟨sb,so+9,none⟩=some (.int .i64 st)
 hold:w.cell? ⟨sb,so+10,none⟩=some (.int .i64 hold)
 heard:w.cell? ⟨sb,so+11,none⟩=some (.int .i64 heard)
 spoke:w.cell? ⟨sb,so+12,none⟩=some (.int .i64 spoke)
def lA (n:Int):Prop:=-2305843009213693952≤n∧n≤2305843009213693952
theorem lA.sub{a b:Int}(h:lA a)(k:lA b):wrap64 (a-b)=a-b:=by
 obtain⟨c,d⟩:=h;obtain⟨k1,k2⟩:=k;unfold wrap64;omega
def qd (st hold heard now:Int):Bool:=st != 0&&(hold != 0&&decide (hold≤now-heard))
theorem Qx(w:World)(sb so:Nat)(st hold heard spoke now:Int)(h:SN w sb so st hold heard spoke)(q:lA now)(r:lA heard):Calls Tryz.prog 143 #[.pointer (some ⟨sb,so,none⟩),.int .i64 now] w fun e w'=>e=.returned (.bool (qd st hold heard now))∧∃m,w'=w.drewN m:=by
 obtain⟨c1,c2,c3,c4⟩:=h;have hw:=q.sub r;clear q r
 by_cases c:(st != 0)=true
 ·by_cases d:(hold != 0)=true
  ·have he:qd st hold heard now=decide (hold≤now-heard):=by simp[qd,c,d]
   rw[he];clear he;go_enter Tryz.func143,Tryz.ntmps143
   go_wp2_with fail
   go_quiet (fail)
   go_wp2_with fail
   go_ret;exact⟨rfl,_,rfl⟩
  ·have f:(hold != 0)=false:=by simpa using d
   have he:qd st hold heard now=false:=by simp[qd,f]
   rw[he];clear he d;go_enter Tryz.func143,Tryz.ntmps143
   go_wp2_with fail
   go_quiet (fail)
   go_wp2_with fail
   go_ret;exact⟨rfl,_,rfl⟩
 ·have j:(st != 0)=false:=by simpa using c
  have he:qd st hold heard now=false:=by simp[qd,j]
  rw[he];clear he c;go_enter Tryz.func143,Tryz.ntmps143
  go_wp2_with fail
  go_quiet (fail)
  go_wp2_with fail
  go_ret;exact⟨rfl,_,rfl⟩
def py (st hold spoke now:Int):Bool:=(st == 2 || st == 3)&&(hold != 0&&decide (hold / 3≤now-spoke))
theorem Qy(w:World)(sb so:Nat)(st hold heard spoke now:Int)(h:SN w sb so st hold heard spoke)(r:lA now)(s:lA spoke)(c:0≤hold∧hold≤100000):Calls Tryz.prog 145 #[.pointer (some ⟨sb,so,none⟩),.int .i64 now] w fun e w'=>e=.returned (.bool (py st hold spoke now))∧∃m,w'=w.drewN m:=by
 obtain⟨c1,c2,c3,c4⟩:=h;have hw:=r.sub s;obtain⟨c,f⟩:=c;have y:wrap64 (hold.tdiv 3)=hold / 3:=by
  rw[Int.tdiv_eq_ediv_of_nonneg c];unfold wrap64;omega
 clear r s
 by_cases d:(st == 2 || st == 3)=true
 ·have x:st=2∨st=3:=by simpa using d
  by_cases j:(hold != 0)=true
  ·have he:py st hold spoke now=decide (hold / 3≤now-spoke):=by simp[py,d,j]
   rw[he];clear he d;rcases x with rfl|rfl
   ·go_enter Tryz.func145,Tryz.ntmps145
    go_wp2_with fail
    go_quiet (fail)
    go_wp2_with fail
    go_ret;exact⟨rfl,_,rfl⟩
   ·go_enter Tryz.func145,Tryz.ntmps145
    go_wp2_with fail
    go_quiet (fail)
    go_wp2_with fail
    go_ret;exact⟨rfl,_,rfl⟩
  ·have q:(hold != 0)=false:=by simpa using j
   have he:py st hold spoke now=false:=by simp[py,q]
   rw[he];clear he d j;rcases x with rfl|rfl
   ·go_enter Tryz.func145,Tryz.ntmps145
    go_wp2_with fail
    go_quiet (fail)
    go_wp2_with fail
    go_ret;exact⟨rfl,_,rfl⟩
   ·go_enter Tryz.func145,Tryz.ntmps145
    go_wp2_with fail
    go_quiet (fail)
    go_wp2_with fail
    go_ret;exact⟨rfl,_,rfl⟩
 ·have he:py st hold spoke now=false:=by simp only[py,Bool.not_eq_true]at d ⊢;rw[d];rfl
  rw[he];have z:(st == 2)=false:=by simp at d ⊢;exact d.1
  have A:(st == 3)=false:=by simp at d ⊢;exact d.2
  clear he d;go_enter Tryz.func145,Tryz.ntmps145
  go_wp2_with fail
  go_quiet (fail)
  go_wp2_with fail
  go_ret;exact⟨rfl,_,rfl⟩
end
section
open Go Go.RowKit
variable {P:Program} {w:World} {ops:Array Oper} {o:Oper} {a:Act} {Q:Exit→Act→World→Prop}
theorem Qs{rest:List Oper}(j:o.guard=none)(s x:Operand)(t u:TypeId)(y:o.op=.call { callee:=.builtin .append,args:=#[s,x],argTypes:=#[t,u] })(base:Nat)(e:TypeId)(i:TypeInfo)(z:Value)(A:P.underlying t=some (.slice e))(hu:P.underlying u=some .string)(B:P.info? e=some i)(D:i.zero=some z)(c:i.size=1)(m:i.bytes=1)(q:z.cells.size=1)(v:Value)(n:Nat)(xs:List Value)(E:a.eval s=v)(f:w.ownsRow base e 1 v n xs)(l:List Int)(hx:a.eval x=.string (strOfNums l))(F:Bytes l)(r:n+l.length≤140737488355328)(d:base≤w.heap.size)(h:∀v' w',w'.ownsRow base e 1 v' (n+l.length) (xs++cellsOf l)→w.grownBy w' v.ownBlock→(v'.ownBlock=v.ownBlock∨v'.ownBlock=some w.heap.size)→wpList P ops Q rest (a.put o.dst v') w'):wpList P ops Q (o::rest) a w :=
 wpList_plain j fun _ G=>by
  obtain⟨v',w',hr,H,I,J⟩:=run_append_own_string (P:=P) w base t u o.type e i z A hu B D c m q v n xs f F r d;unfold Oper.wp execOp;simp only[y,resolve,invoke,builtin,gE,Sem.run_pure,Result.andThen_ok,eC,gD,List.map_nil,E,hx,hr];exact G _ _ (h v' w' H I J)
structure TS (w:World) (base tb sb:Nat) (now:Int) (sv:Value) (sent:List Int) (cl ov:Bool) (S:Array Value):Prop where
 t:w.heap[tb]?=some (.cells #[.pointer (some ⟨sb,0,none⟩),.int .i64 now,sv,.bool cl,.bool ov] 171 (0,0))
 s:w.heap[sb]?=some (.cells S 100 (0,0))
 own:w.ownsRow base 5 1 sv sent.length (cellsOf sent)
 lt:tb<base∧sb<base∧base≤w.heap.size
 ne:tb≠sb
structure Rest (base tb sb:Nat) (w w':World):Prop where
 os:w'.os=w.os
 size:w.heap.size≤w'.heap.size
 heap:∀b,b<base→b≠tb→b≠sb→w'.heap[b]?=w.heap[b]?
theorem Rest.trans{base tb sb:Nat}{a b c:World}(h:Rest base tb sb a b)(k:Rest base tb sb b c):Rest base tb sb a c :=
 ⟨k.os.trans h.os,dE h.size k.size,fun x d f j=>(k.heap x d f j).trans (h.heap x d f j)⟩
variable {base tb sb:Nat} {w':World}
theorem Rest.below(h:Below w.heap.size w w')(hb:base≤w.heap.size):Rest base tb sb w w':=⟨h.os,h.size,fun b c _ _=>h.block b (by omega)⟩
variable {b:Nat} {C:Array Value} {t:TypeId}
theorem kh(h:w.heap[b]?=some (.cells C t (0,0)))(i:Nat):w.cell? ⟨b,i,none⟩=C[i]?:=by simp[World.cell?,h]
theorem lj(h:w.heap[b]?=some (.cells C t (0,0)))(i:Nat):w.frozen? ⟨b,i,none⟩=false:=by simp[World.frozen?,h]
theorem lp(h:w.heap[b]?=some (.cells C t (0,0)))(i:Nat)(v:Value):(w.setCell ⟨b,i,none⟩ v).heap[b]?=some (.cells (C.setIfInBounds i v) t (0,0)):=by
 simp[World.setCell,dH,h]
theorem kA{b':Nat}(h:b≠b')(i:Nat)(v:Value):(w.setCell ⟨b,i,none⟩ v).heap[b']?=w.heap[b']?:=by
 simp[World.setCell,dH,h]
variable {now:Int} {sv:Value} {sent:List Int} {cl ov:Bool} {S:Array Value}
theorem TS.below(h:TS w base tb sb now sv sent cl ov S)(hB:Below w.heap.size w w'):TS w' base tb sb now sv sent cl ov S:=by
 have d:=h.lt;refine⟨(hB.block tb (by omega)).trans h.t,(hB.block sb (by omega)).trans h.s,?_,⟨d.1,d.2.1,by have:=hB.size;omega⟩,h.ne⟩;refine⟨h.own.1,?_⟩;rcases h.own.2 with k|⟨g,c,cur,k1,k2,f,j⟩
 ·exact .inl k
 ·exact .inr ⟨g,c,cur,k1,k2,by rw[hB.block g (dv.1 f).1];exact f,j⟩
theorem Ep:∃i:TypeInfo,Tryz.prog.info? 5=some i∧i.zero=some (.int .u8 0)∧i.size=1∧i.bytes=1:=by
 have f:((Tryz.prog.info? 5).map fun i=>(i.size,i.bytes))=some (1,1):=by kernel_rfl
 have c:((Tryz.prog.info? 5).bind (·.zero))=some (.int .u8 0):=by kernel_rfl
 obtain⟨i,d,e⟩:=eo.1 f;rw[d]at c;simp only[eG,ed]at e c;exact⟨i,d,c,e.1,e.2⟩
variable {row:Option Nat}
theorem TS.grown{sv':Value}(h:TS w base tb sb now sv sent cl ov S)(d:w.grownBy w' row)(hr:∀k,row=some k→base≤k):w'.heap[tb]?=w.heap[tb]?∧w'.heap[sb]?=w.heap[sb]?∧Rest base tb sb w w':=by
 have c:=h.lt;have hb:∀b,b<base→w'.heap[b]?=w.heap[b]?:=fun b hb=>d.block b (by omega) fun e=>by have:=hr b e.symm;omega
 exact⟨hb tb c.1,hb sb c.2.1,d.os,d.size,fun b c _ _=>hb b c⟩
variable {e:TypeId} {size n:Nat} {v:Value}
theorem mV{xs:List Value}(h:w.ownsRow base e size v n xs):∃ao cap,v=.slice ao n cap∧∀k,v.ownBlock=some k→base≤k:=by
 rcases h.2 with⟨rfl,rfl⟩|⟨g,c,cur,rfl,f,_⟩
 ·exact⟨none,0,rfl,fun k d=>(h.lt k d).1⟩
 ·exact⟨_,_,rfl,fun k d=>(h.lt k d).1⟩
theorem lM{xs:List Value}(h:w.ownsRow base e size v n xs)(d:∀k,v.ownBlock=some k→w'.heap[k]?=w.heap[k]?):w'.ownsRow base e size v n xs:=by
 refine⟨h.1,?_⟩;rcases h.2 with k|⟨g,c,cur,k1,k2,f,j⟩
 ·exact .inl k
 ·exact .inr ⟨g,c,cur,k1,k2,by rw[d g (by rw[k1];rfl)];exact f,j⟩
variable {i:Nat} {sent':List Int}
theorem TS.Er(h:TS w base tb sb now sv sent cl ov S){c:Int}{sv':Value}{cl' ov':Bool}(e:(#[.pointer (some ⟨sb,0,none⟩),.int .i64 now,sv,.bool cl,.bool ov]:Array Value).setIfInBounds i v=#[.pointer (some ⟨sb,0,none⟩),.int .i64 c,sv',.bool cl',.bool ov'])(d:w.ownsRow base 5 1 sv' sent'.length (cellsOf sent')):TS (w.setCell ⟨tb,i,none⟩ v) base tb sb c sv' sent' cl' ov' S∧Rest base tb sb w (w.setCell ⟨tb,i,none⟩ v):=by
 have l:=h.lt;refine⟨⟨by rw[lp h.t,e],(kA h.ne i v).trans h.s,lM d fun k f=>kA (fun e=>by have:=(jA d k f).1;omega) i v,⟨l.1,l.2.1,by simpa[World.setCell]using l.2.2⟩,h.ne⟩,⟨rfl,by simp[World.setCell],fun b _ j _=>kA (dJ j) i v⟩⟩
theorem TS.kX(h:TS w base tb sb now sv sent cl ov S)(i:Nat)(v:Value):TS (w.setCell ⟨sb,i,none⟩ v) base tb sb now sv sent cl ov (S.setIfInBounds i v)∧Rest base tb sb w (w.setCell ⟨sb,i,none⟩ v):=by
 have l:=h.lt;refine⟨⟨(kA (dJ h.ne) i v).trans h.t,lp h.s i v,lM h.own fun k c=>kA (fun e=>by have:=(jA h.own k c).1;omega) i v,⟨l.1,l.2.1,by simpa[World.setCell]using l.2.2⟩,h.ne⟩,⟨rfl,by simp[World.setCell],fun b _ _ d=>kA (dJ d) i v⟩⟩
theorem TS.drew(h:TS w base tb sb now sv sent cl ov S):TS w.drew base tb sb now sv sent cl ov S:=⟨h.t,h.s,h.own,h.lt,h.ne⟩
theorem Rest.drew(h:Rest base tb sb w w'):Rest base tb sb w w'.drew:=⟨h.os,h.size,h.heap⟩
theorem Qt{w1:World}(h:TS w base tb sb now sv sent cl ov S)(f:w.grownBy w1 row)(hr:∀k,row=some k→base≤k){v':Value}(c:w1.ownsRow base 5 1 v' sent'.length (cellsOf sent'))(i:Nat)(u:Value):TS ((w1.setCell ⟨tb,2,none⟩ v').setCell ⟨sb,i,none⟩ u).drew base tb sb now v' sent' cl ov (S.setIfInBounds i u)∧Rest base tb sb w ((w1.setCell ⟨tb,2,none⟩ v').setCell ⟨sb,i,none⟩ u).drew:=by
 obtain⟨j,m,q⟩:=h.grown (sv':=v') f hr;have l:=h.lt;have r:w1.ownsRow base 5 1 v' sent'.length (cellsOf sent'):=c;have B:=f.size;have d:w1.heap[tb]?=_:=j.trans h.t;have x:TS (w1.setCell ⟨tb,2,none⟩ v') base tb sb now v' sent' cl ov S:=⟨by rw[lp d];rfl,(kA h.ne 2 v').trans (m.trans h.s),lM c fun k y=>kA (fun e=>by have:=(jA c k y).1;omega) 2 v',⟨l.1,l.2.1,by simp[World.setCell];omega⟩,h.ne⟩;have z:Rest base tb sb w1 (w1.setCell ⟨tb,2,none⟩ v'):=⟨rfl,by simp[World.setCell],fun b _ A _=>kA (dJ A) 2 v'⟩;have k:=x.kX i u;exact⟨k.1.drew,(q.trans (z.trans k.2)).drew⟩
structure K2 (tb sb:Nat) (sv sv':Value) (w w':World):Prop where
 heap:∀b,b<w.heap.size→b≠tb→b≠sb→some b≠sv.ownBlock→w'.heap[b]?=w.heap[b]?
 own:sv'.ownBlock=sv.ownBlock∨∃k,sv'.ownBlock=some k∧w.heap.size≤k
variable {u:Value} {l:List Int}
theorem Es(h:TS w base tb sb now sv sent cl ov S)(hS:S[12]?=some u)(hu:u.oneCell'=true)(G:Bytes l)(hn:sent.length+l.length≤1000000):Calls Tryz.prog 140 #[.pointer (some ⟨tb,0,none⟩),.string (strOfNums l)] w fun e w'=>(∃v,e=.returned v)∧∃sv',TS w' base tb sb now sv' (sent++l) cl ov (S.setIfInBounds 12 (.int .i64 now))∧Rest base tb sb w w'∧K2 tb sb sv sv' w w':=by
 have H:=h;obtain⟨f,y,j,⟨l1,l2,M⟩,O⟩:=h;obtain⟨i0,I,r,s,x⟩:=Ep;have J:Hid (_):=H;have R:Hid (_):=G;have T:Hid (_):=I;have A:Hid (i0.zero=some (.int .u8 0)∧i0.size=1∧i0.bytes=1):=⟨r,s,x⟩;have U:Hid (sent.length+l.length≤140737488355328):=by show _≤_;omega
 have B:Hid (_):=M;clear H G I r s x;have c0:=kh f 0;have c1:=kh f 1;have c2:=kh f 2;have z2:=lj f 2;have yL:=(kh y 12).trans hS;have V:=lj y 12;simp at c0 c1 c2;have d:Hid (_):=j;clear j;go_enter Tryz.func140,Tryz.ntmps140
 go_wp2_with (at_builtin;go_loud (refine Qs rfl (.tmp 9) (.tmp 10) 86 9 rfl base 5 i0 (.int .u8 0) Tryz.underlying86 Tryz.underlying9 T.out A.out.1 A.out.2.1 A.out.2.2 rfl sv sent.length (cellsOf sent) rfl d.out l rfl R.out U.out B.out ?_);intro v' w1 c m D;go_loud (obtain⟨z,K,g3⟩:=J.out.grown (sv':=v') m (fun k E=>(jA d.out k E).1));go_loud (have d0:=(kh (z.trans f) 0));go_loud (have d1:=(kh (z.trans f) 1));go_loud (have d2:=(kh (z.trans f) 2));go_loud (have y2:=(lj (z.trans f) 2));go_loud (have d12:=(kh (K.trans y) 12).trans hS);go_loud (have W:=(lj (K.trans y) 12));go_loud (obtain⟨ao,cp,rfl,F⟩:=mV c);go_loud (have q:Hid (_):=c);clear c;simp at d0 d1 d2)
 go_region
 all_goals go_wp2_with fail
 have L:=Qt (sent':=sent++l) J.out m (fun k E=>(jA d.out k E).1) (v':=.slice ao (sent.length+l.length) cp) (by rw[jh,←En];exact q.out) 12 (.int .i64 now);refine jB (v:=.tuple #[]) (by simp[results,Tryz.results140,go_sem]) rfl ⟨⟨_,rfl⟩,_,L.1,L.2,⟨fun b X Y Z h4=>?_,D.imp id fun k=>⟨_,k,dD _⟩⟩⟩;show(((w1.setCell _ _).setCell _ _)).heap[b]?=_;rw[kA (dJ Z),kA (dJ Y)];exact m.block b X h4
theorem A3(h:TS w base tb sb now sv sent cl ov S)(hS:S[12]?=some u)(hu:u.oneCell'=true)(c:Bytes l)(d:sent.length+l.length≤1000000):Calls Tryz.prog 140 #[.pointer (some ⟨tb,0,none⟩),.string (strOfNums l)] w fun e w'=>(∃v,e=.returned v)∧∃sv',TS w' base tb sb now sv' (sent++l) cl ov (S.setIfInBounds 12 (.int .i64 now))∧Rest base tb sb w w' :=
 (Es h hS hu c d).mono fun e w' ⟨f,sv',j,m,_⟩=>⟨f,sv',j,m⟩
structure Pz where
 au:Int
 hold:Int
 oi:Int
 oj:Int
 wait:Int
 ia:Option Addr
 il:Nat
 ic:Nat
 ea:Option Addr
 el:Nat
 ec:Nat
def Pz.cells (p:Pz):Array Value:=#[.int .i64 p.au,.int .i64 p.hold,.int .i64 p.oi,.int .i64 p.oj,.int .i64 p.wait,.slice p.ia p.il p.ic,.slice p.ea p.el p.ec]
def kt (au id:Int) (p:Pz) (st hold heard spoke:Int) (part:Value):Array Value :=
 #[.int .i64 au,.int .u32 id,.int .i64 p.au,.int .i64 p.hold,.int .i64 p.oi,.int .i64 p.oj,.int .i64 p.wait,.slice p.ia p.il p.ic,.slice p.ea p.el p.ec,.int .i64 st,.int .i64 hold,.int .i64 heard,.int .i64 spoke,part]
theorem Et(au id:Int)(p:Pz)(w:World):Calls Tryz.prog 41 #[.int .i64 au,.int .u32 id,.agg p.cells] w fun e w'=>e=.returned (.agg (kt au id p 0 0 0 0 (.slice none 0 0)))∧Below w.heap.size w w':=by
 obtain⟨pa,ph,pl,pp,c,ia,il,ic,ea,el,ec⟩:=p;simp only[Pz.cells,kt];go_enter Tryz.func41,Tryz.ntmps41
 go_wp2_with fail
 exact iQ (v:=.agg #[.int .i64 au,.int .u32 id,.int .i64 pa,.int .i64 ph,.int .i64 pl,.int .i64 pp,.int .i64 c,.slice ia il ic,.slice ea el ec,.int .i64 0,.int .i64 0,.int .i64 0,.int .i64 0,.slice none 0 0]) (by simp[results,Tryz.results41,go_sem]) rfl ⟨rfl,ji⟩
variable {c0 c1 c2 c3 c4 c5 c6 c7 c8 c9 A4 A5 yL lf:Value}
theorem oX(h:w.heap[b]?=some (.cells #[c0,c1,c2,c3,c4,c5,c6,c7,c8,c9,A4,A5,yL,lf] t (0,0))):w.cell? ⟨b,0,none⟩=some c0∧w.cell? ⟨b,1,none⟩=some c1∧w.cell? ⟨b,2,none⟩=some c2∧w.cell? ⟨b,3,none⟩=some c3∧w.cell? ⟨b,4,none⟩=some c4∧w.cell? ⟨b,5,none⟩=some c5∧w.cell? ⟨b,6,none⟩=some c6∧w.cell? ⟨b,7,none⟩=some c7∧w.cell? ⟨b,8,none⟩=some c8∧w.cell? ⟨b,9,none⟩=some c9∧w.cell? ⟨b,10,none⟩=some A4∧w.cell? ⟨b,11,none⟩=some A5∧w.cell? ⟨b,12,none⟩=some yL∧w.cell? ⟨b,13,none⟩=some lf∧w.frozen? ⟨b,0,none⟩=false∧w.frozen? ⟨b,1,none⟩=false∧w.frozen? ⟨b,2,none⟩=false∧w.frozen? ⟨b,3,none⟩=false∧w.frozen? ⟨b,4,none⟩=false∧w.frozen? ⟨b,5,none⟩=false∧w.frozen? ⟨b,6,none⟩=false∧w.frozen? ⟨b,7,none⟩=false∧w.frozen? ⟨b,8,none⟩=false∧w.frozen? ⟨b,9,none⟩=false∧w.frozen? ⟨b,10,none⟩=false∧w.frozen? ⟨b,11,none⟩=false∧w.frozen? ⟨b,12,none⟩=false∧w.frozen? ⟨b,13,none⟩=false :=
 ⟨kh h 0,kh h 1,kh h 2,kh h 3,kh h 4,kh h 5,kh h 6,kh h 7,kh h 8,kh h 9,kh h 10,kh h 11,kh h 12,kh h 13,lj h 0,lj h 1,lj h 2,lj h 3,lj h 4,lj h 5,lj h 6,lj h 7,lj h 8,lj h 9,lj h 10,lj h 11,lj h 12,lj h 13⟩
structure u4 (b:Nat) (w w':World):Prop where
 os:w'.os=w.os
 size:w'.heap.size=w.heap.size
 Eu:∀x,x≠b→w'.heap[x]?=w.heap[x]?
theorem u4.refl(b:Nat)(w:World):u4 b w w:=⟨rfl,rfl,fun _ _=>rfl⟩
theorem u4.set(h:u4 b w w')(i:Nat)(v:Value):u4 b w (w'.setCell ⟨b,i,none⟩ v) :=
 ⟨h.os,by simpa[World.setCell]using h.size,fun x hx=>(kA (dJ hx) i v).trans (h.Eu x hx)⟩
theorem Qu(h:w.heap[b]?=some (.cells #[c0,c1,c2,c3,c4,c5,c6,c7,c8,c9,A4,A5,yL,lf] t (0,0)))(d0 d1 d2 d3 d4 d5 d6 d7 d8 d9 d10 d11 d12 d13:Value):((((((((((((((w.setCell ⟨b,0,none⟩ d0).setCell ⟨b,1,none⟩ d1).setCell ⟨b,2,none⟩ d2).setCell ⟨b,3,none⟩ d3).setCell ⟨b,4,none⟩ d4).setCell ⟨b,5,none⟩ d5).setCell ⟨b,6,none⟩ d6).setCell ⟨b,7,none⟩ d7).setCell ⟨b,8,none⟩ d8).setCell ⟨b,9,none⟩ d9).setCell ⟨b,10,none⟩ d10).setCell ⟨b,11,none⟩ d11).setCell ⟨b,12,none⟩ d12).setCell ⟨b,13,none⟩ d13).heap[b]?=some (.cells #[d0,d1,d2,d3,d4,d5,d6,d7,d8,d9,d10,d11,d12,d13] t (0,0))∧u4 b w ((((((((((((((w.setCell ⟨b,0,none⟩ d0).setCell ⟨b,1,none⟩ d1).setCell ⟨b,2,none⟩ d2).setCell ⟨b,3,none⟩ d3).setCell ⟨b,4,none⟩ d4).setCell ⟨b,5,none⟩ d5).setCell ⟨b,6,none⟩ d6).setCell ⟨b,7,none⟩ d7).setCell ⟨b,8,none⟩ d8).setCell ⟨b,9,none⟩ d9).setCell ⟨b,10,none⟩ d10).setCell ⟨b,11,none⟩ d11).setCell ⟨b,12,none⟩ d12).setCell ⟨b,13,none⟩ d13):=by
 refine⟨?_,((((((((((((((u4.refl b w).set 0 d0).set 1 d1).set 2 d2).set 3 d3).set 4 d4).set 5 d5).set 6 d6).set 7 d7).set 8 d8).set 9 d9).set 10 d10).set 11 d11).set 12 d12).set 13 d13⟩;have m:=lp h 0 d0;simp only[iz,iB]at m;have k1:=lp m 1 d1;simp only[iz,iB,iA]at k1;clear m;have k2:=lp k1 2 d2;simp only[iz,iB,iA]at k2;clear k1;have q:=lp k2 3 d3;simp only[iz,iB,iA]at q;clear k2;have r:=lp q 4 d4;simp only[iz,iB,iA]at r;clear q;have s:=lp r 5 d5;simp only[iz,iB,iA]at s;clear r;have x:=lp s 6 d6;simp only[iz,iB,iA]at x;clear s;have y:=lp x 7 d7;simp only[iz,iB,iA]at y;clear x;have z:=lp y 8 d8;simp only[iz,iB,iA]at z;clear y;have A:=lp z 9 d9;simp only[iz,iB,iA]at A;clear z;have c:=lp A 10 d10;simp only[iz,iB,iA]at c;clear A;have d:=lp c 11 d11;simp only[iz,iB,iA]at d;clear c;have f:=lp d 12 d12;simp only[iz,iB,iA]at f;clear d;have j:=lp f 13 d13;simp only[iz,iB,iA]at j;clear f;exact j
variable {au id st hold heard spoke:Int} {p:Pz} {pa:Option Addr} {pl pc:Nat}
theorem Qv(h:w.heap[sb]?=some (.cells (kt au id p st hold heard spoke (.slice pa pl pc)) 100 (0,0))):Calls Tryz.prog 158 #[.pointer (some ⟨sb,0,none⟩)] w fun e w'=>(∃v,e=.returned v)∧w'.heap[sb]?=some (.cells (kt au id p 0 0 0 0 (.slice none 0 0)) 100 (0,0))∧w'.os=w.os∧w.heap.size≤w'.heap.size∧∀b,b<w.heap.size→b≠sb→w'.heap[b]?=w.heap[b]?:=by
 obtain⟨m,q,r,s,x,ia,il,ic,ea,el,ec⟩:=p;simp only[kt]at h ⊢;have y:=h;have d:sb<w.heap.size:=(dv.1 h).1;have f:=fun w=>Et au id ⟨m,q,r,s,x,ia,il,ic,ea,el,ec⟩ w
 simp only[Pz.cells,kt]at f;have c0:=kh h 0;have c1:=kh h 1;have c2:=kh h 2;have c3:=kh h 3;have c4:=kh h 4;have c5:=kh h 5;have c6:=kh h 6;have c7:=kh h 7;have c8:=kh h 8;simp at c0 c1 c2 c3 c4 c5 c6 c7 c8;have z:Hid (_):=y;have j:Hid (∀w,_):=f;clear h y f;go_enter Tryz.func158,Tryz.ntmps158
 go_wp2_with fail
 go_region_with (go_at_call 41;go_loud (refine(j.out _).mono ?_);go_loud (rintro e w1 ⟨rfl,hB⟩);go_loud (obtain hb:=(hB.block sb d).trans z.out);go_loud (obtain⟨L,M,O,R,T,U,V,W,X,Y,A,B,D,E,Z,z1,z2,z3,z4,z5,z6,z7,z8,z9,F,G,H,I⟩:=oX hb))
 all_goals go_wp2_with fail
 all_goals
  have c:=Qu hb (.int .i64 au) (.int .u32 id) (.int .i64 m) (.int .i64 q) (.int .i64 r) (.int .i64 s) (.int .i64 x) (.slice ia il ic) (.slice ea el ec) (.int .i64 0) (.int .i64 0) (.int .i64 0) (.int .i64 0) (.slice none 0 0);have hsz:w.heap.size≤w1.heap.size:=hB.size;exact jB (v:=.tuple #[]) (by simp[results,Tryz.results158,go_sem]) rfl ⟨⟨_,rfl⟩,c.1,c.2.os.trans hB.os,by rw[c.2.size];exact hsz,fun b J K=>(c.2.Eu b K).trans (hB.block b J)⟩
theorem TS.facts(h:TS w base tb sb now sv sent cl ov S):(w.cell? ⟨tb,0,none⟩=some (.pointer (some ⟨sb,0,none⟩))∧w.cell? ⟨tb,1,none⟩=some (.int .i64 now)∧w.cell? ⟨tb,2,none⟩=some sv∧w.cell? ⟨tb,3,none⟩=some (.bool cl)∧w.cell? ⟨tb,4,none⟩=some (.bool ov)) ∧
   w.frozen? ⟨tb,2,none⟩=false∧w.frozen? ⟨tb,3,none⟩=false∧w.frozen? ⟨tb,4,none⟩=false :=
 ⟨⟨kh h.t 0,kh h.t 1,kh h.t 2,kh h.t 3,kh h.t 4⟩,lj h.t 2,lj h.t 3,lj h.t 4⟩
theorem TS.Qz{S':Array Value}(h:TS w base tb sb now sv sent cl ov S)(d:w'.heap[sb]?=some (.cells S' 100 (0,0)))(f:w'.os=w.os)(j:w.heap.size≤w'.heap.size)(c:∀b,b<w.heap.size→b≠sb→w'.heap[b]?=w.heap[b]?):TS w' base tb sb now sv sent cl ov S'∧Rest base tb sb w w':=by
 have l:=h.lt;refine⟨⟨(c tb (by omega) h.ne).trans h.t,d,lM h.own fun k m=>?_,⟨l.1,l.2.1,by omega⟩,h.ne⟩,⟨f,j,fun b k1 k2 q=>c b (by omega) q⟩⟩;have:=jA h.own k m;exact c k this.2 (by omega)
theorem Ez(h:TS w base tb sb now sv sent cl ov (kt au id p st hold heard spoke (.slice pa pl pc))):Calls Tryz.prog 149 #[.pointer (some ⟨tb,0,none⟩)] w fun e w'=>(∃v,e=.returned v)∧TS w' base tb sb now sv sent cl true (kt au id p 0 0 0 0 (.slice none 0 0))∧Rest base tb sb w w':=by
 obtain⟨⟨c0,c1,c2,c3,c4⟩,z2,A,B⟩:=h.facts;have f:Hid (_):=h;have j:=h.ne;have m:Hid (Calls Tryz.prog 158 _ w _):=Qv h.s;clear h;go_enter Tryz.func149,Tryz.ntmps149
 go_wp2_with (go_at_call 158;refine m.out.mono ?_;rintro e w1 ⟨⟨v,rfl⟩,q,r,x,y⟩;obtain⟨c,z⟩:=f.out.Qz q r x y;obtain⟨⟨d0,d1,d2,d3,d4⟩,D,E,F⟩:=c.facts)
 have d:=c.Er (i:=4) (v:=.bool true) (cl':=cl) (ov':=true) rfl c.own;exact jB (v:=.tuple #[]) (by simp[results,Tryz.results149,go_sem]) rfl ⟨⟨_,rfl⟩,d.1,z.trans d.2⟩
theorem EA(h:TS w base tb sb now sv sent cl ov (kt au id p st hold heard spoke (.slice pa pl pc))):Calls Tryz.prog 142 #[.pointer (some ⟨tb,0,none⟩)] w fun e w'=>(∃v,e=.returned v)∧TS w' base tb sb now sv sent true true (kt au id p 0 0 0 0 (.slice none 0 0))∧Rest base tb sb w w':=by
 obtain⟨⟨c0,c1,c2,c3,c4⟩,z2,m,q⟩:=h.facts;have c:=h.Er (i:=3) (v:=.bool true) (cl':=true) (ov':=ov) rfl h.own;have d:Hid (Calls Tryz.prog 149 _ _ _):=Ez c.1;have HR:Hid (Rest base tb sb w (w.setCell ⟨tb,3,none⟩ (.bool true))):=c.2;clear h c;go_enter Tryz.func142,Tryz.ntmps142
 go_wp2_with (go_at_call 149;refine d.out.mono ?_;rintro e w1 ⟨⟨v,rfl⟩,f,j⟩)
 exact jB (v:=.tuple #[]) (by simp[results,Tryz.results142,go_sem]) rfl ⟨⟨_,rfl⟩,f,HR.out.trans j⟩
theorem QA(w:World):Calls Tryz.prog 144 #[] w fun e w'=>e=.returned (.agg #[.int .u8 4,.int .u8 0,.string (strOfNums [])])∧Below w.heap.size w w':=by
 go_enter Tryz.func144,Tryz.ntmps144
 go_wp2
 exact iQ (v:=.agg #[.int .u8 4,.int .u8 0,.string (strOfNums [])]) (by simp[results,Tryz.results144,go_sem];try rfl) rfl ⟨rfl,ji⟩
variable {xs ys:List Int}
theorem Bytes.app(h:Bytes xs)(k:Bytes ys):Bytes (xs++ys):=fun x hx=>by
 rcases gV.1 hx with e|e
 ·exact h x e
 ·exact k x e
theorem Bytes.cons{x:Int}{xs:List Int}(h:0≤x∧x<256)(k:Bytes xs):Bytes (x::xs):=fun y c=>by
 rcases fN.1 c with rfl|e
 ·exact h
 ·exact k y e
theorem Bytes.nil:Bytes []:=fun x hx=>by cases hx
theorem yM(n:Int):Bytes (ly n):=Bytes.cons (by omega) (Bytes.cons (by omega) Bytes.nil)
theorem QB:Bytes mark:=by
 intro x hx;simp[mark]at hx;omega
variable {k:Int}
theorem yN{b:List Int}(c:0≤k∧k<256)(hb:Bytes b):Bytes (ld k b):=QB.app ((yM _).app (Bytes.cons c hb))
theorem EB(h:TS w base tb sb now sv sent cl ov (kt au id p st hold heard spoke (.slice pa pl pc))){c s:Int}{d:List Int}(A:0≤c∧c<256)(B:0≤s∧s<256)(hd:Bytes d)(D:sent.length+d.length≤50000):Calls Tryz.prog 117 #[.pointer (some ⟨tb,0,none⟩),.agg #[.int .u8 c,.int .u8 s,.string (strOfNums d)]] w fun e w'=>(∃v,e=.returned v)∧∃sv',TS w' base tb sb now sv' (sent++ld 3 (c::s::d)) true true (kt au id p 0 0 0 0 (.slice none 0 0))∧Rest base tb sb w w':=by
 have l:=h.lt;have E:Hid (_):=h;have F:Hid (Bytes (ld 3 (c::s::d))):=yN (by omega) (Bytes.cons A (Bytes.cons B hd));have G:Hid (d.length≤60000):=by show _≤_;omega
 have H:Hid (sent.length+(ld 3 (c::s::d)).length≤1000000):=by show _≤_;rw[sL];simp;omega
 have q:Hid (base≤w.heap.size):=l.2.2;clear h l A B hd D;go_enter Tryz.func117,Tryz.ntmps117
 go_wp2_with (first
  |(go_at_call 141;go_loud (refine(Qw c s d G.out _).mono ?_);go_loud (rintro e w1 ⟨rfl,hB⟩);go_loud (have f:Below w.heap.size w w1:=jC ji (hB.mono (by simp)));go_loud (have H1:Hid (TS w1 base tb sb now sv sent cl ov (kt au id p st hold heard spoke (.slice pa pl pc))):=E.out.below f);go_loud (have r:Hid (Rest base tb sb w w1):=Rest.below f q.out);clear hB f)
  |(go_at_call 140;go_loud (refine(A3 (u:=.int .i64 spoke) H1.out rfl rfl F.out H.out).mono ?_);go_loud (rintro e w2 ⟨⟨v2,rfl⟩,I,j,m⟩);go_loud (have J:Hid (_):=j);go_loud (have x:Hid (_):=m);clear j m)
  |(go_at_call 142;go_loud (refine(EA (spoke:=now) (st:=st) (hold:=hold) (heard:=heard) (au:=au) (id:=id) (p:=p) (pa:=pa) (pl:=pl) (pc:=pc) J.out).mono ?_);go_loud (rintro e w3 ⟨⟨v3,rfl⟩,y,z⟩)))
 exact jB (v:=.tuple #[]) (by simp[results,Tryz.results117,go_sem]) rfl ⟨⟨_,rfl⟩,_,y,r.out.trans (x.out.trans z)⟩
theorem rh(xs:List Int)(a b:Nat):(strOfNums xs).extract a b=strOfNums ((xs.drop a).take (b-a)):=by
 simp[strOfNums,ByteArray.extract,ByteArray.copySlice]
theorem vY(hx:Bytes xs)(d:xs[i]?=some k)(h:i<(strOfNums xs).size):(((strOfNums xs)[i]'h).toNat:Int)=k:=by
 have f:i<xs.length:=(iV.1 d).1;have e:(strOfNums xs)[i]'h=UInt8.ofNat (xs[i]).toNat:=by
  show(strOfNums xs).data[i]'(by exact h)=_;simp[strOfNums]
 have c:xs[i]=k:=by rw[jH f]at d;exact ff d
 rw[e,c];exact Ek (by rw[←c];exact hx _ (List.getElem_mem f))
def mM (xs:List Int):Int:=xs.foldl (fun n x=>256*n+x) 0
theorem EK(xs:List Int)(x:Int):mM (xs++[x])=256*mM xs+x:=by simp[mM,List.foldl_append]
theorem vZ(h:Bytes xs):0≤mM xs∧mM xs<256 ^ xs.length:=by
 have key:∀(n:Nat)(xs:List Int),xs.length=n→Bytes xs→0≤mM xs∧mM xs<256 ^ n:=by
  intro n
  induction n with
  |zero=>intro xs c _;obtain rfl:=js c;simp[mM]
  |succ n d =>
   intro xs c hb;obtain⟨ys,y,rfl⟩:∃ys y,xs=ys++[y]:=⟨xs.dropLast,xs.getLast (by intro e;subst e;simp at c),(List.dropLast_concat_getLast _).symm⟩;have f:=d ys (by simp at c;exact c) fun x hx=>hb x (by simp[hx])
   have j:=hb y (by simp);rw[EK,Int.pow_succ];omega
 exact key _ xs rfl h
theorem QM{n x:Int}(d:0≤n)(f:n<16777216)(hx:0≤x∧x<256):bits .or .u32 (n*256 % 4294967296) (x % 4294967296)=256*n+x:=by
 rw[Int.emod_eq_of_lt (by omega) (by omega),Int.emod_eq_of_lt (by omega) (by omega),u32_or _ _ (by omega) (by omega) hx.1 (by omega)];have e:=Nat.two_pow_add_eq_or_of_lt (i:=8) (b:=x.toNat) (by omega) n.toNat
 have c:(n*256).toNat=2 ^ 8*n.toNat:=by omega
 rw[c,←e];omega
theorem EL(xs:List Int)(hx:Bytes xs)(k:Int)(c:xs[18]?=some k)(w:World):Calls Tryz.prog 169 #[.string (strOfNums xs)] w fun e w'=>e=.returned (.int .i64 k)∧w'=w:=by
 have d:=jf;have f:18<xs.length:=(iV.1 c).1;have j:18<(strOfNums xs).size:=by rw[d];exact f
 have m:∀h:18<(strOfNums xs).size,(((strOfNums xs)[18]'h).toNat:Int)=k:=fun h=>vY hx c h
 have hb:0≤k∧k<256:=by
  have:=hx k (gv c);exact this
 have hw:wrap64 k=k:=by unfold wrap64;omega
 go_enter Tryz.func169,Tryz.ntmps169
 go_wp2
 go_ret;exact⟨rfl,rfl⟩
theorem yP(xs:List Int)(hx:Bytes xs)(B:xs.length≤4)(w:World):Calls Tryz.prog 178 #[.string (strOfNums xs)] w fun e w'=>e=.returned (.int .u32 (mM xs))∧w'=w:=by
 have z:=jf;go_enter Tryz.func178,Tryz.ntmps178
 go_wp2_with fail
 go_loop [3,7] (fun n i=>∃k:Nat,k≤xs.length∧i=.int .i64 k∧n=.int .u32 (mM (xs.take k))) (fun _ i=>xs.length-(intOf i).toNat)
 case atStart=>exact⟨0,eP _,rfl,rfl⟩
 case round =>
  obtain⟨k,D,rfl,rfl⟩:=hrel
  by_cases c:k<xs.length
  ·have d:xs[k]?=some xs[k]:=jH c;have j:=hx _ (List.getElem_mem c);have f:=vZ (xs:=xs.take k) (fun x h=>hx x (jy h));have m:(xs.take k).length=k:=by rw[jw];omega
   rw[m]at f;have hp:(256:Int) ^ k≤16777216:=by
    have:k=0∨k=1∨k=2∨k=3:=by omega
    rcases this with rfl|rfl|rfl|rfl<;>decide
   have hsz:k<(strOfNums xs).size:=by rw[z];exact c
   have A:(((strOfNums xs)[k]'hsz).toNat:Int)=xs[k]:=vY hx d hsz;have q:=QM f.1 (by omega) j;have r:mM (xs.take (k+1))=256*mM (xs.take k)+xs[k]:=by
    rw[List.take_add_one,d];exact EK _ _
   have y:Hid (bits .or .u32 (mM (xs.take k)*256 % 4294967296) (xs[k] % 4294967296)=mM (xs.take (k+1))):=by rw[r];exact q
   clear q r f hp d j m
   go_wp2_with fail
   go_round
   case rel=>exact⟨k+1,by omega,by go_num,by first|rw[A,y.out]|rw[y.out]⟩
   case measure=>simp[intOf];omega
  ·have s:k=xs.length:=by omega
   subst s
   go_wp2_with fail
   go_ret;exact⟨rfl,rfl⟩
def lr (xs:List Int):Int:=mM ((xs.drop 16).take 2)
theorem EM(xs:List Int)(hx:Bytes xs)(m:18≤xs.length)(w:World):Calls Tryz.prog 174 #[.string (strOfNums xs)] w fun e w'=>e=.returned (.int .i64 (lr xs))∧w'=w:=by
 have q:=jf;have r:(strOfNums xs).extract 16 18=strOfNums ((xs.drop 16).take 2):=rh xs 16 18;have c:Bytes ((xs.drop 16).take 2):=fun x h=>hx x (jz (jy h))
 have d:((xs.drop 16).take 2).length=2:=by simp;omega
 have f:=vZ c;rw[d]at f;have hw:wrap64 (lr xs)=lr xs:=by unfold wrap64 lr;omega
 have j:Hid (Calls Tryz.prog 178 #[.string (strOfNums ((xs.drop 16).take 2))] w fun e w'=>e=.returned (.int .u32 (lr xs))∧w'=w):=yP _ c (by omega) w;clear f d c;go_enter Tryz.func174,Tryz.ntmps174
 go_wp2_with (go_at_call 178;refine j.out.mono ?_;rintro e w1 ⟨rfl,rfl⟩)
 go_ret;exact⟨by show Ending.returned (Value.int .i64 (wrap64 (lr xs)))=_;rw[hw],rfl⟩
theorem QN(xs ys:List Int)(hp:xs.take ys.length=ys)(w:World):Calls Tryz.prog 179 #[.string (strOfNums xs),.string (strOfNums ys)] w fun e w'=>e=.returned (.bool true)∧w'=w:=by
 have c:=jf;have d:(strOfNums xs).extract 0 ys.length=strOfNums ys:=by rw[rh];simp[hp]
 have hle:ys.length≤xs.length:=by rw[←hp,jw];omega
 have f:decide ((ys.length:Int)≤(xs.length:Int))=true:=by simpa using hle
 go_enter Tryz.func179,Tryz.ntmps179
 go_wp2
 go_ret;exact⟨rfl,rfl⟩
theorem Bc(h:w.ownsRow base 5 1 v n (cellsOf xs))(d:0<xs.length):∃g c,v=.slice (some ⟨g,0,none⟩) xs.length c∧xs.length≤c∧(∀i (f:i<xs.length),w.cell? ⟨g,i,none⟩=some (.int .u8 xs[i])):=by
 have j:n=xs.length:=by have:=h.1;rw[Em]at this;omega
 subst j;rcases h.2 with⟨_,e⟩|⟨g,c,cur,k1,k2,q,m,r,s,x⟩
 ·rw[e]at d;exact absurd d (by simp)
 ·refine⟨g,c,k1,m,fun i f=>?_⟩;have:=h.cells (g:=g) (by rw[k1];rfl) i (.int .u8 xs[i]) (by simp[cellsOf,jH f]);simpa[jv]using this
theorem EN(w:World)(g c:Nat)(ys:List Int)(h:∀i (d:i<ys.length),w.cell? ⟨g,i,none⟩=some (.int .u8 ys[i])):(convert 86 9 (.slice (some ⟨g,0,none⟩) ys.length c)).run Tryz.prog w=.ok (.string (strOfNums ys)) w :=
 jg w 86 5 Tryz.underlying86 Tryz.underlying5 g 0 ys.length c ys rfl (fun i d=>by
  rw[dG,h i d];simp[List.getD,jH d]) 9 Tryz.underlying9
variable {cb co:Nat} {pv:Value}
theorem Bd(s:w.cell? ⟨cb,co,none⟩=some pv)(j:w.ownsRow base 5 1 pv xs.length (cellsOf xs))(x:19≤xs.length):Calls Tryz.prog 168 #[.pointer (some ⟨cb,co,none⟩)] w fun e w'=>e=.returned (.string (strOfNums (xs.take 19)))∧w'=w:=by
 obtain⟨g,c,rfl,m,d⟩:=Bc j (by omega);have f:(xs.take 19).length=19:=by rw[jw];omega
 have kc:=EN w g c (xs.take 19) (fun i q=>by
  rw[List.getElem_take];exact d i (by rw[f]at q;omega))
 rw[f]at kc;have r:19≤c:=by omega
 clear j d;go_enter Tryz.func168,Tryz.ntmps168
 go_wp2
 go_ret;exact⟨rfl,rfl⟩
theorem tZ(xs:List Int)(c:19≤xs.length):lr (xs.take 19)=lr xs:=by
 unfold lr;rw[List.drop_take,List.take_take];rfl
def lg (xs:List Int):Int:=if xs.length<19 then 19-(xs.length:Int) else lr xs-(xs.length:Int)
theorem EO(f:w.cell? ⟨cb,co,none⟩=some pv)(c:w.ownsRow base 5 1 pv xs.length (cellsOf xs))(d:xs.length<19):Calls Tryz.prog 166 #[.pointer (some ⟨cb,co,none⟩)] w fun e w'=>e=.returned (.int .i64 (lg xs))∧∃m,w'=w.drewN m:=by
 obtain⟨ao,cp,rfl,_⟩:=mV c;have e:lg xs=19-(xs.length:Int):=by unfold lg;rw[dr d]
 have j:(xs.length:Int)<19:=by omega
 rw[e];clear c e;go_enter Tryz.func166,Tryz.ntmps166
 go_wp2_with fail
 go_ret;exact⟨rfl,0,rfl⟩
theorem EP(r:w.cell? ⟨cb,co,none⟩=some pv)(d:w.ownsRow base 5 1 pv xs.length (cellsOf xs))(hb:Bytes xs)(q:19≤xs.length)(s:xs.length≤100000):Calls Tryz.prog 166 #[.pointer (some ⟨cb,co,none⟩)] w fun e w'=>e=.returned (.int .i64 (lg xs))∧∃m,w'=w.drewN m:=by
 have c:Bytes (xs.take 19):=fun x h=>hb x (jy h)
 have f:(xs.take 19).length=19:=by rw[jw];omega
 have y:Hid (∀n,Calls Tryz.prog 168 #[.pointer (some ⟨cb,co,none⟩)] (w.drewN n) fun e w'=>e=.returned (.string (strOfNums (xs.take 19)))∧w'=w.drewN n):=fun n=>Bd (w:=w.drewN n) (base:=base) (pv:=pv) (by simpa using r) (lM d fun k _=>rfl) q
 have z:Hid (∀w,Calls Tryz.prog 174 #[.string (strOfNums (xs.take 19))] w fun e w'=>e=.returned (.int .i64 (lr xs))∧w'=w):=fun w=>by rw[←tZ xs q];exact EM _ c (by omega) w
 have j:0≤lr xs∧lr xs<65536:=by
  have A:Bytes ((xs.drop 16).take 2):=fun x h=>hb x (jz (jy h))
  have:=vZ A;rw[show((xs.drop 16).take 2).length=2 by simp;omega]at this;exact this
 obtain⟨ao,cp,rfl,_⟩:=mV d;have e:lg xs=lr xs-(xs.length:Int):=by unfold lg;rw[dt (by omega)]
 have B:¬((xs.length:Int)<19):=by omega
 have hw:wrap64 (lr xs-(xs.length:Int))=lr xs-(xs.length:Int):=by unfold wrap64;omega
 rw[e];clear d e c f hb j;go_enter Tryz.func166,Tryz.ntmps166
 go_wp2_with fail
 go_quiet ((first|(go_at_call 168;exact jI (y.out _))|(go_at_call 174;exact jI (z.out _))))
 go_wp2_with fail
 go_ret;exact⟨by first|rfl|(show Ending.returned (Value.int .i64 (wrap64 (lr xs-(xs.length:Int))))=_;rw[hw]),_,rfl⟩
structure mN where
 c:Int
 s:Int
 d:List Int
def mN.agg (t:mN):Value:=.agg #[.int .u8 t.c,.int .u8 t.s,.string (strOfNums t.d)]
def mN.val (t:mN):Value:=.iface 215 t.agg
def mF (h:List Int):Int:=h.getD 18 0
def u6 (k n:Int):Bool:=if k=1 then decide (29≤n) else if k=2 then decide (23≤n) else if k=3 then decide (21≤n) else decide (n=19)
def m9 (h:List Int):Option mN :=
 if h.take 16=mark then
  if lr h<19∨4096<lr h then some ⟨1,2,(h.drop 16).take 2⟩
  else if mF h<1∨4<mF h then some ⟨1,3,(h.drop 18).take 1⟩
  else if u6 (mF h) (lr h) then none else some ⟨1,2,(h.drop 16).take 2⟩
 else some ⟨1,1,[]⟩
theorem QO(hx:Bytes xs)(f:Bytes ys)(h:strOfNums xs=strOfNums ys):xs=ys:=by
 have j:xs.length=ys.length:=by rw[←jf xs,←jf ys,h]
 apply List.ext_getElem j;intro i c d;have m:=vY hx (jH c) (by rw[jf];exact c);have q:=vY f (jH d) (by rw[jf];exact d);rw[←m,←q];congr 2;simp only[h]
theorem QP{a b:ByteArray}(h:a.toList=b.toList):a=b:=by
 rw[jJ,jJ]at h;exact ByteArray.ext (Array.toList_inj.1 h)
theorem Be(t:mN)(w:World):Calls Tryz.prog 176 #[.int .u8 t.c,.int .u8 t.s,.string (strOfNums t.d)] w fun e w'=>e=.panicked [{ v:=t.val,recovered:=false }]∧w'=w:=by
 obtain⟨c,s,d⟩:=t;go_enter Tryz.func176,Tryz.ntmps176
 go_wp2
 exact⟨rfl,rfl,rfl⟩
theorem QQ(k n:Int)(w:World):Calls Tryz.prog 177 #[.int .i64 k,.int .i64 n] w fun e w'=>e=.returned (.bool (u6 k n))∧w'=w:=by
 go_enter Tryz.func177,Tryz.ntmps177
 go_wp2
 all_goals go_ret
 all_goals(refine⟨?_,rfl⟩;simp_all[u6];try rfl)
theorem QR(xs ys:List Int)(hx:Bytes xs)(c:Bytes ys)(w:World):Calls Tryz.prog 179 #[.string (strOfNums xs),.string (strOfNums ys)] w fun e w'=>e=.returned (.bool (decide (xs.take ys.length=ys)))∧w'=w:=by
 by_cases hle:ys.length≤xs.length
 ·by_cases hp:xs.take ys.length=ys
  ·refine(QN xs ys hp w).mono ?_;rintro e w' ⟨rfl,rfl⟩;exact⟨by simp[hp],rfl⟩
  ·have d:=jf;have m:(strOfNums xs).extract 0 ys.length=strOfNums (xs.take ys.length):=by rw[rh];simp
   have f:decide ((ys.length:Int)≤(xs.length:Int))=true:=by simpa using hle
   have j:¬(strOfNums (xs.take ys.length)).toList=(strOfNums ys).toList:=fun e=>hp (QO (fun x h=>hx x (jy h)) c (QP e))
   go_enter Tryz.func179,Tryz.ntmps179
   go_wp2
   go_ret;exact⟨by simp[hp,j],rfl⟩
 ·have d:=jf;have f:decide ((ys.length:Int)≤(xs.length:Int))=false:=by simpa using hle
  have hp:¬xs.take ys.length=ys:=fun e=>hle (by rw[←e,jw];omega)
  go_enter Tryz.func179,Tryz.ntmps179
  go_wp2
  go_ret;exact⟨by simp[hp],rfl⟩
theorem QS(xs ys:List Int)(hx:Bytes xs)(c:Bytes ys)(w:World):Calls Tryz.prog 175 #[.string (strOfNums xs),.string (strOfNums ys)] w fun e w'=>e=.returned (.bool (decide (xs.take ys.length=ys)))∧w'=w:=by
 go_enter Tryz.func175,Tryz.ntmps175
 go_wp2_with (go_at_call 179;refine(QR xs ys hx c _).mono ?_;rintro e w1 ⟨rfl,rfl⟩)
 go_ret;exact⟨rfl,rfl⟩
theorem QT:Bytes mark:=by
 intro x hx;simp[mark]at hx;omega
theorem ET{h:List Int}(hb:Bytes h)(I:h.length=19)(w:World):Calls Tryz.prog 167 #[.string (strOfNums h)] w fun e w'=>w'=w∧match m9 h with
   |none=>∃v,e=.returned v
   |some t=>e=.panicked [{ v:=t.val,recovered:=false }]:=by
 have G:h[18]?=some (mF h):=by
  unfold mF;rw[jK,jH (by omega)];rfl
 have q:Hid (∀w,Calls Tryz.prog 174 #[.string (strOfNums h)] w fun e w'=>e=.returned (.int .i64 (lr h))∧w'=w):=fun w=>EM h hb (by omega) w
 have r:Hid (∀w,Calls Tryz.prog 169 #[.string (strOfNums h)] w fun e w'=>e=.returned (.int .i64 (mF h))∧w'=w):=fun w=>EL h hb (mF h) G w
 have s:Hid (∀w,Calls Tryz.prog 175 #[.string (strOfNums h),.string (strOfNums mark)] w fun e w'=>e=.returned (.bool (decide (h.take 16=mark)))∧w'=w):=fun w=>QS h mark hb QT w
 have x:Hid (∀w,Calls Tryz.prog 177 #[.int .i64 (mF h),.int .i64 (lr h)] w fun e w'=>e=.returned (.bool (u6 (mF h) (lr h)))∧w'=w):=fun w=>QQ _ _ w
 have HR:Hid (_):=Be;have K:Hid (_):=I;have L:=A1;have M:=jf;have O:(strOfNums h).extract 16 18=strOfNums ((h.drop 16).take 2):=rh h 16 18;have J:(strOfNums h).extract 18 19=strOfNums ((h.drop 18).take 1):=rh h 18 19;have es:(⟨#[]⟩:ByteArray)=strOfNums []:=rfl;clear G hb
 by_cases d:h.take 16=mark
 ·have A:decide (h.take 16=mark)=true:=by simpa using d
  by_cases f:lr h<19
  ·have hd:m9 h=some ⟨1,2,(h.drop 16).take 2⟩:=by unfold m9;rw[dr d,dr (.inl f)]
   rw[hd];have B:decide (lr h<19)=true:=by simpa using f
   clear d hd f;go_enter Tryz.func167,Tryz.ntmps167
   go_wp2_with (first
    |(go_at_call 174;go_loud (refine(q.out _).mono ?_);go_loud (rintro e w1 ⟨rfl,rfl⟩))
    |(go_at_call 169;go_loud (refine(r.out _).mono ?_);go_loud (rintro e w1 ⟨rfl,rfl⟩))
    |(go_at_call 175;go_loud (refine(s.out _).mono ?_);go_loud (rintro e w1 ⟨rfl,rfl⟩))
    |(go_at_call 177;go_loud (refine(x.out _).mono ?_);go_loud (rintro e w1 ⟨rfl,rfl⟩))
    |(go_at_call 176;go_loud (refine(HR.out ⟨1,2,(h.drop 16).take 2⟩ _).mono ?_);go_loud (rintro e w1 ⟨rfl,rfl⟩)))
   exact⟨rfl,rfl,rfl⟩
  ·have B:decide (lr h<19)=false:=by simpa using f
   by_cases m:4096<lr h
   ·have hd:m9 h=some ⟨1,2,(h.drop 16).take 2⟩:=by unfold m9;rw[dr d,dr (.inr m)]
    rw[hd];have D:decide (4096<lr h)=true:=by simpa using m
    clear d hd f m;go_enter Tryz.func167,Tryz.ntmps167
    go_wp2_with (first
     |(go_at_call 174;go_loud (refine(q.out _).mono ?_);go_loud (rintro e w1 ⟨rfl,rfl⟩))
     |(go_at_call 169;go_loud (refine(r.out _).mono ?_);go_loud (rintro e w1 ⟨rfl,rfl⟩))
     |(go_at_call 175;go_loud (refine(s.out _).mono ?_);go_loud (rintro e w1 ⟨rfl,rfl⟩))
     |(go_at_call 177;go_loud (refine(x.out _).mono ?_);go_loud (rintro e w1 ⟨rfl,rfl⟩))
     |(go_at_call 176;go_loud (refine(HR.out ⟨1,2,(h.drop 16).take 2⟩ _).mono ?_);go_loud (rintro e w1 ⟨rfl,rfl⟩)))
    exact⟨rfl,rfl,rfl⟩
   ·have D:decide (4096<lr h)=false:=by simpa using m
    have c:¬(lr h<19∨4096<lr h):=by omega
    by_cases y:mF h<1
    ·have hd:m9 h=some ⟨1,3,(h.drop 18).take 1⟩:=by unfold m9;rw[dr d,dt c,dr (.inl y)]
     rw[hd];have E:decide (mF h<1)=true:=by simpa using y
     clear d hd f m y c;go_enter Tryz.func167,Tryz.ntmps167
     go_wp2_with (first
      |(go_at_call 174;go_loud (refine(q.out _).mono ?_);go_loud (rintro e w1 ⟨rfl,rfl⟩))
      |(go_at_call 169;go_loud (refine(r.out _).mono ?_);go_loud (rintro e w1 ⟨rfl,rfl⟩))
      |(go_at_call 175;go_loud (refine(s.out _).mono ?_);go_loud (rintro e w1 ⟨rfl,rfl⟩))
      |(go_at_call 177;go_loud (refine(x.out _).mono ?_);go_loud (rintro e w1 ⟨rfl,rfl⟩))
      |(go_at_call 176;go_loud (refine(HR.out ⟨1,3,(h.drop 18).take 1⟩ _).mono ?_);go_loud (rintro e w1 ⟨rfl,rfl⟩)))
     exact⟨rfl,rfl,rfl⟩
    ·have E:decide (mF h<1)=false:=by simpa using y
     by_cases z:4<mF h
     ·have hd:m9 h=some ⟨1,3,(h.drop 18).take 1⟩:=by unfold m9;rw[dr d,dt c,dr (.inr z)]
      rw[hd];have F:decide (4<mF h)=true:=by simpa using z
      clear d hd f m y c z;go_enter Tryz.func167,Tryz.ntmps167
      go_wp2_with (first
       |(go_at_call 174;go_loud (refine(q.out _).mono ?_);go_loud (rintro e w1 ⟨rfl,rfl⟩))
       |(go_at_call 169;go_loud (refine(r.out _).mono ?_);go_loud (rintro e w1 ⟨rfl,rfl⟩))
       |(go_at_call 175;go_loud (refine(s.out _).mono ?_);go_loud (rintro e w1 ⟨rfl,rfl⟩))
       |(go_at_call 177;go_loud (refine(x.out _).mono ?_);go_loud (rintro e w1 ⟨rfl,rfl⟩))
       |(go_at_call 176;go_loud (refine(HR.out ⟨1,3,(h.drop 18).take 1⟩ _).mono ?_);go_loud (rintro e w1 ⟨rfl,rfl⟩)))
      exact⟨rfl,rfl,rfl⟩
     ·have F:decide (4<mF h)=false:=by simpa using z
      have j:¬(mF h<1∨4<mF h):=by omega
      cases H:u6 (mF h) (lr h)
      ·have hd:m9 h=some ⟨1,2,(h.drop 16).take 2⟩:=by unfold m9;rw[dr d,dt c,dt j,H];rfl
       rw[hd];clear d hd f m y c z j;go_enter Tryz.func167,Tryz.ntmps167
       go_wp2_with (first
        |(go_at_call 174;go_loud (refine(q.out _).mono ?_);go_loud (rintro e w1 ⟨rfl,rfl⟩))
        |(go_at_call 169;go_loud (refine(r.out _).mono ?_);go_loud (rintro e w1 ⟨rfl,rfl⟩))
        |(go_at_call 175;go_loud (refine(s.out _).mono ?_);go_loud (rintro e w1 ⟨rfl,rfl⟩))
        |(go_at_call 177;go_loud (refine(x.out _).mono ?_);go_loud (rintro e w1 ⟨rfl,rfl⟩))
        |(go_at_call 176;go_loud (refine(HR.out ⟨1,2,(h.drop 16).take 2⟩ _).mono ?_);go_loud (rintro e w1 ⟨rfl,rfl⟩)))
       exact⟨rfl,rfl,rfl⟩
      ·have hd:m9 h=none:=by unfold m9;rw[dr d,dt c,dt j,H];rfl
       rw[hd];clear d hd f m y c z j;go_enter Tryz.func167,Tryz.ntmps167
       go_wp2_with (first
        |(go_at_call 174;go_loud (refine(q.out _).mono ?_);go_loud (rintro e w1 ⟨rfl,rfl⟩))
        |(go_at_call 169;go_loud (refine(r.out _).mono ?_);go_loud (rintro e w1 ⟨rfl,rfl⟩))
        |(go_at_call 175;go_loud (refine(s.out _).mono ?_);go_loud (rintro e w1 ⟨rfl,rfl⟩))
        |(go_at_call 177;go_loud (refine(x.out _).mono ?_);go_loud (rintro e w1 ⟨rfl,rfl⟩)))
       exact jB (v:=.tuple #[]) (by simp[results,Tryz.results167,go_sem]) rfl ⟨rfl,_,rfl⟩
 ·have hd:m9 h=some ⟨1,1,[]⟩:=by unfold m9;rw[dt d]
  rw[hd];have A:decide (h.take 16=mark)=false:=by simpa using d
  clear d hd;go_enter Tryz.func167,Tryz.ntmps167
  go_wp2_with (first
   |(go_at_call 174;go_loud (refine(q.out _).mono ?_);go_loud (rintro e w1 ⟨rfl,rfl⟩))
   |(go_at_call 169;go_loud (refine(r.out _).mono ?_);go_loud (rintro e w1 ⟨rfl,rfl⟩))
   |(go_at_call 175;go_loud (refine(s.out _).mono ?_);go_loud (rintro e w1 ⟨rfl,rfl⟩))
   |(go_at_call 177;go_loud (refine(x.out _).mono ?_);go_loud (rintro e w1 ⟨rfl,rfl⟩))
   |(go_at_call 176;go_loud (refine(HR.out ⟨1,1,[]⟩ _).mono ?_);go_loud (rintro e w1 ⟨rfl,rfl⟩)))
  exact⟨rfl,rfl,rfl⟩
theorem SN.of(h:w.heap[sb]?=some (.cells (kt au id p st hold heard spoke pv) 100 (0,0)))(n:Nat):SN (w.drewN n) sb 0 st hold heard spoke:=by
 have e:∀i,(w.drewN n).cell? ⟨sb,i,none⟩=(kt au id p st hold heard spoke pv)[i]?:=fun i=>(kh (w:=w.drewN n) (by first|exact h|(simp;exact h)) i)
 exact⟨e 9,e 10,e 11,e 12⟩
theorem TS.drewN(h:TS w base tb sb now sv sent cl ov S)(n:Nat):TS (w.drewN n) base tb sb now sv sent cl ov S∧Rest base tb sb w (w.drewN n):=⟨⟨h.t,h.s,h.own,h.lt,h.ne⟩,⟨rfl,dD _,fun _ _ _ _=>rfl⟩⟩
theorem A6{b:Bool}(h:∀n,SN (w.drewN n) sb 0 st hold heard spoke)(c:lA now)(d:lA heard)(hb:qd st hold heard now=b)(n:Nat):Calls Tryz.prog 143 #[.pointer (some ⟨sb,0,none⟩),.int .i64 now] (w.drewN n) fun e w'=>e=.returned (.bool b)∧∃m,w'=(w.drewN n).drewN m:=by
 have:=Qx _ _ _ _ _ _ _ _ (h n) c d;rw[hb]at this;exact this
theorem EC{b:Bool}(h:∀n,SN (w.drewN n) sb 0 st hold heard spoke)(c:lA now)(d:lA spoke)(f:0≤hold∧hold≤100000)(hb:py st hold spoke now=b)(n:Nat):Calls Tryz.prog 145 #[.pointer (some ⟨sb,0,none⟩),.int .i64 now] (w.drewN n) fun e w'=>e=.returned (.bool b)∧∃m,w'=(w.drewN n).drewN m:=by
 have:=Qy _ _ _ _ _ _ _ _ (h n) c d f;rw[hb]at this;exact this
section
variable {w:World} {base tb sb:Nat} {now:Int} {sv:Value} {sent:List Int} {cl ov:Bool} {au id:Int} {p:Pz} {st hold heard spoke:Int} {pa:Option Addr} {pl pc:Nat}
theorem QC(h:TS w base tb sb now sv sent cl ov (kt au id p st hold heard spoke (.slice pa pl pc)))(r:lA now)(x:lA heard)(hb:qd st hold heard now=true)(m:sent.length≤50000):Calls Tryz.prog 118 #[.pointer (some ⟨tb,0,none⟩)] w fun e w'=>(∃v,e=.returned v)∧∃sv',TS w' base tb sb now sv' (sent++ld 3 [4,0]) true true (kt au id p 0 0 0 0 (.slice none 0 0))∧Rest base tb sb w w':=by
 obtain⟨⟨c0,c1,c2,c3,c4⟩,z2,B,D⟩:=h.facts;have y:Hid (∀n,SN (w.drewN n) sb 0 st hold heard spoke):=fun n=>SN.of h.s n
 have q:Hid (_):=h;have z:Hid (_):=m;have c:Hid (base≤w.heap.size):=h.lt.2.2;clear h m;go_enter Tryz.func118,Tryz.ntmps118
 go_wp2_with fail
 go_quiet ((go_at_call 143;exact jD (A6 y.out r x hb _)))
 go_wp2_with (first
  |(go_at_call 144;go_loud (refine(QA _).mono ?_);go_loud (rintro e w1 ⟨rfl,hB⟩);go_loud (have H1:Hid (TS w1 base tb sb now sv sent cl ov (kt au id p st hold heard spoke (.slice pa pl pc))):=TS.below (q.out.drewN nq).1 hB);go_loud (have d:Hid (Rest base tb sb w w1):=(q.out.drewN nq).2.trans (Rest.below hB c.out));clear hB)
  |(go_at_call 117;go_loud (refine(EB H1.out (by omega) (by omega) Bytes.nil z.out).mono ?_);go_loud (rintro e w2 ⟨⟨v2,rfl⟩,A,f,j⟩)))
 exact jB (v:=.tuple #[]) (by simp[results,Tryz.results118,go_sem]) rfl ⟨⟨_,rfl⟩,_,f,d.out.trans j⟩
theorem QD(h:TS w base tb sb now sv sent cl ov (kt au id p st hold heard spoke (.slice pa pl pc)))(B:lA now)(D:lA heard)(kp:lA spoke)(f:0≤hold∧hold≤100000)(hb:qd st hold heard now=false)(m:py st hold spoke now=true)(E:sent.length≤50000):Calls Tryz.prog 118 #[.pointer (some ⟨tb,0,none⟩)] w fun e w'=>(∃v,e=.returned v)∧∃sv',TS w' base tb sb now sv' (sent++ld 4 []) cl ov (kt au id p st hold heard now (.slice pa pl pc))∧Rest base tb sb w w':=by
 obtain⟨⟨c0,c1,c2,c3,c4⟩,z2,M,O⟩:=h.facts;have F:Hid (∀n,SN (w.drewN n) sb 0 st hold heard spoke):=fun n=>SN.of h.s n
 have G:Hid (_):=h;have H:Hid (sent.length+(ld 4 []).length≤1000000):=by show _≤_;rw[sL];simp;omega
 have I:Hid (Bytes (ld 4 [])):=yN (by omega) Bytes.nil;have q:Hid (base≤w.heap.size):=h.lt.2.2;have J:Hid (_):=f;clear h E f;go_enter Tryz.func118,Tryz.ntmps118
 go_wp2_with fail
 go_quiet ((go_at_call 143;exact jD (A6 F.out B D hb _)))
 go_wp2_with fail
 have hd:=G.out.drewN nq;have d:Hid (base≤(w.drewN nq).heap.size):=q.out;generalize w.drewN nq=w1 at hd d ⊢;obtain⟨c,j⟩:=hd;obtain⟨⟨d0,d1,d2,d3,d4⟩,R,T,U⟩:=c.facts;have r:Hid (∀n,SN (w1.drewN n) sb 0 st hold heard spoke):=fun n=>SN.of c.s n
 have H1:Hid (_):=c;have x:Hid (_):=j;clear c j
 go_quiet ((go_at_call 145;exact jD (EC r.out B kp J.out m _)))
 go_wp2_with (first
  |(go_at_call 146;go_loud (refine(Ey _).mono ?_);go_loud (rintro e w2 ⟨rfl,hB⟩);go_loud (have K:Hid (TS w2 base tb sb now sv sent cl ov (kt au id p st hold heard spoke (.slice pa pl pc))):=TS.below (H1.out.drewN nq).1 hB);go_loud (have y:Hid (Rest base tb sb w1 w2):=(H1.out.drewN nq).2.trans (Rest.below hB d.out));clear hB)
  |(go_at_call 140;go_loud (refine(A3 (u:=.int .i64 spoke) K.out rfl rfl I.out H.out).mono ?_);go_loud (rintro e w3 ⟨⟨v2,rfl⟩,L,z,A⟩)))
 exact jB (v:=.tuple #[]) (by simp[results,Tryz.results118,go_sem]) rfl ⟨⟨_,rfl⟩,_,z,x.out.trans (y.out.trans A)⟩
theorem QE(h:TS w base tb sb now sv sent cl ov (kt au id p st hold heard spoke (.slice pa pl pc)))(r:lA now)(x:lA heard)(kp:lA spoke)(d:0≤hold∧hold≤100000)(hb:qd st hold heard now=false)(j:py st hold spoke now=false):Calls Tryz.prog 118 #[.pointer (some ⟨tb,0,none⟩)] w fun e w'=>(∃v,e=.returned v)∧TS w' base tb sb now sv sent cl ov (kt au id p st hold heard spoke (.slice pa pl pc))∧Rest base tb sb w w':=by
 obtain⟨⟨c0,c1,c2,c3,c4⟩,z2,B,D⟩:=h.facts;have y:Hid (∀n,SN (w.drewN n) sb 0 st hold heard spoke):=fun n=>SN.of h.s n
 have z:Hid (_):=h;have A:Hid (_):=d;clear h d;go_enter Tryz.func118,Tryz.ntmps118
 go_wp2_with fail
 go_quiet ((go_at_call 143;exact jD (A6 y.out r x hb _)))
 go_wp2_with fail
 have hd:=z.out.drewN nq;generalize w.drewN nq=w1 at hd ⊢;obtain⟨c,f⟩:=hd;obtain⟨⟨d0,d1,d2,d3,d4⟩,E,F,G⟩:=c.facts;have m:Hid (∀n,SN (w1.drewN n) sb 0 st hold heard spoke):=fun n=>SN.of c.s n
 have H1:Hid (_):=c;have q:Hid (_):=f;clear c f
 go_quiet ((go_at_call 145;exact jD (EC m.out r kp A.out j _)))
 go_wp2_with fail
 exact jB (v:=.tuple #[]) (by simp[results,Tryz.results118,go_sem]) rfl ⟨⟨_,rfl⟩,(H1.out.drewN nq).1,q.out.trans (H1.out.drewN nq).2⟩
end
theorem EV(w:World)(sb so:Nat)(h:w.cell? ⟨sb,so+9,none⟩=some (.int .i64 1)):Calls Tryz.prog 170 #[.pointer (some ⟨sb,so,none⟩),.int .i64 1] w fun e w'=>e=.returned (.bool true)∧w'=w:=by
 go_enter Tryz.func170,Tryz.ntmps170
 go_wp2
 go_ret;exact⟨rfl,rfl⟩
theorem K2.below(h:Below w.heap.size w w'):K2 tb sb sv sv w w':=⟨fun b hb _ _ _=>h.block b hb,.inl rfl⟩
theorem K2.trans{tb sb:Nat}{s1 s2 m:Value}{a b c:World}(h:K2 tb sb s1 s2 a b)(k:K2 tb sb s2 m b c)(A:a.heap.size≤b.heap.size):K2 tb sb s1 m a c:=by
 refine⟨fun x y q r s=>(k.heap x (by omega) q r fun e=>?_).trans (h.heap x y q r s),?_⟩
 ·rcases h.own with d|⟨j,d,f⟩
  ·rw[d]at e;exact s e
  ·rw[d]at e;cases e;omega
 ·rcases k.own with d|⟨j,d,f⟩
  ·rcases h.own with f|⟨j,f,z⟩
   ·exact .inl (d.trans f)
   ·exact .inr ⟨j,d.trans f,z⟩
  ·exact .inr ⟨j,d,by omega⟩
theorem K2.drew{s s':Value}(h:K2 tb sb s s' w w'):K2 tb sb s s' w w'.drew:=⟨h.heap,h.own⟩
def tn (a b:Int):Int:=if b<a then b else a
theorem Q0(h:TS w base tb sb now sv sent cl ov (kt au id p st hold heard spoke pv)){j c m:Int}(X:sent.length≤50000):Calls Tryz.prog 172 #[.pointer (some ⟨tb,0,none⟩),.agg #[.int .i64 j,.int .i64 c,.int .u32 m]] w fun e w'=>(∃v,e=.returned v)∧∃sv',TS w' base tb sb now sv' (sent++ld 4 []) cl ov (kt au id p 2 (tn p.hold c) heard now pv)∧Rest base tb sb w w'∧K2 tb sb sv sv' w w':=by
 obtain⟨qa,d,ql,qp,qw,ia,il,ic,ea,el,ec⟩:=p;simp only[kt]at h ⊢;have A:Below w.heap.size w (w.alloc (.cells #[.int .i64 j,.int .i64 c,.int .u32 m] 245)):=(iJ _ _).alloc (dD _) _;have q:=h.below A;have f:Hid (Rest base tb sb w _):=Rest.below A h.lt.2.2;have D:Hid (∀b,b<w.heap.size→(w.alloc (.cells #[.int .i64 j,.int .i64 c,.int .u32 m] 245)).heap[b]?=w.heap[b]?):=fun b hb=>A.block b hb
 have r:Hid (_):=q;have Hl:Hid (_):=X;have x:(w.alloc (.cells #[.int .i64 j,.int .i64 c,.int .u32 m] 245)).heap[w.heap.size]?=some (.cells #[.int .i64 j,.int .i64 c,.int .u32 m] 245 (0,0)):=jL w _;have hsz:=h.lt.2.2;clear h q X A;go_enter Tryz.func172,Tryz.ntmps172
 go_wp2_with fail
 generalize(w.alloc (.cells #[.int .i64 j,.int .i64 c,.int .u32 m] 245))=w1 at r f D x ⊢;obtain⟨⟨c0,c1,c2,c3,c4⟩,z2,z3,z4⟩:=r.out.facts;obtain⟨e0,e1,e2,e3,e4,e5,e6,e7,e8,e9,E,F,G,H,y0,y1,y2,y3,y4,y5,y6,y7,y8,y9,I,J,K,L⟩:=oX r.out.s;have Y:=kh x 0;have Z:=kh x 1;have q2:=kh x 2;simp at Y Z q2
 go_region
 have k1:=r.out.kX 9 (.int .i64 2);have k2:=k1.1.kX 10 (.int .i64 (if c<d then c else d));have B:=k2.1.drew;have M:=(f.out.trans (k1.2.trans k2.2)).drew;have O:K2 tb sb sv sv w (((w1.setCell ⟨sb,9,none⟩ (.int .i64 2)).setCell ⟨sb,10,none⟩ (.int .i64 (if c<d then c else d)))).drew :=
  K2.drew ⟨fun b h1 h2 h3 h4=>(kA (dJ h3) 10 _).trans ((kA (dJ h3) 9 _).trans (D.out b h1)),.inl rfl⟩
 simp only[iz,iA,iB]at B;clear k1 k2 c0 c1 c2 c3 c4 z2 z3 z4 e0 e1 e2 e3 e4 e5 e6 e7 e8 e9 E F G H y0 y1 y2 y3 y4 y5 y6 y7 y8 y9 I J K L Y Z q2 r f D x;generalize((w1.setCell ⟨sb,9,none⟩ (.int .i64 2)).setCell ⟨sb,10,none⟩ (.int .i64 (if c<d then c else d))).drew=w2 at B M O ⊢;have H2:Hid (_):=B;have y:Hid (_):=M;have R:Hid (_):=O;have Hb:Hid (Bytes (ld 4 [])):=yN (by omega) Bytes.nil;have Hn:Hid (sent.length+(ld 4 []).length≤1000000):=by show _≤_;rw[sL];have:=Hl.out;simp;omega
 clear B M O
 go_wp2_with (first
  |(go_at_call 146;go_loud (refine(Ey _).mono ?_);go_loud (rintro e w3 ⟨rfl,hB⟩);go_loud (have H3:Hid (TS w3 base tb sb now sv sent cl ov #[.int .i64 au,.int .u32 id,.int .i64 qa,.int .i64 d,.int .i64 ql,.int .i64 qp,.int .i64 qw,.slice ia il ic,.slice ea el ec,.int .i64 2,.int .i64 (if c<d then c else d),.int .i64 heard,.int .i64 spoke,pv]):=H2.out.below hB);go_loud (have z:Hid (Rest base tb sb w2 w3):=Rest.below hB H2.out.lt.2.2);go_loud (have T:Hid (K2 tb sb sv sv w2 w3):=K2.below hB);clear hB)
  |(go_at_call 140;go_loud (refine(Es (u:=.int .i64 spoke) H3.out rfl rfl Hb.out Hn.out).mono ?_);go_loud (rintro e w4 ⟨⟨v2,rfl⟩,aa,U,V,W⟩)))
 all_goals exact jB (v:=.tuple #[]) (by simp[results,Tryz.results172,go_sem]) rfl ⟨⟨_,rfl⟩,_,U,y.out.trans (z.out.trans V),R.out.trans (T.out.trans W z.out.size) y.out.size⟩
theorem Q2{K:Act→World→Prop}{E:Prop}(r:o.guard=none)(s x:Operand)(t u:TypeId)(f:o.op=Op.call { callee:=Callee.builtin Builtin.append,args:=#[s,x],argTypes:=#[t,u] })(base:Nat)(e:TypeId)(i:TypeInfo)(z:Value)(y:P.underlying t=some (.slice e))(j:P.underlying u=some .string)(A:P.info? e=some i)(B:i.zero=some z)(D:i.size=1)(F:i.bytes=1)(G:z.cells.size=1)(v:Value)(n:Nat)(xs:List Value)(H:a.eval s=v)(c:w.ownsRow base e 1 v n xs)(l:List Int)(hx:a.eval x=.string (strOfNums l))(I:Bytes l)(b1:n+l.length≤140737488355328)(hb:base≤w.heap.size)(m:∀u∈z.cells.toList,Pl u)(q:lE Pl w v)(J:∀v' w',w'.ownsRow base e 1 v' (n+l.length) (xs++cellsOf l)→w.grownBy w' v.ownBlock→(v'.ownBlock=v.ownBlock∨v'.ownBlock=some w.heap.size)→lE Pl w' v'→K (a.put o.dst v') w'):if Region.wanted o (yielded ops a.tmps)=true then Oper.wp P o a w K Q else E:=by
 have hw:Region.wanted o (yielded ops a.tmps)=true:=by simp[Region.wanted,r]
 rw[dr hw];obtain⟨v',w',d,r1,r2,L,M⟩:=Eo (P:=P) w Pl base t u o.type e i z y j A B D F G v n xs c I b1 hb m (fun u hu=>by obtain⟨x,_,rfl⟩:=iY.1 hu;exact Pl.int _ _) q;unfold Oper.wp;simp[execOp,f,resolve,invoke,builtin,H,hx,d,Result.andThen];exact J v' w' r1 r2 L M
structure TP (w:World) (base tb sb:Nat) (now:Int) (sv:Value) (sent:List Int) (cl ov:Bool) (S:Array Value) (pv:Value) (xs:List Int):Prop where
 ts:TS w base tb sb now sv sent cl ov S
 lf:S[13]?=some pv
 own:w.ownsRow base 5 1 pv xs.length (cellsOf xs)
 mS:∀k,pv.ownBlock=some k→sv.ownBlock≠some k
 pl:lE Pl w pv
end
section
open Go Go.RowKit
open Go.Proofs.YtjnkcibpkkjniaaGreat.kN (pw lh lO oL)
theorem QU{C:Array Value}(h:C.size=56):∃c0 c1 c2 c3 c4 c5 c6 c7 c8 c9 A4 A5 yL lf c d f j m q r s x y z A B D E F G H I J K L M O R T U V W X Y Z aa ab ad ae af ag ah ai aj ak,C=#[c0,c1,c2,c3,c4,c5,c6,c7,c8,c9,A4,A5,yL,lf,c,d,f,j,m,q,r,s,x,y,z,A,B,D,E,F,G,H,I,J,K,L,M,O,R,T,U,V,W,X,Y,Z,aa,ab,ad,ae,af,ag,ah,ai,aj,ak]:=by
 obtain⟨l⟩:=C
 match l,h with
 |c0::c1::c2::c3::c4::c5::c6::c7::c8::c9::A4::A5::yL::lf::c::d::f::j::m::q::r::s::x::y::z::A::B::D::E::F::G::H::I::J::K::L::M::O::R::T::U::V::W::X::Y::Z::aa::ab::ad::ae::af::ag::ah::ai::aj::ak::[],_=>exact⟨_,_,_,_,_,_,_,_,_,_,_,_,_,_,_,_,_,_,_,_,_,_,_,_,_,_,_,_,_,_,_,_,_,_,_,_,_,_,_,_,_,_,_,_,_,_,_,_,_,_,_,_,_,_,_,_,rfl⟩
def pP (b x1 x2 x3:List Int) (n1 n2 n3:Int) (n0:Nat):Nat→Value→World→Prop
 |0,v,_=>v=.string (strOfNums b)
 |1,v,_=>v=.string (strOfNums x1)
 |2,v,_=>v=.int .u32 (n1)
 |3,v,_=>v=.int .i64 (n1)
 |4,v,_=>v=.string (strOfNums b)
 |5,v,_=>v=.string (strOfNums x2)
 |6,v,_=>v=.int .u32 (n2)
 |7,v,_=>v=.int .i64 (n2)
 |8,v,_=>v=.string (strOfNums b)
 |9,v,_=>v=.string (strOfNums x3)
 |10,v,_=>v=.int .u32 (n3)
 |11,v,_=>v=.agg #[.int .i64 (n1),.int .i64 (n2),.int .u32 (n3)]
 |12,v,w=>∃bb,v=.pointer (some ⟨bb,0,none⟩)∧n0≤bb∧w.heap[bb]?=some (.cells #[.int .i64 0,.int .i64 0,.int .u32 0] 245 (0,0))
 |_,_,_=>True
variable {b x1 x2 x3:List Int} {n1 n2 n3:Int}
theorem QV{c:Nat}(w w':World)(j:Nat)(u:Value)(hB:Below w.heap.size w w')(h:pP b x1 x2 x3 n1 n2 n3 c j u w):pP b x1 x2 x3 n1 n2 n3 c j u w':=by
 unfold pP at h ⊢;split at h<;>first|exact h|skip
 obtain⟨bb,f,m,d⟩:=h;exact⟨bb,f,m,(hB.block bb (dv.1 d).1).trans d⟩
noncomputable def sN:Array Oper:=match Tryz.f173.body with
 |some (.seq _ (.seq (.region _ ops _) _))=>ops
 |some (.seq _ (.block _ (.seq (.region _ ops _) _)))=>ops
 |_=>#[]
theorem QW:lh sN [0,1,4] 56=true:=by kernel_rfl
theorem QX:lO sN=true:=by kernel_rfl
theorem QY:sN.size=14:=by kernel_rfl
def EU (n1 n2 n3:Int) (n0:Nat) (w0:World) (a:Act) (w':World):Prop:=∃bb,a.tmps[5]?=some (.pointer (some ⟨bb,0,none⟩))∧n0≤bb∧w'.heap[bb]?=some (.cells #[.int .i64 (n1),.int .i64 (n2),.int .u32 (n3)] 245 (0,0))∧Below n0 w0 w'
variable {Q:Exit→Act→World→Prop} {w0:World}
theorem QZ(o:Oper)(a:Act)(w:World)(f:sN[13]?=some o)(c:∀(j:Nat)(o':Oper)(d:Nat),sN[j]?=some o'→o'.dst=some d→(∃e∈o.after,e.on=j∧Region.binds .any e=true)→∃v,a.tmps[d]?=some v∧pP b x1 x2 x3 n1 n2 n3 w0.heap.size j v w)(s:Below w0.heap.size w0 w)(K:Act→World→Prop)(x:∀v w',EU n1 n2 n3 w0.heap.size w0 (a.put o.dst v) w'→K (a.put o.dst v) w'):o.wp Tryz.prog a w K Q:=by
 simp only[sN,Tryz.f173]at f;simp only[fV,gB,fW,dW]at f;subst f;obtain⟨z,m,bb,rfl,q,p2⟩:=c 12 _ _ rfl rfl ⟨⟨12,.data⟩,by simp,rfl,rfl⟩;obtain⟨A,y,p3⟩:=c 11 _ _ rfl rfl ⟨⟨11,.data⟩,by simp,rfl,rfl⟩;simp only[pP]at p3;subst p3;have c0:=kh p2 0;have c1:=kh p2 1;have c2:=kh p2 2;have B:=lj p2 0;have z1:=lj p2 1;have z2:=lj p2 2;simp at c0 c1 c2;have r:=lp p2 0 (.int .i64 n1);simp only[iz,iB]at r;have k1:=lp r 1 (.int .i64 n2);simp only[iz,iB,iA]at k1;have k2:=lp k1 2 (.int .u32 n3);simp only[iz,iB,iA]at k2;unfold Oper.wp execOp;simp only[Act.eval,dA,m,y,eE];go_simp;refine x undef _ ⟨bb,m,q,k2,?_⟩;refine jm (jm (jm s ?_ _) ?_ _) ?_ _<;>exact q
def ri (tb sb mb:Nat) (b:List Int) (n1 n2 n3:Int):Nat→Value→World→Prop
 |0,v,_=>v=.pointer (some ⟨tb,0,none⟩)
 |1,v,_=>v=.pointer (some ⟨mb,1,none⟩)
 |2,v,_=>v=.string (strOfNums b)
 |3,v,_=>v=.pointer (some ⟨tb,0,none⟩)
 |4,v,_=>v=.pointer (some ⟨tb,0,none⟩)
 |5,v,_=>v=.pointer (some ⟨tb,0,none⟩)
 |6,v,_=>v=.pointer (some ⟨sb,0,none⟩)
 |7,v,_=>v=.pointer (some ⟨sb,0,none⟩)
 |8,v,_=>v=.pointer (some ⟨sb,2,none⟩)
 |9,v,_=>v=.pointer (some ⟨sb,2,none⟩)
 |10,v,_=>v=.int .i64 n1
 |11,v,_=>v=.agg #[.int .i64 n1,.int .i64 n2,.int .u32 n3]
 |_,_,_=>True
variable {tb sb mb:Nat}
theorem Q3(w w':World)(j:Nat)(u:Value)(hB:Below w.heap.size w w')(h:ri tb sb mb b n1 n2 n3 j u w):ri tb sb mb b n1 n2 n3 j u w':=by
 unfold ri at h ⊢;split at h<;>exact h
noncomputable def opsOf (n:Nat):Code→Option (Array Oper)
 | .region id ops _=>if id=n then some ops else none
 | .seq x y=>(opsOf n x).orElse fun _=>opsOf n y
 | .cond _ x y=>(opsOf n x).orElse fun _=>opsOf n y
 | .block _ c=>opsOf n c
 | .loop c=>opsOf n c
 |_=>none
noncomputable def pQ:Array Oper:=((Tryz.f157.body).bind (opsOf 6)).getD #[]
theorem EW:lh pQ [0,3] 52=true:=by kernel_rfl
theorem EX:lO pQ=true:=by kernel_rfl
theorem EY:pQ.size=13:=by kernel_rfl
theorem Q4(m:tb<w0.heap.size)(q:sb<w0.heap.size)(r:mb<w0.heap.size)(ct:w0.cell? ⟨tb,0,none⟩=some (.pointer (some ⟨sb,0,none⟩)))(cs:w0.cell? ⟨sb,2,none⟩=some (.int .i64 n1))(A:w0.cell? ⟨mb,1,none⟩=some (.string (strOfNums b)))(s:Hid (∀w,Calls Tryz.prog 173 #[.string (strOfNums b),.int .i64 n1] w fun e w'=>e=.returned (.agg #[.int .i64 n1,.int .i64 n2,.int .u32 n3])∧Below w.heap.size w w'))(i:Nat)(o:Oper)(a:Act)(w:World)(F:i<12)(x:pQ[i]?=some o)(f0:a.tmps[0]?=some (.pointer (some ⟨tb,0,none⟩)))(f3:a.tmps[3]?=some (.pointer (some ⟨mb,0,none⟩)))(c:∀(j:Nat)(o':Oper)(d:Nat),pQ[j]?=some o'→o'.dst=some d→(∃e∈o.after,e.on=j∧Region.binds .any e=true)→∃v,a.tmps[d]?=some v∧ri tb sb mb b n1 n2 n3 j v w)(y:Below w0.heap.size w0 w)(K:Act→World→Prop)(z:∀v w',ri tb sb mb b n1 n2 n3 i v w'→Below w.heap.size w w'→K (a.put o.dst v) w'):o.wp Tryz.prog a w K Q:=by
 have G:=(y.cell (p:=⟨tb,0,none⟩) m).trans ct;have H:=(y.cell (p:=⟨sb,2,none⟩) q).trans cs;have I:=(y.cell (p:=⟨mb,1,none⟩) r).trans A;clear ct cs A;obtain rfl|rfl|rfl|rfl|rfl|rfl|rfl|rfl|rfl|rfl|rfl|rfl:i=0∨i=1∨i=2∨i=3∨i=4∨i=5∨i=6∨i=7∨i=8∨i=9∨i=10∨i=11:=by omega
 all_goals
  simp only[pQ,Tryz.f157,opsOf,ed]at x;simp[]at x;subst x
 all_goals try
  first
  |(unfold Oper.wp execOp;simp only[Act.eval,dA,f0,f3,eE];go_simp;exact z _ _ rfl (iJ _ _))
  |(obtain⟨E,B,f⟩:=c _ _ _ (by rfl) (by rfl) ⟨_,⟨List.Mem.head _⟩,rfl,rfl⟩;simp only[ri]at f;subst f;unfold Oper.wp execOp;simp only[Act.eval,dA,B,eE];go_simp;exact z _ _ rfl (iJ _ _))
 ·obtain⟨E,B,f⟩:=c 2 _ _ rfl rfl ⟨⟨2,.data⟩,by simp,rfl,rfl⟩;simp only[ri]at f
  try subst f
  obtain⟨J,L,D⟩:=c 10 _ _ rfl rfl ⟨⟨10,.data⟩,by simp,rfl,rfl⟩;simp only[ri]at D
  try subst D
  unfold Oper.wp execOp;simp only[];go_simp;refine(s.out w).mono ?_;rintro e w1 ⟨rfl,hB⟩;exact z _ _ rfl hB
theorem Q5{Post:Act→World→Prop}{P0:World→Prop}(r:Hid (∀w,Below w0.heap.size w0 w→Calls Tryz.prog 172 #[.pointer (some ⟨tb,0,none⟩),.agg #[.int .i64 n1,.int .i64 n2,.int .u32 n3]] w fun e w'=>(∃v,e=.returned v)∧P0 w'))(o:Oper)(a:Act)(w:World)(f:pQ[12]?=some o)(c:∀(j:Nat)(o':Oper)(d:Nat),pQ[j]?=some o'→o'.dst=some d→(∃e∈o.after,e.on=j∧Region.binds .any e=true)→∃v,a.tmps[d]?=some v∧ri tb sb mb b n1 n2 n3 j v w)(s:Below w0.heap.size w0 w)(K:Act→World→Prop)(x:∀v w',P0 w'→K (a.put o.dst v) w'):o.wp Tryz.prog a w K Q:=by
 simp only[pQ,Tryz.f157,opsOf,ed]at f;simp[]at f;subst f;obtain⟨z,A,m⟩:=c 0 _ _ rfl rfl ⟨⟨0,.data⟩,by simp,rfl,rfl⟩;simp only[ri]at m
 try subst m
 obtain⟨B,D,q⟩:=c 11 _ _ rfl rfl ⟨⟨11,.data⟩,by simp,rfl,rfl⟩;simp only[ri]at q
 try subst q
 unfold Oper.wp execOp;simp only[];go_simp;refine(r.out w s).mono ?_;rintro e w1 ⟨⟨v,rfl⟩,y⟩;exact x v w1 y
end
section
open Go Go.RowKit
open Go.Proofs.YtjnkcibpkkjniaaGreat.kN (lh lO oL)
def qe (sb g N cp:Nat) (h b:List Int) (k:Int):Nat→Value→World→Prop
 |0,v,_=>v=.pointer (some ⟨sb,13,none⟩)
 |1,v,_=>v=.string (strOfNums h)
 |2,v,_=>v=.int .i64 k
 |3,v,_=>v=.pointer (some ⟨sb,13,none⟩)
 |4,v,_=>v=.pointer (some ⟨sb,13,none⟩)
 |5,v,_=>v=.pointer (some ⟨sb,13,none⟩)
 |6,v,_=>v=.slice (some ⟨g,0,none⟩) N cp
 |7,v,_=>v=.slice (if cp=19 then some ⟨g,0,none⟩ else some ⟨g,19,none⟩) (N-19) (cp-19)
 |8,v,_=>v=.string (strOfNums b)
 |9,v,_=>v=.agg #[.int .i64 k,.string (strOfNums b)]
 |_,_,_=>True
variable {sb g N cp:Nat} {h b:List Int} {k:Int}
theorem EZ(w w':World)(j:Nat)(u:Value)(hB:Below w.heap.size w w')(c:qe sb g N cp h b k j u w):qe sb g N cp h b k j u w':=by
 unfold qe at c ⊢;split at c<;>exact c
noncomputable def rP:Array Oper:=((Tryz.f156.body).bind (opsOf 7)).getD #[]
theorem E0:lh rP [0,1,5,7] 62=true:=by kernel_rfl
theorem E1:lO rP=true:=by kernel_rfl
theorem E2:rP.size=11:=by kernel_rfl
variable {Q:Exit→Act→World→Prop} {w0:World}
theorem E3(y:sb<w0.heap.size)(z:w0.cell? ⟨sb,13,none⟩=some (.slice (some ⟨g,0,none⟩) N cp))(hN:19≤N)(F:N≤cp)(m:∀w,Below w0.heap.size w0 w→Calls Tryz.prog 168 #[.pointer (some ⟨sb,13,none⟩)] w fun e w'=>e=.returned (.string (strOfNums h))∧w'=w)(A:∀w,Calls Tryz.prog 169 #[.string (strOfNums h)] w fun e w'=>e=.returned (.int .i64 k)∧w'=w)(s:∀w,Below w0.heap.size w0 w→(convert 86 9 (.slice (if cp=19 then some ⟨g,0,none⟩ else some ⟨g,19,none⟩) (N-19) (cp-19))).run Tryz.prog w=.ok (.string (strOfNums b)) w)(i:Nat)(o:Oper)(a:Act)(w:World)(J:i<10)(B:rP[i]?=some o)(f0:a.tmps[0]?=some (.pointer (some ⟨sb,13,none⟩)))(c:∀(j:Nat)(o':Oper)(d:Nat),rP[j]?=some o'→o'.dst=some d→(∃e∈o.after,e.on=j∧Region.binds .any e=true)→∃v,a.tmps[d]?=some v∧qe sb g N cp h b k j v w)(D:Below w0.heap.size w0 w)(K:Act→World→Prop)(q:∀v w',qe sb g N cp h b k i v w'→Below w.heap.size w w'→K (a.put o.dst v) w'):o.wp Tryz.prog a w K Q:=by
 have m:Hid (_):=m;have A:Hid (∀w,_):=A;have s:Hid (_):=s;have G:(19:Int)≤(N:Int):=by omega
 have H:¬cp<19:=by omega
 have I:¬cp<N:=by omega
 obtain rfl|rfl|rfl|rfl|rfl|rfl|rfl|rfl|rfl|rfl:i=0∨i=1∨i=2∨i=3∨i=4∨i=5∨i=6∨i=7∨i=8∨i=9:=by omega
 all_goals
  simp only[rP,Tryz.f156,opsOf,ed]at B;simp[]at B;subst B
 all_goals try
  first
  |(unfold Oper.wp execOp;simp only[Act.eval,dA,f0,eE];go_simp;exact q _ _ rfl (iJ _ _))
  |(obtain⟨x,r,f⟩:=c _ _ _ (by rfl) (by rfl) ⟨_,⟨List.Mem.head _⟩,rfl,rfl⟩;simp only[qe]at f;subst f;unfold Oper.wp execOp;simp only[Act.eval,dA,r,eE];go_simp;exact q _ _ rfl (iJ _ _))
  |(obtain⟨x,r,f⟩:=c _ _ _ (by rfl) (by rfl) ⟨_,⟨List.Mem.head _⟩,rfl,rfl⟩;obtain⟨L,M,E⟩:=c _ _ _ (by rfl) (by rfl) ⟨_,⟨List.Mem.tail _ (List.Mem.head _)⟩,rfl,rfl⟩;simp only[qe]at f E;subst f E;unfold Oper.wp execOp;simp only[Act.eval,dA];go_simp;exact q _ _ rfl (iJ _ _))
 ·obtain⟨x,r,f⟩:=c 0 _ _ rfl rfl ⟨⟨0,.data⟩,by simp,rfl,rfl⟩;simp only[qe]at f
  try subst f
  unfold Oper.wp execOp;simp only[];go_simp;refine(m.out w D).mono ?_;rintro e w1 ⟨rfl,rfl⟩;exact q _ _ rfl (iJ _ _)
 ·obtain⟨x,r,f⟩:=c 1 _ _ rfl rfl ⟨⟨1,.data⟩,by simp,rfl,rfl⟩;simp only[qe]at f
  try subst f
  unfold Oper.wp execOp;simp only[];go_simp;refine(A.out w).mono ?_;rintro e w1 ⟨rfl,rfl⟩;exact q _ _ rfl (iJ _ _)
 ·obtain⟨x,r,f⟩:=c 5 _ _ rfl rfl ⟨⟨5,.data⟩,by simp,rfl,rfl⟩;simp only[qe]at f
  try subst f
  have O:=(D.cell (p:=⟨sb,13,none⟩) y).trans z;unfold Oper.wp execOp;simp only[Act.eval,dA,r,eE];go_simp;exact q _ _ rfl (iJ _ _)
theorem E4{rb:Nat}{x y:Value}(hm:w0.heap[rb]?=some (.cells #[x,y] 247 (0,0)))(o:Oper)(a:Act)(w:World)(m:rP[10]?=some o)(f5:a.tmps[5]?=some (.pointer (some ⟨rb,0,none⟩)))(f:∀(j:Nat)(o':Oper)(d:Nat),rP[j]?=some o'→o'.dst=some d→(∃e∈o.after,e.on=j∧Region.binds .any e=true)→∃v,a.tmps[d]?=some v∧qe sb g N cp h b k j v w)(q:Below w0.heap.size w0 w)(K:Act→World→Prop)(z:∀v w',(∃r,Below w0.heap.size w0 r∧w'=(r.setCell ⟨rb,0,none⟩ (.int .i64 k)).setCell ⟨rb,1,none⟩ (.string (strOfNums b)))→K (a.put o.dst v) w'):o.wp Tryz.prog a w K Q:=by
 have c:=(q.block rb (dv.1 hm).1).trans hm;have A:=kh c 0;have n1:=kh c 1;have D:=lj c 0;have E:=lj c 1;simp at A n1;simp only[rP,Tryz.f156,opsOf,ed]at m;simp[]at m;subst m;obtain⟨v1,B,s⟩:=f 9 _ _ rfl rfl ⟨⟨9,.data⟩,by simp,rfl,rfl⟩;simp only[qe]at s;subst s;unfold Oper.wp execOp;simp only[Act.eval,dA,f5,B,eE];go_simp;exact z undef _ ⟨w,q,rfl⟩
end
section
open Go Go.RowKit
section
variable {w0 w w1:World} {base tb sb rb:Nat} {now:Int} {sv:Value} {sent:List Int} {cl ov:Bool} {S:Array Value} {pv:Value} {xs:List Int} {msg:Array Value}
end
end
end Go.Proofs.YtjnkcibpkkjniaaGreat
