import Derived.Test.YtjnkcibpkkjniaaGreatA00
import Derived.Test.YtjnkcibpkkjniaaGreatA14
set_option linter.all false
set_option maxHeartbeats 1600000
set_option maxRecDepth 20000
namespace Go.Proofs.YtjnkcibpkkjniaaGreat
section
open Go Go.RowKit
def cellsOf (xs:List Int):List Value:=xs.map (Value.int .u8)
def Bytes (xs:List Int):Prop:=∀x∈xs,0≤x∧x<256
theorem Dd{x:Int}(h:0≤x∧x<256):((UInt8.ofNat x.toNat).toNat:Int)=x:=by
 have:(UInt8.ofNat x.toNat).toNat=x.toNat:=by
  simp[];omega
 rw[this];omega
theorem De{xs:List Int}(h:Bytes xs):((strOfNums xs).data.map fun b=>Value.int .u8 (b.toNat:Int))=(cellsOf xs).toArray:=by
 unfold strOfNums cellsOf;apply Array.ext';simp only[Array.toList_map,List.map_map];refine gK fun x hx=>?_
 simp only[Function.comp];rw[Dd (h x hx)]
theorem Oi(xs:List Int):(strOfNums xs).extract 0 (strOfNums xs).size=strOfNums xs:=by
 simp[ByteArray.ext_iff,strOfNums,ByteArray.size,ByteArray.extract,ByteArray.copySlice];exact gY (by simp)
section
variable {P:Program} (w:World)
theorem run_firstCells_string{xs:List Int}(h:Bytes xs)(size n:Nat)(a:n=xs.length):(Builtin.firstCells size n (.string (strOfNums xs))).run P w=.ok (cellsOf xs).toArray w:=by
 subst a;have e:(strOfNums xs).extract 0 xs.length=strOfNums xs:=by
  have:=Oi xs;rw[iE]at this;exact this
 simp[Builtin.firstCells,e,De h]
theorem Oj(xs:List Int):∀u∈cellsOf xs,u.oneCell'=true:=by
 intro u hu;obtain⟨x,_,rfl⟩:=iM.1 hu;rfl
theorem Df(xs:List Int):(cellsOf xs).length=xs.length:=by simp[cellsOf]
theorem Dg(xs ys:List Int):cellsOf xs++cellsOf ys=cellsOf (xs++ys):=by simp[cellsOf]
variable {s:List Int}
theorem Dh(Q:Value→Prop)(base:Nat)(t u ty e:TypeId)(i:TypeInfo)(z:Value)(K:P.underlying t=some (.slice e))(hu:P.underlying u=some .string)(L:P.info? e=some i)(Z:i.zero=some z)(d:i.size=1)(B:i.bytes=1)(O:z.cells.size=1)(v:Value)(n:Nat)(xs:List Value)(a:w.ownsRow base e 1 v n xs)(hs:Bytes s)(ad:n+s.length≤140737488355328)(r:base≤w.heap.size)(R:∀u∈z.cells.toList,Q u)(D:∀u∈cellsOf s,Q u)(E:kS Q w v):∃v' w',(Builtin.append_ #[t,u] ty #[v,.string (strOfNums s)]).run P w=.ok v' w'∧w'.ownsRow base e 1 v' (n+s.length) (xs++cellsOf s)∧w.grownBy w' v.ownBlock∧(v'.ownBlock=v.ownBlock∨v'.ownBlock=some w.heap.size)∧kS Q w' v':=by
 have ae:140737488355328≤maxLen:=by decide
 have M:n+s.length≤9223372036854775807:=by omega
 have x:=Df s;have hlen:(xs++cellsOf s).length=(n+s.length)*1:=by rw[iF,a.1,x];omega
 have grown:∀(old:Nat),old<n+s.length→∀(row:Option Nat),
   (w.drew.alloc (.cells (xs.toArray++(cellsOf s).toArray++Builtin.zeroCells z.cells (grownCap w (n+s.length) old e-(n+s.length))) e)).ownsRow base e 1
    (.slice (some ⟨w.heap.size,0,none⟩) (n+s.length) (grownCap w (n+s.length) old e)) (n+s.length) (xs++cellsOf s) ∧
   w.grownBy (w.drew.alloc (.cells (xs.toArray++(cellsOf s).toArray++Builtin.zeroCells z.cells (grownCap w (n+s.length) old e-(n+s.length))) e)) row:=by
  intro old ho row;have T:=grownCap_ge w (n+s.length) old e;have y:grownCap w (n+s.length) old e≤maxLen:=grownCap_le_maxLen w (n+s.length) old e (by omega);refine⟨⟨hlen,.inr ⟨w.heap.size,_,_,rfl,r,iN w.drew _,T,y,?_,?_⟩⟩,⟨rfl,rfl,rfl,by simp,fun k U _=>Go.heap_alloc_old w.drew _ U⟩⟩
  ·have:=a.1;simp only[Array.size_append,gA,size_zeroCells,O,x];omega
  ·simp only[iP,iz];rw[←iz,←hlen];exact List.take_left
 have wD:∀(X:List Value)(n1:Nat)(c:Nat),(∀u∈X,Q u)→kS Q (w.drew.alloc (.cells (X.toArray++(cellsOf s).toArray++Builtin.zeroCells z.cells n1) e)) (.slice (some ⟨w.heap.size,0,none⟩) (n+s.length) c):=by
  intro X n1 c hX k cur ty fr V N u hu
  cases V
  have e3:=(iN w.drew _).symm.trans N
  cases e3
  simp only[iP,gQ]at hu;rcases hu with(hu|hu)|hu
  ·exact hX u hu
  ·exact D u hu
  ·exact R u (wC (by omega) hu)
 have hf:∀w':World,(Builtin.firstCells 1 s.length (.string (strOfNums s))).run P w'=.ok (cellsOf s).toArray w':=fun w'=>run_firstCells_string w' hs 1 s.length rfl
 have p:=iE s;rcases a.2 with⟨rfl,rfl⟩|⟨g,cap,cur,rfl,W,F,af,y,Y,o⟩
 ·have hx:xs=[]:=iQ (by simpa using a.1);subst hx
  by_cases hm:s=[]
  ·subst hm;refine⟨.slice none 0 0,w,?_,iR w base e 1,⟨rfl,rfl,rfl,dx _,fun _ _ _=>rfl⟩,.inl rfl,kS.nil _ _⟩;have h0:(strOfNums []).size=0:=rfl;simp[Builtin.append_,hY K,hY hu,sizeOf,typeInfo,L,Builtin.lenOf,Builtin.firstCells,h0]
  ·have aa:0<s.length:=List.length_pos_iff.2 hm;have hr:=run_append_nil_string (P:=P) w t u ty e i z K hu L Z (strOfNums s) (by omega) (by omega) (by rw[B,p];omega);rw[De hs,p]at hr;have m:=grown 0 (by omega) (Value.ownBlock (.slice none 0 0));have G:=wD [] (grownCap w (0+s.length) 0 e-(0+s.length)) (grownCap w (0+s.length) 0 e) (fun u h=>by cases h);simp only[dB,ig,eA]at m G ⊢;exact⟨_,_,hr,m.1,m.2,.inr rfl,G⟩
 ·by_cases f:n+s.length≤cap
  ·have q:n*1+(cellsOf s).length≤cur.size:=by rw[x,Y];omega
   have A:=run_storeCells_at P g (n*1) e (cellsOf s) 0 cur w F (by simpa using q) (Oj s);simp only[gN]at A;have hr:(Builtin.append_ #[t,u] ty #[.slice (some ⟨g,0,none⟩) n cap,.string (strOfNums s)]).run P w=.ok (.slice (some ⟨g,0,none⟩) (n+s.length) cap) (w.setRow g (cur.toList.take (n*1)++cellsOf s++cur.toList.drop (n*1+(cellsOf s).length)).toArray):=by
    simp[Builtin.append_,hY K,hY hu,sizeOf,typeInfo,L,d,Builtin.lenOf,p,f,hf,iS];simp at A;simp[A]
   refine⟨_,_,hr,⟨hlen,.inr ⟨g,cap,_,rfl,W,setRow_heap w g cur _ e _ F,f,y,?_,?_⟩⟩,⟨rfl,rfl,rfl,by simp,fun k _ U=>setRow_other w g k _ (fun e=>U (by simp[Value.ownBlock,e]))⟩,.inl rfl,?_⟩
   ·simp only[gA,iF,iT,iU,Array.length_toList];omega
   ·rw[o,←hlen];exact List.take_left
   ·have hq:=E g cur e (0,0) rfl F;intro k ab pg fr V N u hu
    cases V
    rw[setRow_heap w g cur _ e _ F]at N
    cases N
    simp only[gQ]at hu;rcases hu with(hu|hu)|hu
    ·exact hq u (iV hu)
    ·exact D u hu
    ·exact hq u (iW hu)
  ·have holds:∀j u,xs[j]?=some u→w.cell? ((⟨g,0,none⟩:Addr).add j)=some u:=a.cells (g:=g) rfl;have hn:¬(n+s.length≤cap):=f;have H:¬(9223372036854775807<((n:Int)+(s.length:Int))):=by omega
   have q:=growslice_fits (need:=n+s.length) (old:=cap) (bytes:=1) (by omega) (by omega);have I:¬(281474976710656<Builtin.nextslicecap (n+s.length) cap*i.bytes):=by rw[B];omega
   have J:=run_firstCells_some (P:=P) w.drew i.size n ⟨g,0,none⟩ n cap xs (by rw[d];exact a.1) (by simpa using holds);rw[d]at J;have hr:(Builtin.append_ #[t,u] ty #[.slice (some ⟨g,0,none⟩) n cap,.string (strOfNums s)]).run P w=.ok (.slice (some ⟨w.heap.size,0,none⟩) (n+s.length) (grownCap w (n+s.length) cap e))
     (w.drew.alloc (.cells (xs.toArray++(cellsOf s).toArray++Builtin.zeroCells z.cells (grownCap w (n+s.length) cap e-(n+s.length))) e)):=by
    simp[Builtin.append_,hY K,hY hu,sizeOf,typeInfo,zeroValue,L,Z,d,Builtin.lenOf,p,hn,H,I,Question.forced,hf,J,newRow,grownCap];congr 2;apply Array.ext';simp[iz]
   have m:=grown cap (by omega) (Value.ownBlock (.slice (some ⟨g,0,none⟩) n cap));exact⟨_,_,hr,m.1,m.2,.inr rfl,wD xs _ _ (fun u h=>by rw[←o]at h;exact E g cur e (0,0) rfl F u (iV h))⟩
theorem run_append_own_string(base:Nat)(t u ty e:TypeId)(i:TypeInfo)(z:Value)(j:P.underlying t=some (.slice e))(hu:P.underlying u=some .string)(k:P.info? e=some i)(m:i.zero=some z)(a:i.size=1)(f:i.bytes=1)(g:z.cells.size=1)(v:Value)(n:Nat)(xs:List Value)(d:w.ownsRow base e 1 v n xs)(o:Bytes s)(h:n+s.length≤140737488355328)(c:base≤w.heap.size):∃v' w',(Builtin.append_ #[t,u] ty #[v,.string (strOfNums s)]).run P w=.ok v' w'∧w'.ownsRow base e 1 v' (n+s.length) (xs++cellsOf s)∧w.grownBy w' v.ownBlock∧(v'.ownBlock=v.ownBlock∨v'.ownBlock=some w.heap.size):=by
 obtain⟨v',w',p,q,r,x,_⟩:=Dh (P:=P) w (fun _=>True) base t u ty e i z j hu k m a f g v n xs d o h c (fun _ _=>trivial) (fun _ _=>trivial) (fun _ _ _ _ _ _ _ _=>trivial);exact⟨v',w',p,q,r,x⟩
end
variable {w:World}
theorem Ok{P:Program}{ops:Array Oper}{rest:List Oper}{o:Oper}{a:Act}{Q:Exit→Act→World→Prop}(g:o.guard=none)(s x:Operand)(t u:TypeId)(p:o.op=.call { callee:=.builtin .append,args:=#[s,x],argTypes:=#[t,u] })(base:Nat)(e:TypeId)(i:TypeInfo)(z:Value)(q:P.underlying t=some (.slice e))(hu:P.underlying u=some .string)(r:P.info? e=some i)(y:i.zero=some z)(c:i.size=1)(j:i.bytes=1)(k:z.cells.size=1)(v:Value)(n:Nat)(xs:List Value)(A:a.eval s=v)(f:w.ownsRow base e 1 v n xs)(l:List Int)(hx:a.eval x=.string (strOfNums l))(B:Bytes l)(m:n+l.length≤140737488355328)(d:base≤w.heap.size)(h:∀v' w',w'.ownsRow base e 1 v' (n+l.length) (xs++cellsOf l)→w.grownBy w' v.ownBlock→(v'.ownBlock=v.ownBlock∨v'.ownBlock=some w.heap.size)→wpList P ops Q rest (a.put o.dst v') w'):wpList P ops Q (o::rest) a w :=
 wpList_plain g fun _ D=>by
  obtain⟨v',w',hr,E,F,G⟩:=run_append_own_string (P:=P) w base t u o.type e i z q hu r y c j k v n xs f B m d;unfold Oper.wp execOp;simp only[p,resolve,invoke,builtin,gz,Sem.run_pure,Result.andThen_ok,et,gy,List.map_nil,A,hx,hr];exact D _ _ (h v' w' E F G)
structure TS (w:World) (base tb sb:Nat) (now:Int) (sv:Value) (sent:List Int) (cl ov:Bool) (S:Array Value):Prop where
 t:w.heap[tb]?=some (.cells #[.pointer (some ⟨sb,0,none⟩),.int .i64 now,sv,.bool cl,.bool ov] 171 (0,0))
 s:w.heap[sb]?=some (.cells S 100 (0,0))
 own:w.ownsRow base 5 1 sv sent.length (cellsOf sent)
 lt:tb<base∧sb<base∧base≤w.heap.size
 ne:tb≠sb
structure Rest (base tb sb:Nat) (w w':World):Prop where
 os:w'.os=w.os
 size:w.heap.size≤w'.heap.size
 heap:∀b,b<base→b≠tb→b≠sb→w'.heap[b]?=w.heap[b]?
theorem Rest.trans{base tb sb:Nat}{a b c:World}(h:Rest base tb sb a b)(k:Rest base tb sb b c):Rest base tb sb a c :=
 ⟨k.os.trans h.os,dz h.size k.size,fun x d f g=>(k.heap x d f g).trans (h.heap x d f g)⟩
variable {base tb sb:Nat} {w':World}
theorem Rest.below(h:Below w.heap.size w w')(hb:base≤w.heap.size):Rest base tb sb w w':=⟨h.os,h.size,fun b a _ _=>h.block b (by omega)⟩
variable {b:Nat} {C:Array Value} {t:TypeId}
theorem jV(h:w.heap[b]?=some (.cells C t (0,0)))(i:Nat):w.cell? ⟨b,i,none⟩=C[i]?:=by simp[World.cell?,h]
theorem kK(h:w.heap[b]?=some (.cells C t (0,0)))(i:Nat):w.frozen? ⟨b,i,none⟩=false:=by simp[World.frozen?,h]
theorem lj(h:w.heap[b]?=some (.cells C t (0,0)))(i:Nat)(v:Value):(w.setCell ⟨b,i,none⟩ v).heap[b]?=some (.cells (C.setIfInBounds i v) t (0,0)):=by
 simp[World.setCell,dC,h]
theorem kn{b':Nat}(h:b≠b')(i:Nat)(v:Value):(w.setCell ⟨b,i,none⟩ v).heap[b']?=w.heap[b']?:=by
 simp[World.setCell,dC,h]
variable {now:Int} {sv:Value} {sent:List Int} {cl ov:Bool} {S:Array Value}
theorem TS.below(h:TS w base tb sb now sv sent cl ov S)(hB:Below w.heap.size w w'):TS w' base tb sb now sv sent cl ov S:=by
 have a:=h.lt;refine⟨(hB.block tb (by omega)).trans h.t,(hB.block sb (by omega)).trans h.s,?_,⟨a.1,a.2.1,by have:=hB.size;omega⟩,h.ne⟩;refine⟨h.own.1,?_⟩;rcases h.own.2 with k|⟨g,c,cur,k1,k2,d,f⟩
 ·exact .inl k
 ·exact .inr ⟨g,c,cur,k1,k2,by rw[hB.block g (dp.1 d).1];exact d,f⟩
theorem Di:∃i:TypeInfo,Tryz.prog.info? 5=some i∧i.zero=some (.int .u8 0)∧i.size=1∧i.bytes=1:=by
 have d:((Tryz.prog.info? 5).map fun i=>(i.size,i.bytes))=some (1,1):=by kernel_rfl
 have a:((Tryz.prog.info? 5).bind (·.zero))=some (.int .u8 0):=by kernel_rfl
 obtain⟨i,c,e⟩:=eg.1 d;rw[c]at a;simp only[eC,dW]at e a;exact⟨i,c,a,e.1,e.2⟩
variable {row:Option Nat}
theorem TS.grown{sv':Value}(h:TS w base tb sb now sv sent cl ov S)(c:w.grownBy w' row)(hr:∀k,row=some k→base≤k):w'.heap[tb]?=w.heap[tb]?∧w'.heap[sb]?=w.heap[sb]?∧Rest base tb sb w w':=by
 have a:=h.lt;have hb:∀b,b<base→w'.heap[b]?=w.heap[b]?:=fun b hb=>c.block b (by omega) fun e=>by have:=hr b e.symm;omega
 exact⟨hb tb a.1,hb sb a.2.1,c.os,c.size,fun b a _ _=>hb b a⟩
variable {e:TypeId} {size n:Nat} {v:Value} {xs:List Value}
theorem p6(h:w.ownsRow base e size v n xs):∃ao cap,v=.slice ao n cap∧∀k,v.ownBlock=some k→base≤k:=by
 rcases h.2 with⟨rfl,rfl⟩|⟨g,c,cur,rfl,d,_⟩
 ·exact⟨none,0,rfl,fun k a=>(h.lt k a).1⟩
 ·exact⟨_,_,rfl,fun k a=>(h.lt k a).1⟩
theorem lL(h:w.ownsRow base e size v n xs)(a:∀k,v.ownBlock=some k→w'.heap[k]?=w.heap[k]?):w'.ownsRow base e size v n xs:=by
 refine⟨h.1,?_⟩;rcases h.2 with k|⟨g,c,cur,k1,k2,d,f⟩
 ·exact .inl k
 ·exact .inr ⟨g,c,cur,k1,k2,by rw[a g (by rw[k1];rfl)];exact d,f⟩
variable {sent':List Int}
theorem TS.Dj(h:TS w base tb sb now sv sent cl ov S){i:Nat}{a:Int}{sv':Value}{cl' ov':Bool}(e:(#[.pointer (some ⟨sb,0,none⟩),.int .i64 now,sv,.bool cl,.bool ov]:Array Value).setIfInBounds i v=#[.pointer (some ⟨sb,0,none⟩),.int .i64 a,sv',.bool cl',.bool ov'])(c:w.ownsRow base 5 1 sv' sent'.length (cellsOf sent')):TS (w.setCell ⟨tb,i,none⟩ v) base tb sb a sv' sent' cl' ov' S∧Rest base tb sb w (w.setCell ⟨tb,i,none⟩ v):=by
 have l:=h.lt;refine⟨⟨by rw[lj h.t,e],(kn h.ne i v).trans h.s,lL c fun k d=>kn (fun e=>by have:=(iX c k d).1;omega) i v,⟨l.1,l.2.1,by simpa[World.setCell]using l.2.2⟩,h.ne⟩,⟨rfl,by simp[World.setCell],fun b _ f _=>kn (dE f) i v⟩⟩
theorem TS.kF(h:TS w base tb sb now sv sent cl ov S)(i:Nat)(v:Value):TS (w.setCell ⟨sb,i,none⟩ v) base tb sb now sv sent cl ov (S.setIfInBounds i v)∧Rest base tb sb w (w.setCell ⟨sb,i,none⟩ v):=by
 have l:=h.lt;refine⟨⟨(kn (dE h.ne) i v).trans h.t,lj h.s i v,lL h.own fun k a=>kn (fun e=>by have:=(iX h.own k a).1;omega) i v,⟨l.1,l.2.1,by simpa[World.setCell]using l.2.2⟩,h.ne⟩,⟨rfl,by simp[World.setCell],fun b _ _ c=>kn (dE c) i v⟩⟩
theorem TS.drew(h:TS w base tb sb now sv sent cl ov S):TS w.drew base tb sb now sv sent cl ov S:=⟨h.t,h.s,h.own,h.lt,h.ne⟩
theorem Rest.drew(h:Rest base tb sb w w'):Rest base tb sb w w'.drew:=⟨h.os,h.size,h.heap⟩
theorem Ol{w1:World}(h:TS w base tb sb now sv sent cl ov S)(d:w.grownBy w1 row)(hr:∀k,row=some k→base≤k){v':Value}(a:w1.ownsRow base 5 1 v' sent'.length (cellsOf sent'))(i:Nat)(u:Value):TS ((w1.setCell ⟨tb,2,none⟩ v').setCell ⟨sb,i,none⟩ u).drew base tb sb now v' sent' cl ov (S.setIfInBounds i u)∧Rest base tb sb w ((w1.setCell ⟨tb,2,none⟩ v').setCell ⟨sb,i,none⟩ u).drew:=by
 obtain⟨g1,g2,f⟩:=h.grown (sv':=v') d hr;have l:=h.lt;have g:w1.ownsRow base 5 1 v' sent'.length (cellsOf sent'):=a;have q:=d.size;have c:w1.heap[tb]?=_:=g1.trans h.t;have j:TS (w1.setCell ⟨tb,2,none⟩ v') base tb sb now v' sent' cl ov S:=⟨by rw[lj c];rfl,(kn h.ne 2 v').trans (g2.trans h.s),lL a fun k m=>kn (fun e=>by have:=(iX a k m).1;omega) 2 v',⟨l.1,l.2.1,by simp[World.setCell];omega⟩,h.ne⟩;have o:Rest base tb sb w1 (w1.setCell ⟨tb,2,none⟩ v'):=⟨rfl,by simp[World.setCell],fun b _ p _=>kn (dE p) 2 v'⟩;have k:=j.kF i u;exact⟨k.1.drew,(f.trans (o.trans k.2)).drew⟩
structure K2 (tb sb:Nat) (sv sv':Value) (w w':World):Prop where
 heap:∀b,b<w.heap.size→b≠tb→b≠sb→some b≠sv.ownBlock→w'.heap[b]?=w.heap[b]?
 own:sv'.ownBlock=sv.ownBlock∨∃k,sv'.ownBlock=some k∧w.heap.size≤k
variable {u:Value} {l:List Int}
theorem Dk(h:TS w base tb sb now sv sent cl ov S)(hS:S[12]?=some u)(hu:u.oneCell'=true)(A:Bytes l)(U:sent.length+l.length≤1000000):Calls Tryz.prog 140 #[.pointer (some ⟨tb,0,none⟩),.string (strOfNums l)] w fun e w'=>(∃v,e=.returned v)∧∃sv',TS w' base tb sb now sv' (sent++l) cl ov (S.setIfInBounds 12 (.int .i64 now))∧Rest base tb sb w w'∧K2 tb sb sv sv' w w':=by
 have B:=h;obtain⟨d,p,f,⟨V,W,G⟩,H⟩:=h;obtain⟨i0,D,j,m,o⟩:=Di;have E:Hid (_):=B;have I:Hid (_):=A;have J:Hid (_):=D;have q:Hid (i0.zero=some (.int .u8 0)∧i0.size=1∧i0.bytes=1):=⟨j,m,o⟩;have K:Hid (sent.length+l.length≤140737488355328):=by show _≤_;omega
 have r:Hid (_):=G;clear B A D j m o;have c0:=jV d 0;have c1:=jV d 1;have c2:=jV d 2;have z2:=kK d 2;have ya:=(jV p 12).trans hS;have L:=kK p 12;simp at c0 c1 c2;have c:Hid (_):=f;clear f;go_enter Tryz.func140,Tryz.ntmps140
 go_wp2_with (at_builtin;go_loud (refine Ok rfl (.tmp 9) (.tmp 10) 86 9 rfl base 5 i0 (.int .u8 0) Tryz.underlying86 Tryz.underlying9 J.out q.out.1 q.out.2.1 q.out.2.2 rfl sv sent.length (cellsOf sent) rfl c.out l rfl I.out K.out r.out ?_);intro v' w1 a g x;go_loud (obtain⟨g1,g2,X⟩:=E.out.grown (sv':=v') g (fun k y=>(iX c.out k y).1));go_loud (have d0:=(jV (g1.trans d) 0));go_loud (have d1:=(jV (g1.trans d) 1));go_loud (have d2:=(jV (g1.trans d) 2));go_loud (have Y:=(kK (g1.trans d) 2));go_loud (have d12:=(jV (g2.trans p) 12).trans hS);go_loud (have M:=(kK (g2.trans p) 12));go_loud (obtain⟨ao,N,rfl,z⟩:=p6 a);go_loud (have i:Hid (_):=a);clear a;simp at d0 d1 d2)
 go_region
 all_goals go_wp2_with fail
 have F:=Ol (sent':=sent++l) E.out g (fun k y=>(iX c.out k y).1) (v':=.slice ao (sent.length+l.length) N) (by rw[iF,←Dg];exact i.out) 12 (.int .i64 now);refine iY (v:=.tuple #[]) (by simp[results,Tryz.results140,go_sem]) rfl ⟨⟨_,rfl⟩,_,F.1,F.2,⟨fun b O Q R T=>?_,x.imp id fun k=>⟨_,k,dx _⟩⟩⟩;show(((w1.setCell _ _).setCell _ _)).heap[b]?=_;rw[kn (dE R),kn (dE Q)];exact g.block b O T
theorem Af(h:TS w base tb sb now sv sent cl ov S)(hS:S[12]?=some u)(hu:u.oneCell'=true)(a:Bytes l)(c:sent.length+l.length≤1000000):Calls Tryz.prog 140 #[.pointer (some ⟨tb,0,none⟩),.string (strOfNums l)] w fun e w'=>(∃v,e=.returned v)∧∃sv',TS w' base tb sb now sv' (sent++l) cl ov (S.setIfInBounds 12 (.int .i64 now))∧Rest base tb sb w w' :=
 (Dk h hS hu a c).mono fun e w' ⟨d,sv',f,g,_⟩=>⟨d,sv',f,g⟩
structure Pz where
 au:Int
 hold:Int
 nF:Int
 nG:Int
 wait:Int
 ia:Option Addr
 il:Nat
 ic:Nat
 ea:Option Addr
 el:Nat
 ec:Nat
def Pz.cells (p:Pz):Array Value:=#[.int .i64 p.au,.int .i64 p.hold,.int .i64 p.nF,.int .i64 p.nG,.int .i64 p.wait,.slice p.ia p.il p.ic,.slice p.ea p.el p.ec]
def j5 (au id:Int) (p:Pz) (st hold heard spoke:Int) (part:Value):Array Value :=
 #[.int .i64 au,.int .u32 id,.int .i64 p.au,.int .i64 p.hold,.int .i64 p.nF,.int .i64 p.nG,.int .i64 p.wait,.slice p.ia p.il p.ic,.slice p.ea p.el p.ec,.int .i64 st,.int .i64 hold,.int .i64 heard,.int .i64 spoke,part]
theorem Dl(au id:Int)(p:Pz)(w:World):Calls Tryz.prog 41 #[.int .i64 au,.int .u32 id,.agg p.cells] w fun e w'=>e=.returned (.agg (j5 au id p 0 0 0 0 (.slice none 0 0)))∧Below w.heap.size w w':=by
 obtain⟨pa,ph,pl,pp,a,ia,il,ic,ea,el,ec⟩:=p;simp only[Pz.cells,j5];go_enter Tryz.func41,Tryz.ntmps41
 go_wp2_with fail
 exact iZ (v:=.agg #[.int .i64 au,.int .u32 id,.int .i64 pa,.int .i64 ph,.int .i64 pl,.int .i64 pp,.int .i64 a,.slice ia il ic,.slice ea el ec,.int .i64 0,.int .i64 0,.int .i64 0,.int .i64 0,.slice none 0 0]) (by simp[results,Tryz.results41,go_sem]) rfl ⟨rfl,by(repeat(first|exact iD _ _|refine iG ?_|refine iH ?_ (by first|omega|(simp only[iI,iJ,iK];omega)|simp) _|refine iL ?_ (by first|omega|simp) _|assumption))⟩
variable {c0 c1 c2 c3 c4 c5 c6 c7 c8 c9 Ag Ah ya kJ:Value}
theorem oD(h:w.heap[b]?=some (.cells #[c0,c1,c2,c3,c4,c5,c6,c7,c8,c9,Ag,Ah,ya,kJ] t (0,0))):w.cell? ⟨b,0,none⟩=some c0∧w.cell? ⟨b,1,none⟩=some c1∧w.cell? ⟨b,2,none⟩=some c2∧w.cell? ⟨b,3,none⟩=some c3∧w.cell? ⟨b,4,none⟩=some c4∧w.cell? ⟨b,5,none⟩=some c5∧w.cell? ⟨b,6,none⟩=some c6∧w.cell? ⟨b,7,none⟩=some c7∧w.cell? ⟨b,8,none⟩=some c8∧w.cell? ⟨b,9,none⟩=some c9∧w.cell? ⟨b,10,none⟩=some Ag∧w.cell? ⟨b,11,none⟩=some Ah∧w.cell? ⟨b,12,none⟩=some ya∧w.cell? ⟨b,13,none⟩=some kJ∧w.frozen? ⟨b,0,none⟩=false∧w.frozen? ⟨b,1,none⟩=false∧w.frozen? ⟨b,2,none⟩=false∧w.frozen? ⟨b,3,none⟩=false∧w.frozen? ⟨b,4,none⟩=false∧w.frozen? ⟨b,5,none⟩=false∧w.frozen? ⟨b,6,none⟩=false∧w.frozen? ⟨b,7,none⟩=false∧w.frozen? ⟨b,8,none⟩=false∧w.frozen? ⟨b,9,none⟩=false∧w.frozen? ⟨b,10,none⟩=false∧w.frozen? ⟨b,11,none⟩=false∧w.frozen? ⟨b,12,none⟩=false∧w.frozen? ⟨b,13,none⟩=false :=
 ⟨jV h 0,jV h 1,jV h 2,jV h 3,jV h 4,jV h 5,jV h 6,jV h 7,jV h 8,jV h 9,jV h 10,jV h 11,jV h 12,jV h 13,kK h 0,kK h 1,kK h 2,kK h 3,kK h 4,kK h 5,kK h 6,kK h 7,kK h 8,kK h 9,kK h 10,kK h 11,kK h 12,kK h 13⟩
structure uu (b:Nat) (w w':World):Prop where
 os:w'.os=w.os
 size:w'.heap.size=w.heap.size
 Dm:∀x,x≠b→w'.heap[x]?=w.heap[x]?
theorem uu.refl(b:Nat)(w:World):uu b w w:=⟨rfl,rfl,fun _ _=>rfl⟩
theorem uu.set(h:uu b w w')(i:Nat)(v:Value):uu b w (w'.setCell ⟨b,i,none⟩ v) :=
 ⟨h.os,by simpa[World.setCell]using h.size,fun x hx=>(kn (dE hx) i v).trans (h.Dm x hx)⟩
theorem Om(h:w.heap[b]?=some (.cells #[c0,c1,c2,c3,c4,c5,c6,c7,c8,c9,Ag,Ah,ya,kJ] t (0,0)))(d0 d1 d2 d3 d4 d5 d6 d7 d8 d9 d10 d11 d12 d13:Value):((((((((((((((w.setCell ⟨b,0,none⟩ d0).setCell ⟨b,1,none⟩ d1).setCell ⟨b,2,none⟩ d2).setCell ⟨b,3,none⟩ d3).setCell ⟨b,4,none⟩ d4).setCell ⟨b,5,none⟩ d5).setCell ⟨b,6,none⟩ d6).setCell ⟨b,7,none⟩ d7).setCell ⟨b,8,none⟩ d8).setCell ⟨b,9,none⟩ d9).setCell ⟨b,10,none⟩ d10).setCell ⟨b,11,none⟩ d11).setCell ⟨b,12,none⟩ d12).setCell ⟨b,13,none⟩ d13).heap[b]?=some (.cells #[d0,d1,d2,d3,d4,d5,d6,d7,d8,d9,d10,d11,d12,d13] t (0,0))∧uu b w ((((((((((((((w.setCell ⟨b,0,none⟩ d0).setCell ⟨b,1,none⟩ d1).setCell ⟨b,2,none⟩ d2).setCell ⟨b,3,none⟩ d3).setCell ⟨b,4,none⟩ d4).setCell ⟨b,5,none⟩ d5).setCell ⟨b,6,none⟩ d6).setCell ⟨b,7,none⟩ d7).setCell ⟨b,8,none⟩ d8).setCell ⟨b,9,none⟩ d9).setCell ⟨b,10,none⟩ d10).setCell ⟨b,11,none⟩ d11).setCell ⟨b,12,none⟩ d12).setCell ⟨b,13,none⟩ d13):=by
 refine⟨?_,((((((((((((((uu.refl b w).set 0 d0).set 1 d1).set 2 d2).set 3 d3).set 4 d4).set 5 d5).set 6 d6).set 7 d7).set 8 d8).set 9 d9).set 10 d10).set 11 d11).set 12 d12).set 13 d13⟩;have g:=lj h 0 d0;simp only[ik,iu]at g;have k1:=lj g 1 d1;simp only[ik,iu,iq]at k1;clear g;have k2:=lj k1 2 d2;simp only[ik,iu,iq]at k2;clear k1;have i:=lj k2 3 d3;simp only[ik,iu,iq]at i;clear k2;have j:=lj i 4 d4;simp only[ik,iu,iq]at j;clear i;have k:=lj j 5 d5;simp only[ik,iu,iq]at k;clear j;have m:=lj k 6 d6;simp only[ik,iu,iq]at m;clear k;have o:=lj m 7 d7;simp only[ik,iu,iq]at o;clear m;have p:=lj o 8 d8;simp only[ik,iu,iq]at p;clear o;have q:=lj p 9 d9;simp only[ik,iu,iq]at q;clear p;have a:=lj q 10 d10;simp only[ik,iu,iq]at a;clear q;have c:=lj a 11 d11;simp only[ik,iu,iq]at c;clear a;have d:=lj c 12 d12;simp only[ik,iu,iq]at d;clear c;have f:=lj d 13 d13;simp only[ik,iu,iq]at f;clear d;exact f
end
end Go.Proofs.YtjnkcibpkkjniaaGreat
