import Derived.Test.YtjnkcibpkkjniaaGreatA00
import Derived.Test.YtjnkcibpkkjniaaGreatA07
set_option linter.all false
set_option maxHeartbeats 2000000
set_option maxRecDepth 20000
namespace Go.Proofs.YtjnkcibpkkjniaaGreat
section
open Go Go.RowKit
theorem E5(b o c:Nat)(w:World):(convert 86 9 (.slice (some ⟨b,o,none⟩) 0 c)).run Tryz.prog w=.ok (.string (strOfNums [])) w :=
 jg w 86 5 Tryz.underlying86 Tryz.underlying5 b o 0 c [] rfl (fun i a=>absurd a (ik i)) 9 Tryz.underlying9
theorem A7(p:Addr)(w:World):CallsD Tryz.prog 116 #[.pointer (some p)] .returning w fun e b w'=>e=.returned (.tuple #[])∧b=.returning∧w'=w:=by
 refine callsD_of_wpS Tryz.func116 rfl fun a cs hu=>?_
 apply wpS_seq;apply wpS_region;simp[wpOpsS,go_sem,recoverD,hu,Tryz.ntmps116,Exit.thenS];refine wpS_of_wp ?_;have e:(#[Value.pointer (some p)]++(Array.replicate 12 undef).setIfInBounds 3 Value.nilIface:Array Value)=#[.pointer (some p),undef,undef,undef,.nilIface,undef,undef,undef,undef,undef,undef,undef,undef]:=by rfl
 rw[e];clear e
 go_wp2_with fail
 cases a
 simp_all[bodyPostS,results,Tryz.results116]
variable {w:World}
theorem QF{tb:Nat}{Pw:World→Prop}{ao:Option Addr}{c:Nat}(b:∀w1,Below w.heap.size w w1→Calls Tryz.prog 118 #[.pointer (some ⟨tb,0,none⟩)] w1 fun e w'=>(∃v,e=.returned v)∧Pw w'):Calls Tryz.prog 79 #[.pointer (some ⟨tb,0,none⟩),.slice ao 0 c] w fun e w'=>(∃v,e=.returned v)∧Pw w':=by
 have d:∀(fn:Fn)(first cap:Array Value)(w:World),(Instr.makeFunc fn first cap).run Tryz.prog w=.ok (.func fn first cap) w:=fun _ _ _ _=>rfl
 have a:Hid (_):=b;clear b
 go_enter_defers Tryz.func79,Tryz.ntmps79
 go_wp2_with (go_at_call 118;go_loud (refine(a.out _ ji).mono ?_);go_loud (rintro e w1 ⟨⟨v,rfl⟩,g⟩))
 go_loop [4] (fun i=>i=.int .i64 0) (fun _=>0)
 case atStart=>rfl
 case round =>
  subst hrel
  go_wp2_with fail
  refine leaves_cons (f:=116) (args:=#[.pointer (some ⟨w.heap.size,0,none⟩)]) (by simp) (by simp[go_sem]) ?_;refine(A7 ⟨w.heap.size,0,none⟩ _).mono ?_;rintro e j h ⟨rfl,rfl,rfl⟩;simp[Leaves,settle,results,Tryz.results79,go_sem,g]
theorem A8{base a:Nat}{e:TypeId}{size:Nat}{v:Value}{n:Nat}{xs:List Value}(h:w.ownsRow base e size v n xs)(hb:a≤base):w.ownsRow a e size v n xs:=by
 refine⟨h.1,?_⟩;rcases h.2 with k|⟨g,c,cur,k1,k2,b⟩
 ·exact .inl k
 ·exact .inr ⟨g,c,cur,k1,by omega,b⟩
end
section
open Go Go.RowKit
open Go.Proofs.YtjnkcibpkkjniaaGreat.kN (pw lh lO oL)
end
section
open Go Go.RowKit
open Go.Proofs.YtjnkcibpkkjniaaGreat.kN (pw lh lO oL)
variable {q:Option Nat}
structure kC (q:Option Nat) (base tb sb:Nat) (w w':World):Prop where
 os:w'.os=w.os
 size:w.heap.size≤w'.heap.size
 heap:∀b,b<base→b≠tb→b≠sb→q≠some b→w'.heap[b]?=w.heap[b]?
theorem kC.refl(q:Option Nat)(base tb sb:Nat)(w:World):kC q base tb sb w w:=⟨rfl,dD _,fun _ _ _ _ _=>rfl⟩
theorem kC.trans{base tb sb:Nat}{a b c:World}(h:kC q base tb sb a b)(k:kC q base tb sb b c):kC q base tb sb a c :=
 ⟨k.os.trans h.os,dE h.size k.size,fun x d e f g=>(k.heap x d e f g).trans (h.heap x d e f g)⟩
variable {base tb sb:Nat} {w w':World}
theorem Rest.wide(h:Rest base tb sb w w'):kC q base tb sb w w':=⟨h.os,h.size,fun b a c d _=>h.heap b a c d⟩
theorem kC.below{base tb sb:Nat}{w w':World}(h:Below w.heap.size w w')(hb:base≤w.heap.size):kC q base tb sb w w':=(Rest.below h hb).wide
theorem kC.drew(h:kC q base tb sb w w'):kC q base tb sb w w'.drew:=⟨h.os,h.size,h.heap⟩
theorem kC.lower{a:Nat}(h:kC q a tb sb w w')(hb:base≤a):kC q base tb sb w w':=⟨h.os,h.size,fun b f c d e=>h.heap b (by omega) c d e⟩
variable {now:Int} {sv:Value} {sent:List Int} {cl ov:Bool} {S:Array Value}
theorem TS.xA{sv':Value}(h:TS w base tb sb now sv sent cl ov S){row:Option Nat}(a:w.grownBy w' row)(hr:∀k,row=some k→base≤k∨(q=some k∧k≠tb∧k≠sb)):w'.heap[tb]?=w.heap[tb]?∧w'.heap[sb]?=w.heap[sb]?∧kC q base tb sb w w':=by
 have d:=h.lt;refine⟨a.block tb (by omega) fun e=>?_,a.block sb (by omega) fun e=>?_,a.os,a.size,fun b f _ _ c=>a.block b (by omega) fun e=>?_⟩
 ·rcases hr tb e.symm with k|k
  ·omega
  ·exact k.2.1 rfl
 ·rcases hr sb e.symm with k|k
  ·omega
  ·exact k.2.2 rfl
 ·rcases hr b e.symm with k|k
  ·omega
  ·exact c k.1
structure kH (q:Option Nat) (w:World) (base tb sb:Nat) (now:Int) (sv:Value) (sent:List Int) (cl ov:Bool) (S:Array Value) (pv:Value) (xs:List Int):Prop where
 ts:TS w base tb sb now sv sent cl ov S
 lf:S[13]?=some pv
 own:w.ownsRow 0 5 1 pv xs.length (cellsOf xs)
 mS:∀k,pv.ownBlock=some k→sv.ownBlock≠some k
 pl:lE Pl w pv
 wh:∀k,pv.ownBlock=some k→base≤k∨(q=some k∧k≠tb∧k≠sb)
section
variable {w w' w0 w1:World} {base tb sb rb:Nat} {now:Int} {sv sv':Value} {sent sent':List Int} {cl ov cl' ov':Bool} {S S':Array Value} {pv:Value} {xs:List Int} {msg:Array Value}
theorem kH.ne(h:kH q w base tb sb now sv sent cl ov S pv xs)(k:Nat)(a:pv.ownBlock=some k):k<w.heap.size∧k≠tb∧k≠sb:=by
 have b:=h.ts.lt;refine⟨(jA h.own k a).2,?_⟩;rcases h.wh k a with e|e
 ·omega
 ·exact e.2
theorem TP.wide(h:TP w base tb sb now sv sent cl ov S pv xs):kH q w base tb sb now sv sent cl ov S pv xs :=
 ⟨h.ts,h.lf,A8 h.own (eP _),h.mS,h.pl,fun k a=>.inl (jA h.own k a).1⟩
theorem kH.below(h:kH q w base tb sb now sv sent cl ov S pv xs)(hB:Below w.heap.size w w'):kH q w' base tb sb now sv sent cl ov S pv xs :=
 ⟨h.ts.below hB,h.lf,lM h.own fun k a=>hB.block k (jA h.own k a).2,h.mS,h.pl.keep fun k a=>hB.block k (jA h.own k a).2,h.wh⟩
theorem kH.taken(h:kH q w base tb sb now sv sent cl ov S pv xs)(hS:S.size=14){v':Value}{l:List Int}(p:w1.ownsRow 0 5 1 v' (xs.length+l.length) (cellsOf xs++cellsOf l))(d:w.grownBy w1 pv.ownBlock)(m:v'.ownBlock=pv.ownBlock∨v'.ownBlock=some w.heap.size)(r:lE Pl w1 v'):kH q (w1.setCell ⟨sb,13,none⟩ v') base tb sb now sv sent cl ov (S.setIfInBounds 13 v') v' (xs++l)∧kC q base tb sb w (w1.setCell ⟨sb,13,none⟩ v'):=by
 have f:=h.ts.lt;obtain⟨u,x,y⟩:=h.ts.xA (sv':=v') d h.wh;have g:w1.ownsRow base 5 1 sv sent.length (cellsOf sent):=lM h.ts.own fun k n=>d.block k (jA h.ts.own k n).2 fun e=>h.mS k e.symm n
 have i:TS w1 base tb sb now sv sent cl ov S:=⟨u.trans h.ts.t,x.trans h.ts.s,g,⟨f.1,f.2.1,by have:=d.size;omega⟩,h.ts.ne⟩;have k:=i.kX 13 v';have j:w1.ownsRow 0 5 1 v' (xs++l).length (cellsOf (xs++l)):=by rw[jh,←En];exact p
 have a:∀b,v'.ownBlock=some b→base≤b∨(q=some b∧b≠tb∧b≠sb):=fun b hb=>by
  rcases m with e|e
  ·rw[e]at hb;exact h.wh b hb
  ·rw[e]at hb;cases hb;exact .inl f.2.2
 have c:∀b,v'.ownBlock=some b→sb≠b:=fun b hb e=>by
  rcases a b hb with k|k
  ·omega
  ·exact k.2.2 e.symm
 refine⟨⟨k.1,by rw[fj (by omega)],lM j fun b hb=>kA (c b hb) 13 v',fun b hb o=>?_,r.keep fun b hb=>kA (c b hb) 13 v',a⟩,y.trans k.2.wide⟩;rcases m with e|e
 ·rw[e]at hb;exact h.mS b hb o
 ·rw[e]at hb
  cases hb
  have:=(jA h.ts.own _ o).2;omega
structure mG (q:Option Nat) (w0 w:World) (base tb sb rb:Nat) (now:Int) (sv:Value) (sent:List Int) (cl ov:Bool) (S:Array Value) (pv:Value) (xs:List Int) (msg:Array Value):Prop where
 tp:kH q w base tb sb now sv sent cl ov S pv xs
 m:w.heap[rb]?=some (.cells msg 247 (0,0))
 rest:kC q base tb sb w0 w
 hr:base≤rb
 mS:∀k,pv.ownBlock=some k→k≠rb
 u7:∀k,sv.ownBlock=some k→k≠rb
theorem mG.start(h:kH q w base tb sb now sv sent cl ov S pv xs)(msg:Array Value):mG q w (w.alloc (.cells msg 247)) base tb sb w.heap.size now sv sent cl ov S pv xs msg:=by
 have hB:Below w.heap.size w (w.alloc (.cells msg 247)):=(iJ _ _).alloc (dD _) _;exact⟨h.below hB,jL w _,kC.below hB h.ts.lt.2.2,h.ts.lt.2.2,fun k a=>by have:=(jA h.own k a).2;omega,fun k a=>by have:=(jA h.ts.own k a).2;omega⟩
theorem mG.drewN(h:mG q w0 w base tb sb rb now sv sent cl ov S pv xs msg)(n:Nat):mG q w0 (w.drewN n) base tb sb rb now sv sent cl ov S pv xs msg :=
 ⟨⟨(h.tp.ts.drewN n).1,h.tp.lf,h.tp.own,h.tp.mS,h.tp.pl,h.tp.wh⟩,h.m,h.rest.trans (h.tp.ts.drewN n).2.wide,h.hr,h.mS,h.u7⟩
theorem mG.drew(h:mG q w0 w base tb sb rb now sv sent cl ov S pv xs msg):mG q w0 w.drew base tb sb rb now sv sent cl ov S pv xs msg :=
 ⟨⟨h.tp.ts.drew,h.tp.lf,h.tp.own,h.tp.mS,h.tp.pl,h.tp.wh⟩,h.m,h.rest.drew,h.hr,h.mS,h.u7⟩
theorem mG.lf(h:mG q w0 w base tb sb rb now sv sent cl ov S pv xs msg):w.cell? ⟨sb,13,none⟩=some pv∧w.frozen? ⟨sb,13,none⟩=false:=⟨(kh h.tp.ts.s 13).trans h.tp.lf,lj h.tp.ts.s 13⟩
theorem mG.taken(h:mG q w0 w base tb sb rb now sv sent cl ov S pv xs msg)(hS:S.size=14){v':Value}{l:List Int}(f:w1.ownsRow 0 5 1 v' (xs.length+l.length) (cellsOf xs++cellsOf l))(c:w.grownBy w1 pv.ownBlock)(d:v'.ownBlock=pv.ownBlock∨v'.ownBlock=some w.heap.size)(g:lE Pl w1 v'):mG q w0 (w1.setCell ⟨sb,13,none⟩ v') base tb sb rb now sv sent cl ov (S.setIfInBounds 13 v') v' (xs++l) msg:=by
 obtain⟨k1,k2⟩:=h.tp.taken hS f c d g;have b:rb<w.heap.size:=(dv.1 h.m).1;have i:=h.tp.ts.lt;have hr:=h.hr;refine⟨k1,?_,h.rest.trans k2,h.hr,fun k a e=>?_,h.u7⟩
 ·rw[kA (by omega)];exact(c.block rb b fun e=>h.mS rb e.symm rfl).trans h.m
 ·subst e;rcases d with e|e
  ·rw[e]at a;exact h.mS k a rfl
  ·rw[e]at a;cases a;omega
theorem mG.wa(h:mG q w0 w base tb sb rb now sv sent cl ov S pv xs msg)(i:Nat)(v:Value):mG q w0 (w.setCell ⟨rb,i,none⟩ v) base tb sb rb now sv sent cl ov S pv xs (msg.setIfInBounds i v):=by
 have c:=h.tp.ts.lt;have hr:=h.hr;have hsz:(w.setCell ⟨rb,i,none⟩ v).heap.size=w.heap.size:=by simp[World.setCell]
 refine⟨⟨⟨(kA (by omega) i v).trans h.tp.ts.t,(kA (by omega) i v).trans h.tp.ts.s,lM h.tp.ts.own fun k a=>kA (dJ (h.u7 k a)) i v,⟨c.1,c.2.1,by omega⟩,h.tp.ts.ne⟩,h.tp.lf,lM h.tp.own fun k a=>kA (dJ (h.mS k a)) i v,h.tp.mS,h.tp.pl.keep fun k a=>kA (dJ (h.mS k a)) i v,h.tp.wh⟩,lp h.m i v,h.rest.trans ⟨rfl,by omega,fun b d _ _ _=>kA (by omega) i v⟩,h.hr,h.mS,h.u7⟩
theorem mG.Q6(h:mG q w0 w base tb sb rb now sv sent cl ov S pv xs msg)(hS:S.size=14){g c:Nat}(hp:pv=.slice (some ⟨g,0,none⟩) xs.length c):mG q w0 (w.setCell ⟨sb,13,none⟩ (.slice (some ⟨g,0,none⟩) 0 c)) base tb sb rb now sv sent cl ov (S.setIfInBounds 13 (.slice (some ⟨g,0,none⟩) 0 c)) (.slice (some ⟨g,0,none⟩) 0 c) [] msg:=by
 subst hp;have k:=h.tp.ts.kX 13 (.slice (some ⟨g,0,none⟩) 0 c);have n:=h.tp.ts.lt;have hr:=h.hr;have a:w.ownsRow 0 5 1 (.slice (some ⟨g,0,none⟩) 0 c) 0 (cellsOf []):=by
  refine⟨rfl,?_⟩;rcases h.tp.own.2 with⟨e,_⟩|⟨g',c',cur,k1,k2,d,o,f,i,p⟩
  ·cases e
  ·cases k1
   exact .inr ⟨g,c,cur,rfl,k2,d,eP _,f,i,by simp[cellsOf]⟩
 refine⟨⟨k.1,by rw[fj (by omega)],lM a fun b hb=>kA (fun e=>(h.tp.ne b hb).2.2 e.symm) 13 _,fun b hb=>h.tp.mS b hb,lE.keep (w:=w) (fun g' cur ty fr j l=>h.tp.pl g' cur ty fr j l) fun b hb=>kA (fun e=>(h.tp.ne b hb).2.2 e.symm) 13 _,h.tp.wh⟩,(kA (by omega) 13 _).trans h.m,h.rest.trans k.2.wide,h.hr,fun b hb=>h.mS b hb,h.u7⟩
end
variable {pv:Value} {xs:List Int}
theorem mG.Q7{w0 w1:World}{rb:Nat}{msg:Array Value}(h:mG q w0 w base tb sb rb now sv sent cl ov S pv xs msg)(a:w.grownBy w1 pv.ownBlock):w1.cell? ⟨sb,13,none⟩=some pv∧w1.frozen? ⟨sb,13,none⟩=false:=by
 obtain⟨_,b,_⟩:=h.tp.ts.xA (q:=q) (sv':=pv) a h.tp.wh;have:=b.trans h.tp.ts.s;exact⟨(kh this 13).trans h.tp.lf,lj this 13⟩
theorem kH.drew{w:World}{base tb sb:Nat}{now:Int}{sv:Value}{sent:List Int}{cl ov:Bool}{S:Array Value}{pv:Value}{xs:List Int}(h:kH q w base tb sb now sv sent cl ov S pv xs):kH q w.drew base tb sb now sv sent cl ov S pv xs:=⟨h.ts.drew,h.lf,lM h.own fun _ _=>rfl,h.mS,h.pl,h.wh⟩
theorem kH.drewN{w:World}{base tb sb:Nat}{now:Int}{sv:Value}{sent:List Int}{cl ov:Bool}{S:Array Value}{pv:Value}{xs:List Int}(h:kH q w base tb sb now sv sent cl ov S pv xs)(n:Nat):kH q (w.drewN n) base tb sb now sv sent cl ov S pv xs:=⟨(h.ts.drewN n).1,h.lf,lM h.own fun _ _=>rfl,h.mS,h.pl,h.wh⟩
theorem kH.kX{w:World}{base tb sb:Nat}{now:Int}{sv:Value}{sent:List Int}{cl ov:Bool}{S:Array Value}{pv:Value}{xs:List Int}(h:kH q w base tb sb now sv sent cl ov S pv xs)(i:Nat)(a:i≠13)(v:Value):kH q (w.setCell ⟨sb,i,none⟩ v) base tb sb now sv sent cl ov (S.setIfInBounds i v) pv xs:=by
 have k:=h.ts.kX i v;have c:=h.ts.lt;exact⟨k.1,by rw[dO a];exact h.lf,lM h.own fun b hb=>kA (fun e=>(h.ne b hb).2.2 e.symm) i v,h.mS,h.pl.keep fun b hb=>kA (fun e=>(h.ne b hb).2.2 e.symm) i v,h.wh⟩
theorem kH.k2{sv':Value}{sent':List Int}{cl' ov':Bool}{S':Array Value}(h:kH q w base tb sb now sv sent cl ov S pv xs)(i:TS w' base tb sb now sv' sent' cl' ov' S')(d:K2 tb sb sv sv' w w')(f:S'[13]?=some pv):kH q w' base tb sb now sv' sent' cl' ov' S' pv xs:=by
 have l:=h.ts.lt;have b:∀k,pv.ownBlock=some k→w'.heap[k]?=w.heap[k]?:=fun k a=>by
  have c:=jA h.own k a;exact d.heap k c.2 (h.ne k a).2.1 (h.ne k a).2.2 fun e=>h.mS k a e.symm
 refine⟨i,f,lM h.own fun k a=>?_,fun k a e=>?_,h.pl.keep b,h.wh⟩
 ·have c:=jA h.own k a;exact d.heap k c.2 (h.ne k a).2.1 (h.ne k a).2.2 fun e=>h.mS k a e.symm
 ·have c:=jA h.own k a;rcases d.own with g|⟨j,g,m⟩
  ·rw[g]at e;exact h.mS k a e
  ·rw[g]at e;cases e;omega
theorem Q8{au id:Int}{p:Pz}{hold heard spoke:Int}(h:kH q w base tb sb now sv sent cl ov (kt au id p 1 hold heard spoke pv) pv xs)(hl:sent.length≤50000){b:List Int}{n2 n3:Int}(M:Hid (∀w,Calls Tryz.prog 173 #[.string (strOfNums b),.int .i64 p.au] w fun e w'=>e=.returned (.agg #[.int .i64 p.au,.int .i64 n2,.int .u32 n3])∧Below w.heap.size w w')):Calls Tryz.prog 157 #[.pointer (some ⟨tb,0,none⟩),.agg #[.int .i64 1,.string (strOfNums b)]] w fun e w'=>(∃v,e=.returned v)∧∃sv',kH q w' base tb sb now sv' (sent++ld 4 []) cl ov (kt au id p 2 (tn p.hold n2) now now pv) pv xs∧kC q base tb sb w w':=by
 obtain⟨G,k,R,U,V,ia,il,ic,ea,el,ec⟩:=p;simp only[kt]at h M ⊢;have X:Below w.heap.size w (w.alloc (.cells #[.int .i64 1,.string (strOfNums b)] 247)):=(iJ _ _).alloc (dD _) _;have H:Hid (kH q (w.alloc (.cells #[.int .i64 1,.string (strOfNums b)] 247)) base tb sb now sv sent cl ov _ pv xs):=h.below X;have l:Hid (kC q base tb sb w (w.alloc (.cells #[.int .i64 1,.string (strOfNums b)] 247))):=kC.below X h.ts.lt.2.2;have N:(w.alloc (.cells #[.int .i64 1,.string (strOfNums b)] 247)).heap[w.heap.size]?=some (.cells #[.int .i64 1,.string (strOfNums b)] 247 (0,0)):=jL w _;have Hl:Hid (_):=hl;have ae:base≤w.heap.size:=h.ts.lt.2.2;clear h hl X;go_enter Tryz.func157,Tryz.ntmps157
 go_wp2_with fail
 generalize(w.alloc (.cells #[.int .i64 1,.string (strOfNums b)] 247))=w1 at H l N ⊢;obtain⟨⟨c0,c1,c2,c3,c4⟩,z2,Y,Z⟩:=H.out.ts.facts;obtain⟨e0,e1,I,e3,e4,e5,e6,e7,e8,W,m,r,u,y,y0,y1,y2,y3,y4,y5,y6,y7,y8,y9,z,A,B,C⟩:=oX H.out.ts.s;have D:=kh N 0;have j:=kh N 1;simp at D j;have O:Hid (∀n,Calls Tryz.prog 170 #[.pointer (some ⟨sb,0,none⟩),.int .i64 1] (w1.drewN n) fun e w'=>e=.returned (.bool true)∧w'=w1.drewN n):=fun n=>EV _ sb 0 W
 go_quiet ((go_at_call 170;exact jI (O.out _)))
 go_wp2_with fail
 have h2:=H.out.drewN nq;have E:=l.out.trans (H.out.ts.drewN nq).2.wide;have c:(w1.drewN nq).heap[w.heap.size]?=some (.cells #[.int .i64 1,.string (strOfNums b)] 247 (0,0)):=N;clear c0 c1 c2 c3 c4 z2 Y Z e0 e1 I e3 e4 e5 e6 e7 e8 W m r u y y0 y1 y2 y3 y4 y5 y6 y7 y8 y9 z A B C D j O H l N;generalize w1.drewN nq=w2 at h2 E c ⊢;have J:Hid (_):=h2;have P:Hid (_):=E;clear h2 E;obtain⟨⟨c0,c1,c2,c3,c4⟩,z2,Y,Z⟩:=J.out.ts.facts;obtain⟨e0,e1,I,e3,e4,e5,e6,e7,e8,W,m,r,u,y,y0,y1,y2,y3,y4,y5,y6,y7,y8,y9,z,A,B,C⟩:=oX J.out.ts.s;have D:=kh c 0;have j:=kh c 1;simp at D j
 go_region
 have L:=(J.out.kX 11 (by decide) (.int .i64 now)).drew;have F:=(P.out.trans (J.out.ts.kX 11 (.int .i64 now)).2.wide).drew;have l0:=J.out.ts.lt;have d:(w2.setCell ⟨sb,11,none⟩ (.int .i64 now)).drew.heap[w.heap.size]?=some (.cells #[.int .i64 1,.string (strOfNums b)] 247 (0,0)):=(kA (by omega) 11 _).trans c;simp only[iz,iA,iB]at L;clear c0 c1 c2 c3 c4 z2 Y Z e0 e1 I e3 e4 e5 e6 e7 e8 W m r u y y0 y1 y2 y3 y4 y5 y6 y7 y8 y9 z A B C D j J P c;generalize(w2.setCell ⟨sb,11,none⟩ (.int .i64 now)).drew=w3 at L F d ⊢;have D:=kh d 0;have j:=kh d 1;simp at D j;have c0:=kh L.ts.t 0;have I:=kh L.ts.s 2;simp at c0 I;have Q:w.heap.size<w3.heap.size:=(dv.1 d).1;have H3:Hid (_):=L;have aa:Hid (_):=F;clear L F d
 go_wp2_with fail
 have HG:Hid (∀w1,Below w3.heap.size w3 w1→Calls Tryz.prog 172 #[.pointer (some ⟨tb,0,none⟩),.agg #[.int .i64 G,.int .i64 n2,.int .u32 n3]] w1 fun e w'=>(∃v,e=.returned v)∧∃sv',kH q w' base tb sb now sv' (sent++ld 4 []) cl ov #[.int .i64 au,.int .u32 id,.int .i64 G,.int .i64 k,.int .i64 R,.int .i64 U,.int .i64 V,.slice ia il ic,.slice ea el ec,.int .i64 2,.int .i64 (tn k n2),.int .i64 now,.int .i64 now,pv] pv xs∧kC q base tb sb w w'):=fun w1 hB=>by
  have hT:=H3.out.below hB;refine(Q0 (p:=⟨G,k,R,U,V,ia,il,ic,ea,el,ec⟩) hT.ts Hl.out).mono ?_;rintro e w' ⟨hv,sv',k1,k2,k3⟩;exact⟨hv,sv',hT.k2 k1 k3 rfl,aa.out.trans ((kC.below hB H3.out.ts.lt.2.2).trans k2.wide)⟩
 have af:=H3.out.ts.lt;have ab:tb<w3.heap.size:=by omega
 have ad:sb<w3.heap.size:=by omega
 refine oL (ops:=pQ) (val:=ri tb sb w.heap.size b G n2 n3) (fix:=[(0,.pointer (some ⟨tb,0,none⟩)),(3,.pointer (some ⟨w.heap.size,0,none⟩))]) (T:=52) (w0:=w3) (Post:=fun _ w'=>∃sv',kH q w' base tb sb now sv' (sent++ld 4 []) cl ov #[.int .i64 au,.int .u32 id,.int .i64 G,.int .i64 k,.int .i64 R,.int .i64 U,.int .i64 V,.slice ia il ic,.slice ea el ec,.int .i64 2,.int .i64 (tn k n2),.int .i64 now,.int .i64 now,pv] pv xs∧kC q base tb sb w w') (n:=12) (by kernel_rfl) EW EX EY Q3
  (fun i o a w1 hi ho g f hs K hK=>Q4 ab ad Q c0 I j M i o a w1 hi ho (g (0,.pointer (some ⟨tb,0,none⟩)) (by simp)) (g (3,.pointer (some ⟨w.heap.size,0,none⟩)) (by simp)) f hs K hK)
  (fun o a w1 ho g f hs K hK=>Q5 (Post:=fun _ _=>True) (P0:=fun w'=>∃sv',kH q w' base tb sb now sv' (sent++ld 4 []) cl ov #[.int .i64 au,.int .u32 id,.int .i64 G,.int .i64 k,.int .i64 R,.int .i64 U,.int .i64 V,.slice ia il ic,.slice ea el ec,.int .i64 2,.int .i64 (tn k n2),.int .i64 now,.int .i64 now,pv] pv xs∧kC q base tb sb w w') HG o a w1 ho f hs K hK) (fun a w1 kW hsz g hP=>?_) rfl rfl ?_ ?_
 ·obtain⟨sv',k1,k2⟩:=hP;obtain⟨tm,df⟩:=a;simp only at kW;subst kW
  go_wp2_with fail
  exact jB (v:=.tuple #[]) (by simp[results,Tryz.results157,go_sem]) rfl ⟨⟨_,rfl⟩,⟨sv',k1⟩,k2⟩
 ·intro x hx;simp at hx;rcases hx with rfl|rfl<;>rfl
 ·exact⟨rfl,rfl,rfl,dD _,fun _ _=>rfl⟩
end
end Go.Proofs.YtjnkcibpkkjniaaGreat
