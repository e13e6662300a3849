import Derived.Test.YtjnkcibpkkjniaaGreatA00
import Derived.Test.YtjnkcibpkkjniaaGreatA27
set_option linter.all false
set_option maxHeartbeats 2000000
set_option maxRecDepth 20000
namespace Go.Proofs.YtjnkcibpkkjniaaGreat.kj
section
open Go Go.Conc Go.RowKit Go.Proofs.YtjnkcibpkkjniaaGreat.j7
variable {cs x2:List Frame} {Q:Frame→List Frame→World→Prop} {c bc:Frame} {ac:Act} {ops:Array Oper} {i sp xb xc n:Nat} {l:List Nat} {kk:List Item} {w:World} {Z:List Value} {now au id t kD:Int} {d:Nat→SD} {kM:Value}
theorem Re(ai:c=bc.at ac (.inRegion ops (i::l)::kk))(hS:xe w sp xb xc n Z now au id d)(hn:0<n)(X:n<2147483647)(hid:0≤id)(HL:∀w,Calls Tryz.prog 33 #[.int .i64 now,.int .i64 t] w fun e w'=>e=.returned (.int .i64 kD)∧w'=w)(aj:kO kD){ins:Nat→List kC}(ak:∀i,i<n→EW kD (d i) (ins i))(HS:∀w1,w1.heap=(w.setCell ⟨sp,0,none⟩ (.int .i64 kD)).heap→w1.os=w.os→Calls Tryz.prog 36 #[.pointer (some ⟨sp,0,none⟩),kM] w1 fun e w'=>∃v,e=.returned v∧∃nb nc ms m E,AU w1 w' n ins v nb nc ms m E){RO:Value→World→Prop}(HO:∀w3 RB rep v,x8 n rep v→w3.heap[RB]?=some (.cells rep 140 (0,0))→(∀i,i<n→∃a l c,v i=.agg #[.slice a l c,.bool (mA au id kD d ins i).2.2]∧mJ w3 (.slice a l c) (mA au id kD d ins i).2.1)→∀w4,w4.heap=w3.heap→w4.os=w3.os→Calls Tryz.prog 34 #[.slice (some ⟨RB,0,none⟩) n n] w4 fun e w'=>∃v,e=.returned v∧RO v w'∧Old w3 w')(al:∀v w',RO v w'→kT v=false)(k:∀w' D d',xe w' sp xb xc n Z kD au id d'→(∀i,i<n→(d' i).s=(mA au id kD d ins i).1∧(d' i).p.au=(d i).p.au∧(d' i).p.hold=(d i).p.hold∧((mA au id kD d ins i).1.st=0→(d' i).v=.slice none 0 0))→RO D w'→(∀b,b<w.heap.size→b≠sp→b≠xb→(∀i,i<n→¬(d i).nm b)→w'.heap[b]?=w.heap[b]?∧∀i,i<n→¬(d' i).nm b)→GX cs Q (c.finish D) x2 w')(Y:kT kM=false:=by rfl):GX cs Q ((base 17).at { tmps:=#[.pointer (some ⟨sp,0,none⟩),.int .i64 t,kM]++Array.replicate 19 undef,defers:=[] } [.code (Tryz.f17.body.getD .skip)]) (c::x2) w:=by
 have az:sp<w.heap.size:=(dp.1 hS.j3).1;have aa:xb<w.heap.size:=hS.ss.lt;have x:∀i,i<n→∀b,(d i).nm b→b<w.heap.size:=fun i hi b hb=>by obtain⟨cur,ty,fr,q,_⟩:=(hS.ss.rows i hi b hb).2;exact(dp.1 q).1
 refine E6 (RS:=fun v w'=>∃w1 nb nc ms m E,w1.heap=(w.setCell ⟨sp,0,none⟩ (.int .i64 kD)).heap∧w1.os=w.os∧AU w1 w' n ins v nb nc ms m E) HL hS.j3 (fun w1 W e2=>(HS w1 W e2).mono fun e w' ⟨v,k1,nb,nc,ms,m,E,k2⟩=>⟨v,k1,w1,nb,nc,ms,m,E,W,e2,k2⟩) ?_ Y;rintro v w2 ⟨w1,nb,nc,ms,m,E,W,e2,hO⟩;obtain⟨rfl,aA,u,ab,am,ad,z,A,hx⟩:=hO;have aB:w1.heap.size=w.heap.size:=by rw[W];simp[World.setCell]
 have ae:∀b,b≠sp→w1.heap[b]?=w.heap[b]?:=fun b hb=>by rw[W];exact kn (dE hb) 0 _
 have O:∀b,b<w.heap.size→b≠sp→w2.heap[b]?=w.heap[b]?:=fun b hb hs=>(u.block b (by omega)).trans (ae b hs)
 have F:w2.heap[sp]?=some (.cells #[.int .i64 kD,.slice (some ⟨xb,0,none⟩) n xc] 91 (0,0)):=by
  rw[u.block sp (by omega),W,lj hS.j3];rfl
 have G:nR w2 xb n Z au id d:=hS.ss.keep fun b hb=>by
  rcases hb with rfl|⟨i,hi,hb⟩
  ·exact O b aa (dE hS.ne)
  ·exact O b (x i hi b hb) fun e=>hS.nm i hi (e▸hb)
 have af:∀i,i<n→∀b,E i b→b≠xb∧b≠sp∧b≠nb:=fun i hi b hb=>by have:=z i hi b hb;exact⟨by omega,by omega,this.2⟩
 have an:∀i i',i<n→i'<n→∀b,E i b→¬(d i').nm b:=fun i i' hi ao b hb ap=>by have:=(z i hi b hb).1;have:=x i' ao b ap;omega
 have aq:∀i,i<n→¬(d i).nm nb:=fun i hi hb=>by have:=x i hi nb hb;omega
 have hI:=Q0 (nc:=nc) F G hS.ne hS.nm hn X ab am ad af A an (by omega) aq aj hid ak hx;have H:∀b,p5 n (re xb n Z d E) b→b=xb∨∃i,i<n∧((d i).nm b∨E i b):=fun b ⟨i,hi,y,pl,hy,e⟩=>by
  rcases sE hy with⟨rfl,rfl⟩|⟨_,k,rfl⟩
  ·exact .inl e.symm
  ·obtain rfl:y=b:=e;exact .inr ⟨i,hi,k⟩
 have J:¬p5 n (re xb n Z d E) sp:=fun h=>by
  rcases H sp h with e|⟨i,hi,e|e⟩
  ·exact hS.ne e
  ·exact hS.nm i hi e
  ·exact(af i hi sp e).2.1 rfl
 refine EX hI (fun i hi v w' hR=>hR.2) (fun w3 RB rep v I R aD ar ag av aC S hsz T=>?_);obtain⟨d',U,aw,C,K,aE⟩:=QY G rfl hn R;have L:ur (pM sp now t kD kM (.slice (some ⟨nb,0,none⟩) n nc)) sp:=⟨0,_,by rw[Q2];rfl,rfl,.ptr _⟩;have M:pM sp now t kD kM (.slice (some ⟨nb,0,none⟩) n nc)∈qU ⟨sp,0,kD,xb,0,n,xc,nb,0,n,nc⟩::pM sp now t kD kM (.slice (some ⟨nb,0,none⟩) n nc)::(c::x2):=List.mem_cons_of_mem _ (List.mem_cons_self ..);have N:w3.heap[sp]?=some (.cells #[.int .i64 kD,.slice (some ⟨xb,0,none⟩) n xc] 91 (0,0)):=(S _ M sp L J).2.trans F;have V:¬I sp:=ar _ M sp L J;refine EY ai (RO:=fun v w'=>RO v w'∧Old w3 w') (fun w4 e3 e4=>(HO w3 RB rep v ag av C w4 e3 e4).mono fun e w' ⟨v,k1,k2,k3⟩=>⟨v,k1,k2,k3⟩) ?_ (fun v w' h=>al v w' h.1);rintro v w' ⟨ah,f⟩;refine k w' v d' ⟨(f.block sp (dp.1 N).1).trans N,U.keep fun b hb=>?_,hS.ne,fun i hi hb=>V (K i hi sp hb)⟩ aw ah (fun b hb n1 n2 n3=>?_)
 ·rcases hb with rfl|⟨i,hi,hb⟩
  ·exact f.block _ U.lt
  ·obtain⟨cur,ty,fr,q,_⟩:=(U.rows i hi b hb).2;exact f.block _ (dp.1 q).1
 ·have ax:¬p5 n (re xb n Z d E) b:=fun h=>by
   rcases H b h with e|⟨i,hi,e|e⟩
   ·exact n2 e
   ·exact n3 i hi e
   ·have:=(z i hi b e).1;omega
  have hq:=T b (by have:=u.size;omega) ax;have h3:=hq.2.2.trans (O b hb n1);exact⟨(f.block b (dp.1 (h3.trans (dq hb))).1).trans h3,fun i hi ay=>hq.1 (K i hi b ay)⟩
variable {ja:Option Addr} {jb jo jc:Nat} {ins:List kC}
theorem Rf(E:c=bc.at ac (.inRegion ops (i::l)::kk))(hS:xe w sp xb xc n Z now au id d)(T:0<n)(u:n<2147483647)(hid:0≤id)(U:∀w,Calls Tryz.prog 33 #[.int .i64 now,.int .i64 t] w fun e w'=>e=.returned (.int .i64 kD)∧w'=w)(F:kO kD)(G:∀i,i<n→lV (d i).s∧((d i).s.st=0→(d i).v=.slice none 0 0)∧0≤(d i).p.hold∧(d i).p.hold≤65535)(H:ins≠[]→ja=some ⟨jb,jo,none⟩)(I:ins≠[]→jb<w.heap.size)(J:ins≠[]→jb≠sp)(hI:pw w jb jo ins)(hlen:ins.length≤4398046511103)(hb:∀x∈ins,Bytes x.d∧x.d.length≤1152921504606846976)(k:∀w' f d',xe w' sp xb xc n Z kD au id d'→(∀i,i<n→(d' i).s=(mA au id kD d (fun i=>kU i ins) i).1∧(d' i).p.au=(d i).p.au∧(d' i).p.hold=(d i).p.hold∧((mA au id kD d (fun i=>kU i ins) i).1.st=0→(d' i).v=.slice none 0 0))→uG n (mA au id kD d (fun i=>kU i ins)) f w'→(∀b,b<w.heap.size→b≠sp→b≠xb→(∀i,i<n→¬(d i).nm b)→w'.heap[b]?=w.heap[b]?∧∀i,i<n→¬(d' i).nm b)→GX cs Q (c.finish f) x2 w'):GX cs Q ((base 17).at { tmps:=#[.pointer (some ⟨sp,0,none⟩),.int .i64 t,.slice ja ins.length jc]++Array.replicate 19 undef,defers:=[] } [.code (Tryz.f17.body.getD .skip)]) (c::x2) w:=by
 have R:sp<w.heap.size:=(dp.1 hS.j3).1;refine Re E hS T u hid U F (ins:=fun i=>kU i ins) (fun i hi=>?_) (fun w1 D e2=>?_) (RO:=fun v w'=>uG n (mA au id kD d (fun i=>kU i ins)) v w') (fun w3 RB rep v y K m w4 L V=>?_) (fun v w' h=>?_) k (by cases ja<;>rfl)
 ·obtain⟨k1,k2,W⟩:=G i hi;refine⟨k1,k2,W,?_,fun x hx=>hb x (gb.1 hx).1⟩;have D:(kU i ins).length≤ins.length:=gd _ _;omega
 ·have S:w1.heap.size=w.heap.size:=by rw[D];simp[World.setCell]
  have z:w1.heap[sp]?=some (.cells #[.int .i64 kD,.slice (some ⟨xb,0,none⟩) n xc] 91 (0,0)):=by
   rw[D,lj hS.j3];rfl
  have M:pw w1 jb jo ins:=by
   by_cases h:ins=[]
   ·subst h;intro j x hx;simp at hx
   ·exact hI.keep (by rw[D];exact kn (dE (J h)) 0 _)
  refine(E1 (xv:=some ⟨xb,0,none⟩) (xc:=xc) (jV z 1) (by omega) H (fun h=>by have:=I h;omega) M hlen).mono ?_;rintro e w' ⟨rfl,X⟩;exact⟨_,rfl,Ra rfl X⟩
 ·have A:w4.heap[RB]?=some (.cells rep 140 (0,0)):=by rw[L];exact K
  have C:∀i,∃sv,i<n→rep[i*2]?=some sv∧rep[i*2+1]?=some (.bool (mA au id kD d (fun i=>kU i ins) i).2.2)∧mJ w4 sv (mA au id kD d (fun i=>kU i ins) i).2.1:=fun i=>by
   by_cases hi:i<n
   ·obtain⟨a,l,c,N,O⟩:=m i hi;obtain⟨sa,sl,sc,sb,r1,r2,Y⟩:=y.2 i hi;rw[N]at r1;simp only[Value.agg.injEq,eF,eG,Value.bool.injEq,and_true]at r1;obtain⟨r4,r5⟩:=r1;refine⟨.slice a l c,fun _=>⟨by rw[r4];exact r2,by rw[r5];exact Y,O.keep fun b v j hc=>by simpa[World.cell?,L]using hc⟩⟩
   ·exact⟨.bool true,fun h=>absurd h hi⟩
  have q:=fun i hi=>jB (C i) hi
  refine(EZ (x:=fun i=>(mA au id kD d (fun i=>kU i ins) i).2) (sv:=fun i=>Classical.choose (C i)) A (by omega) (fun i hi=>⟨(q i hi).1,(q i hi).2.1⟩) (fun i hi=>(q i hi).2.2)).mono ?_;rintro e w' ⟨v,rfl,N,O⟩;exact⟨v,rfl,⟨_,N⟩,Old.of O L V⟩
 ·obtain⟨B,h1⟩:=h;obtain⟨ao,cp,rfl,_⟩:=p6 h1
  cases ao with
  |none=>rfl
  |some a=>rfl
def rf (w:World) (sp n:Nat) (now au id:Int) (d:Nat→SD) (K:Nat→Prop):Prop :=
 (∀b,K b→b<w.heap.size∧b≠sp)∧((n=0∧w.heap[sp]?=some (.cells #[.int .i64 now,.slice none 0 0] 91 (0,0))) ∨
  (0<n∧∃xb xc Z,xe w sp xb xc n Z now au id d∧∀b,K b→b≠xb∧∀i,i<n→¬(d i).nm b))
theorem rf.lt{w:World}{sp n:Nat}{now au id:Int}{d:Nat→SD}{K:Nat→Prop}(h:rf w sp n now au id d K):sp<w.heap.size:=by
 rcases h.2 with⟨_,h⟩|⟨_,_,_,_,h,_⟩
 ·exact(dp.1 h).1
 ·exact(dp.1 h.j3).1
theorem rf.keep{w w':World}{sp n:Nat}{now au id:Int}{d:Nat→SD}{K u:Nat→Prop}(h:rf w sp n now au id d K)(hB:∀b,b<w.heap.size→(b≠sp→K b∨w'.heap[b]?=w.heap[b]?)∧(b=sp→w'.heap[b]?=w.heap[b]?))(z:w.heap.size≤w'.heap.size)(x:∀b,u b→K b∨(w.heap.size≤b∧b<w'.heap.size)):rf w' sp n now au id d u:=by
 have j3:=h.lt;refine⟨fun b hb=>?_,?_⟩
 ·rcases x b hb with k|k
  ·have:=h.1 b k;exact⟨by omega,this.2⟩
  ·exact⟨k.2,by omega⟩
 ·rcases h.2 with⟨m,a⟩|⟨m,xb,xc,Z,a,p⟩
  ·exact .inl ⟨m,((hB sp j3).2 rfl).trans a⟩
  ·have s:xb<w.heap.size:=a.ss.lt;have f:∀i,i<n→∀b,(d i).nm b→b<w.heap.size:=fun i hi b hb=>by obtain⟨cur,ty,fr,q,_⟩:=(a.ss.rows i hi b hb).2;exact(dp.1 q).1
   refine .inr ⟨m,xb,xc,Z,⟨((hB sp j3).2 rfl).trans a.j3,a.ss.keep fun b hb=>?_,a.ne,a.nm⟩,fun b hb=>?_⟩
   ·rcases hb with rfl|⟨i,hi,hb⟩
    ·exact((hB _ s).1 (dE a.ne)).resolve_left fun k=>(p _ k).1 rfl
    ·exact((hB _ (f i hi b hb)).1 fun e=>a.nm i hi (e▸hb)).resolve_left fun k=>(p _ k).2 i hi hb
   ·rcases x b hb with k|k
    ·exact p b k
    ·exact⟨by omega,fun i hi y=>by have:=f i hi b y;omega⟩
def xg (w:World) (kM:Value) (ins:List kC) (K:Nat→Prop):Prop:=∃(ja:Option Addr)(jb jo jc:Nat),kM=.slice ja ins.length jc∧(ins≠[]→ja=some ⟨jb,jo,none⟩)∧(ins≠[]→K jb)∧pw w jb jo ins
theorem Rg(H:c=bc.at ac (.inRegion ops (i::l)::kk))(X:Nat→SV×List Int×Bool)(j3:w.heap[sp]?=some (.cells #[.int .i64 now,.slice none 0 0] 91 (0,0)))(HL:∀w,Calls Tryz.prog 33 #[.int .i64 now,.int .i64 t] w fun e w'=>e=.returned (.int .i64 kD)∧w'=w)(J:ins≠[]→ja=some ⟨jb,jo,none⟩)(K:ins≠[]→jb<w.heap.size)(L:ins≠[]→jb≠sp)(hI:pw w jb jo ins)(hlen:ins.length≤4398046511103)(k:∀w' q,w'.heap[sp]?=some (.cells #[.int .i64 kD,.slice none 0 0] 91 (0,0))→uG 0 X q w'→w.heap.size≤w'.heap.size→(∀b,b<w.heap.size→b≠sp→w'.heap[b]?=w.heap[b]?)→GX cs Q (c.finish q) x2 w'):GX cs Q ((base 17).at { tmps:=#[.pointer (some ⟨sp,0,none⟩),.int .i64 t,.slice ja ins.length jc]++Array.replicate 19 undef,defers:=[] } [.code (Tryz.f17.body.getD .skip)]) (c::x2) w:=by
 have W:sp<w.heap.size:=(dp.1 j3).1;refine E6 (RS:=fun v w'=>∃w1,w1.heap=(w.setCell ⟨sp,0,none⟩ (.int .i64 kD)).heap∧w1.os=w.os∧v=.slice (some ⟨w1.heap.size,0,none⟩) 0 0∧Given w1 w' 0 w1.heap.size ins) HL j3 (fun w1 s Y=>?_) ?_ (by cases ja<;>rfl)
 ·have z:w1.heap.size=w.heap.size:=by rw[s];simp[World.setCell]
  have A:w1.heap[sp]?=some (.cells #[.int .i64 kD,.slice none 0 0] 91 (0,0)):=by
   rw[s,lj j3];rfl
  have M:pw w1 jb jo ins:=by
   by_cases h:ins=[]
   ·subst h;intro j x hx;simp at hx
   ·exact hI.keep (by rw[s];exact kn (dE (L h)) 0 _)
  refine(E1 (xv:=none) (xc:=0) (n:=0) (jV A 1) (by omega) J (fun h=>by have:=K h;omega) M hlen).mono ?_;rintro e w' ⟨rfl,y⟩;exact⟨_,rfl,w1,s,Y,rfl,y⟩
 rintro v w2 ⟨w1,s,Y,rfl,y⟩;have z:w1.heap.size=w.heap.size:=by rw[s];simp[World.setCell]
 have D:∀b,b≠sp→w1.heap[b]?=w.heap[b]?:=fun b hb=>by rw[s];exact kn (dE hb) 0 _
 have hold:Old w1 w2:=⟨y.below.os,y.below.size,fun b hb=>y.below.block b hb⟩;have N:∀b,b<w.heap.size→b≠sp→w2.heap[b]?=w.heap[b]?:=fun b hb hs=>(hold.block b (by omega)).trans (D b hs)
 have f:w2.heap[sp]?=some (.cells #[.int .i64 kD,.slice none 0 0] 91 (0,0)):=by
  rw[hold.block sp (by omega),s,lj j3];rfl
 obtain⟨ms,m,O,_⟩:=y.rows;have p:∀{i:Nat}{C:Prop},i<0→C:=fun h=>absurd h (g8 _)
 have R:∀b,¬p5 0 (fun _ _=>none) b:=fun b ⟨i,hi,_⟩=>p hi
 have hW:x7 ⟨sp,0,kD,0,0,0,0,w1.heap.size,0,0,0⟩ (fun _=>undef) (fun _ _=>none) (fun _=>w2) (fun _=>#[]) (fun _ _ _=>False) w2 :=
  {hF:=⟨jV f 0,(jV f 1).trans (by rw[WI.JH rfl];rfl),(dp.1 f).1,by show(0:Nat)<_;decide⟩
   nl:=dx _
   hm:=fun i hi=>p hi
   pW:=⟨fun i i' hi=>p hi,fun i hi=>p hi⟩
   hr:=fun i hi=>p hi
   reach:=fun i hi=>p hi
   apart:=fun i hi=>p hi
   rel:=fun i hi=>p hi
   calls:=fun i hi=>p hi
   shape:=fun i hi=>p hi
   C0:=⟨_,_,O⟩
   own:=fun i hi=>p hi }
 refine EX hW (fun i hi=>p hi) (fun w3 RB rep v I S ad ae aa T ab U hsz u=>?_);have h3:∀b,b<w2.heap.size→w3.heap[b]?=w2.heap[b]?:=fun b hb=>(u b hb (R b)).2.2
 have af:=hold.size;have E:=(h3 sp (by omega)).trans f;refine EY H (RO:=fun v w'=>uG 0 X v w'∧Old w3 w') (fun w4 e3 e4=>?_) ?_ (fun v w' h=>?_)
 ·have F:w4.heap[RB]?=some (.cells rep 140 (0,0)):=by rw[e3];exact T
  refine(EZ (n:=0) (x:=fun i=>(X i).2) (sv:=fun i=>undef) F (by omega) (fun i hi=>p hi) (fun i hi=>p hi)).mono ?_;rintro e w' ⟨v,rfl,q1,q2⟩;exact⟨v,rfl,⟨_,q1⟩,Old.of q2 e3 e4⟩
 ·rintro v w' ⟨G,a⟩;have ag:w2.heap.size≤w3.heap.size:=hsz;refine k w' v ((a.block sp (by omega)).trans E) G (by have:=a.size;omega) fun b hb V=>?_
  exact(a.block b (by omega)).trans ((h3 b (by omega)).trans (N b hb V))
 ·obtain⟨⟨B,h1⟩,_⟩:=h;obtain⟨ao,cp,rfl,_⟩:=p6 h1
  cases ao<;>rfl
theorem E7(h:0≤now∧now≤1099511627776):kO (mh now t):=by
 have:=Ez (t:=t) h;unfold kO;omega
theorem E8(m:c=bc.at ac (.inRegion ops (i::l)::kk)){K:Nat→Prop}(hS:rf w sp n now au id d K)(q:n<2147483647)(hid:0≤id)(D:0≤now∧now≤1099511627776)(E:∀i,i<n→lV (d i).s∧((d i).s.st=0→(d i).v=.slice none 0 0)∧0≤(d i).p.hold∧(d i).p.hold≤65535)(L:xg w kM ins K)(hlen:ins.length≤4398046511103)(hb:∀x∈ins,Bytes x.d∧x.d.length≤1152921504606846976)(k:∀w' a d',rf w' sp n (mh now t) au id d' K→(∀i,i<n→(d' i).s=(mA au id (mh now t) d (fun i=>kU i ins) i).1∧(d' i).p.au=(d i).p.au∧(d' i).p.hold=(d i).p.hold∧((mA au id (mh now t) d (fun i=>kU i ins) i).1.st=0→(d' i).v=.slice none 0 0))→uG n (mA au id (mh now t) d (fun i=>kU i ins)) a w'→(∀b,K b→w'.heap[b]?=w.heap[b]?)→GX cs Q (c.finish a) x2 w'):GX cs Q ((base 17).at { tmps:=#[.pointer (some ⟨sp,0,none⟩),.int .i64 t,kM]++Array.replicate 19 undef,defers:=[] } [.code (Tryz.f17.body.getD .skip)]) (c::x2) w:=by
 obtain⟨ja,jb,jo,jc,rfl,u,y,hI⟩:=L;obtain⟨f,hS⟩:=hS;have z:ins≠[]→jb<w.heap.size:=fun h=>(f jb (y h)).1
 have A:ins≠[]→jb≠sp:=fun h=>(f jb (y h)).2
 rcases hS with⟨rfl,j3⟩|⟨H,xb,xc,Z,hS,e⟩
 ·refine Rg m (mA au id (mh now t) d (fun i=>kU i ins)) j3 (EA now t D) u z A hI hlen (fun w' a F G I C=>k w' a d ⟨fun b hb=>⟨by have:=(f b hb).1;omega,(f b hb).2⟩,.inl ⟨rfl,F⟩⟩ (fun i hi=>absurd hi (g8 _)) G fun b hb=>C b (f b hb).1 (f b hb).2)
 ·refine Rf m hS H q hid (EA now t D) (E7 D) E u z A hI hlen hb (fun w' a d' F G I C=>k w' a d' ⟨fun b hb=>⟨?_,(f b hb).2⟩,.inr ⟨H,xb,xc,Z,F,fun b hb=>⟨(e b hb).1,(C b (f b hb).1 (f b hb).2 (e b hb).1 (e b hb).2).2⟩⟩⟩ G I fun b hb=>(C b (f b hb).1 (f b hb).2 (e b hb).1 (e b hb).2).1);have J:=(C b (f b hb).1 (f b hb).2 (e b hb).1 (e b hb).2).1;rw[dq (f b hb).1]at J;exact(dp.1 J).1
end
end Go.Proofs.YtjnkcibpkkjniaaGreat.kj
namespace Go.Proofs.YtjnkcibpkkjniaaGreat
section
open Go Go.RowKit
def o7 (Q:Value→Prop) (w:World) (v:Value) (k:Nat):Prop:=∀g cur ty fr,v.ownBlock=some g→w.heap[g]?=some (.cells cur ty fr)→∀u∈cur.toList.drop k,Q u
theorem o7.nil(Q:Value→Prop)(w:World)(k:Nat):o7 Q w (.slice none 0 0) k:=fun g _ _ _ h=>by cases h
variable {w:World}
theorem o7.keep{Q:Value→Prop}{w':World}{v:Value}{k:Nat}(h:o7 Q w v k)(e:∀g,v.ownBlock=some g→w'.heap[g]?=w.heap[g]?):o7 Q w' v k:=fun g cur ty fr a f=>h g cur ty fr a ((e g a).symm.trans f)
theorem Rh{P:Program}(Q:Value→Prop)(base:Nat)(t ty e:TypeId)(i:TypeInfo)(z:Value)(size bytes:Nat)(J:P.underlying t=some (.slice e))(hi:P.info? e=some i)(K:i.zero=some z)(s:i.size=size)(E:i.bytes=bytes)(L:z.cells.size=size)(hsz:0<size)(v:Value)(n:Nat)(xs:List Value)(q:w.ownsRow base e size v n xs)(a:Addr)(m c:Nat)(news:List Value)(y:news.length=m*size)(h:∀j u,news[j]?=some u→w.cell? (a.add j)=some u)(U:∀u∈news,u.oneCell'=true)(A:n+m≤maxLen)(p:(n+m)*bytes≤140737488355328)(C:base≤w.heap.size)(F:∀u∈z.cells.toList,Q u)(M:o7 Q w v (n*size)):∃v' w',(Builtin.append_ #[t,t] ty #[v,.slice (some a) m c]).run P w=.ok v' w'∧w'.ownsRow base e size v' (n+m) (xs++news)∧w.grownBy w' v.ownBlock∧o7 Q w' v' ((n+m)*size)∧(v'.ownBlock=v.ownBlock∨v'.ownBlock=some w.heap.size):=by
 obtain⟨v',w',hr,V,W,X⟩:=jv (P:=P) w base t ty e i z size bytes J hi K s E L hsz v n xs q a m c news y h U A p C;refine⟨v',w',hr,V,W,?_⟩;subst s;subst E;have N:=q.1;rcases q.2 with⟨rfl,rfl⟩|⟨g,cap,cur,rfl,Y,O,aa,ab,R,S⟩
 ·by_cases hm:m=0
  ·subst hm;have:v'=.slice none 0 0:=X.2 ⟨rfl,rfl⟩;subst this;exact⟨o7.nil _ _ _,.inl rfl⟩
  ·have f:=run_append_nil (P:=P) w t ty e i z J hi K a m c news y h (by omega) (by have:=A;simp only[maxLen]at this;omega) (by have hb:=p;simp only[dB]at hb;omega);rw[hr]at f;simp only[jw]at f;obtain⟨rfl,rfl⟩:=f;refine⟨fun k cur ty fr G D u hu=>?_,.inr rfl⟩
   cases G
   have T:=(iN w.drew _).symm.trans D
   cases T
   simp only[iP]at hu;rw[List.drop_left' (by rw[dB];exact y)]at hu;exact F u (wC (by omega) hu)
 ·by_cases x:n+m≤cap
  ·have H:n*i.size+news.length≤cur.size:=by rw[y,R,←dX];exact ef _ x
   have f:=run_append_room (P:=P) w t ty e i J hi g n cap cur O a m c news y h U x H;rw[hr]at f;simp only[jw]at f;obtain⟨rfl,rfl⟩:=f;have hq:=M g cur e (0,0) rfl O;refine⟨fun k I pg fr G D u hu=>?_,.inl rfl⟩
   cases G
   rw[setRow_heap w g cur _ e _ O]at D
   cases D
   rw[List.drop_left' (by simp[iT,y,dX];omega)]at hu;rw[←List.drop_drop]at hu;exact hq u (iW hu)
  ·have holds:∀j u,xs[j]?=some u→w.cell? ((⟨g,0,none⟩:Addr).add j)=some u:=q.cells (g:=g) rfl;have f:=run_append_grow (P:=P) w t ty e i z J hi K ⟨g,0,none⟩ n cap xs q.1 holds a m c news y h (by omega) (by have:=A;simp only[maxLen]at this;omega) (growslice_fits (by omega) p);rw[hr]at f;simp only[jw]at f;obtain⟨rfl,rfl⟩:=f;refine⟨fun k I pg fr G D u hu=>?_,.inr rfl⟩
   cases G
   have T:=(iN w.drew _).symm.trans D
   cases T
   simp only[iP]at hu;rw[List.drop_left' (by simp[N,y,dX])]at hu;exact F u (wC (by omega) hu)
end
section
open Go.RowKit
structure Rl where
 p:Bool
 a:Int
 l:Int
 g:Int
 e:Int
def Rl.cells (r:Rl):List Value:=[.bool r.p,.int .u32 r.a,.int .i64 r.l,.int .i64 r.g,.int .i64 r.e]
def Sl (w:World) (size:Nat) (v:Value) (n:Nat) (c:Nat→List Value):Prop :=
 ∃ao cap,v=.slice ao n cap∧n≤cap∧cap≤maxLen ∧
  (0<n→∃b o,ao=some ⟨b,o,none⟩∧∀i<n,∀k u,(c i)[k]?=some u→w.cell? ⟨b,o+i*size+k,none⟩=some u)
def mc (w:World) (v:Value) (n:Nat) (r:Nat→Rl):Prop:=Sl w 5 v n (fun i=>(r i).cells)∧∀i<n,0≤(r i).a∧(r i).a<4294967296
structure Pr where
 au:Int
 hold:Int
 nF:Int
 nG:Int
 wait:Int
 im:Value
 ni:Nat
 ir:Nat→Rl
 ex:Value
 ne:Nat
 er:Nat→Rl
def Pr.cells (p:Pr):List Value:=[.int .i64 p.au,.int .i64 p.hold,.int .i64 p.nF,.int .i64 p.nG,.int .i64 p.wait,p.im,p.ex]
def ot (w:World) (v:Value) (n:Nat) (P:Nat→Pr):Prop :=
 Sl w 7 v n (fun i=>(P i).cells)∧∀i<n,mc w (P i).im (P i).ni (P i).ir∧mc w (P i).ex (P i).ne (P i).er
def oH (n lo hi:Int):Bool:=decide (lo≤n)&&decide (n≤hi)
variable {lo hi:Int}
theorem Ri{n:Int}(h:lo≤n)(h':n≤hi):oH n lo hi=true:=by simp[oH,h,h']
theorem Rj{n:Int}(h:¬(lo≤n∧n≤hi)):oH n lo hi=false:=by simp[oH];omega
def pN (r:Rl):Bool:=oH r.l 0 32&&decide (r.a % 2^(32-r.l.toNat)=0)&&oH r.g r.l r.e&&decide (r.e≤32)
def uI (n:Nat) (r:Nat→Rl):Bool:=(List.range n).all fun i=>pN (r i)
def vq (n:Nat) (r:Nat→Rl):Bool:=decide (n≤8)&&uI n r
def holdB (h:Int):Bool:=h == 0 || oH h 3 65535
def mY (p:Pr):Bool:=oH p.au 1 65535&&holdB p.hold&&decide (0≤p.nF)&&oH p.nG 0 2147483648&&oH p.wait 0 1000&&vq p.ni p.ir&&vq p.ne p.er
def rS (au id:Int) (n:Nat):Bool:=oH au 1 65535&&(id != 0)&&decide (n≤8)
def rh (P:Nat→Pr):Nat→Nat→Nat
 |_,0=>0
 |k,m+1=>if mY (P k) then rh P (k+1) m else k+1
def mR (au id:Int) (n:Nat) (P:Nat→Pr):Int×Int :=
 if rS au id n then(if rh P 0 n=0 then(0,0) else(1,(rh P 0 n:Nat))) else(1,0)
theorem Rk(l:Nat)(h:l≤32):(2:Int)^32=2^(32-l)*2^l:=by
 rw[←Int.pow_add];congr 1;omega
theorem Rm(a:Int)(l:Nat)(h:l≤32):(a*2^l) % 2^32=0↔a % 2^(32-l)=0:=by
 have hp:(0:Int)<2^l:=Int.pow_pos (by decide);rw[Rk l h,Int.mul_comm a,Int.mul_comm (2^(32-l)),Int.mul_emod_mul_of_pos _ _ hp];constructor
 ·intro e;rcases Int.mul_eq_zero.1 e with f|f
  ·omega
  ·exact f
 ·intro e;rw[e];simp
theorem Rn(a l:Int)(e:l≤32):a*2 ^ l.toNat % 4294967296=0↔a % 2^(32-l.toNat)=0:=Rm a l.toNat (by omega)
theorem vt(n lo hi:Int)(w:World):Calls Tryz.prog 92 #[.int .i64 n,.int .i64 lo,.int .i64 hi] w fun e w'=>e=.returned (.bool (oH n lo hi))∧w'=w:=by
 go_enter Tryz.func92,Tryz.ntmps92
 go_wp2
 all_goals go_ret
 all_goals(refine⟨?_,rfl⟩;simp[oH];try omega)
theorem E9(n:Int)(w:World):Calls Tryz.prog 90 #[.int .i64 n] w fun e w'=>e=.returned (.bool (oH n 1 65535))∧w'=w:=by
 go_enter Tryz.func90,Tryz.ntmps90
 go_wp2_with (go_at_call 92;refine(vt _ _ _ _).mono ?_;rintro e w' ⟨rfl,rfl⟩)
 go_ret;exact⟨rfl,rfl⟩
theorem Ro(n:Int)(w:World):Calls Tryz.prog 91 #[.int .i64 n] w fun e w'=>e=.returned (.bool (holdB n))∧w'=w:=by
 by_cases h:(n == 0)=true
 ·go_enter Tryz.func91,Tryz.ntmps91
  go_wp2_with (go_at_call 92;refine(vt _ _ _ _).mono ?_;rintro e w' ⟨rfl,rfl⟩)
  go_ret;exact⟨by simp[holdB,h],rfl⟩
 ·have h':(n == 0)=false:=by simpa using h
  clear h;go_enter Tryz.func91,Tryz.ntmps91
  go_wp2_with (go_at_call 92;refine(vt _ _ _ _).mono ?_;rintro e w' ⟨rfl,rfl⟩)
  go_ret;exact⟨by simp[holdB,h'],rfl⟩
theorem Rp(p:Bool)(a l g e:Int)(w:World):Calls Tryz.prog 124 #[.agg #[.bool p,.int .u32 a,.int .i64 l,.int .i64 g,.int .i64 e]] w fun s w'=>s=.returned (.bool (pN ⟨p,a,l,g,e⟩))∧Below w.heap.size w w':=by
 by_cases f:0≤l∧l≤32
 ·obtain⟨u,f⟩:=f;have hb:=Ri u f;have H:=Rn a l f;have q:Hid (_):=H;clear H;go_enter Tryz.func124,Tryz.ntmps124
  go_wp2_with (go_at_call 92;refine(vt _ _ _ _).mono ?_;rintro e w' ⟨rfl,rfl⟩)
  all_goals go_ret
  ·have k1:a*2 ^ l.toNat % 4294967296=0:=by assumption
   have k2:oH g l e=true:=by assumption
   have m:=q.out.1 k1;exact⟨by simp[pN,hb,k2,m],(iD _ _).alloc (dx _) _⟩
  ·have k1:a*2 ^ l.toNat % 4294967296=0:=by assumption
   have k2:¬oH g l e=true:=by assumption
   exact⟨by simp[pN,hb,k2],(iD _ _).alloc (dx _) _⟩
  ·have k1:¬a*2 ^ l.toNat % 4294967296=0:=by assumption
   have m:¬a % 2^(32-l.toNat)=0:=fun h=>k1 (q.out.2 h)
   exact⟨by simp[pN,hb,m],(iD _ _).alloc (dx _) _⟩
 ·have hb:=Rj f;clear f;go_enter Tryz.func124,Tryz.ntmps124
  go_wp2_with (go_at_call 92;refine(vt _ _ _ _).mono ?_;rintro e w' ⟨rfl,rfl⟩)
  all_goals go_ret
  exact⟨by simp[pN,hb],(iD _ _).alloc (dx _) _⟩
theorem Rq(p:Bool)(a l g e:Int)(w:World):Calls Tryz.prog 123 #[.agg #[.bool p,.int .u32 a,.int .i64 l,.int .i64 g,.int .i64 e]] w fun f w'=>f=.returned (.bool (!pN ⟨p,a,l,g,e⟩))∧Below w.heap.size w w':=by
 go_enter Tryz.func123,Tryz.ntmps123
 go_wp2_with (go_at_call 124;refine(Rp _ _ _ _ _ _).mono ?_;rintro e w' ⟨rfl,hb⟩)
 go_ret;exact⟨rfl,((iD _ _).alloc (dx _) _).trans (hb.mono (by simp))⟩
theorem mc.cell{w w':World}{v:Value}{n:Nat}{r:Nat→Rl}(h:mc w v n r)(hB:Below w.heap.size w w'):mc w' v n r:=by
 refine⟨?_,h.2⟩;obtain⟨ao,cap,f,m,hm,p⟩:=h.1;refine⟨ao,cap,f,m,hm,fun q=>?_⟩;obtain⟨b,o,e,a⟩:=p q;refine⟨b,o,e,fun i hi k u hu=>?_⟩;have:=a i hi k u hu;rw[hB.cell (ju _ _ this)];exact this
variable {w:World} {b o n:Nat} {r:Nat→Rl}
theorem Rr(h:∀i<n,∀k u,((r i).cells)[k]?=some u→w.cell? ⟨b,o+i*5+k,none⟩=some u)(k:Nat)(f:k<n):w.cell? ⟨b,o+k*5,none⟩=some (.bool (r k).p)∧w.cell? ⟨b,o+k*5+1,none⟩=some (.int .u32 (r k).a)∧w.cell? ⟨b,o+k*5+2,none⟩=some (.int .i64 (r k).l) ∧
   w.cell? ⟨b,o+k*5+3,none⟩=some (.int .i64 (r k).g)∧w.cell? ⟨b,o+k*5+4,none⟩=some (.int .i64 (r k).e) :=
 ⟨h k f 0 _ rfl,h k f 1 _ rfl,h k f 2 _ rfl,h k f 3 _ rfl,h k f 4 _ rfl⟩
variable {wr:World}
theorem Rs(hB:Below w.heap.size w wr)(h:∀i<n,∀k u,((r i).cells)[k]?=some u→w.cell? ⟨b,o+i*5+k,none⟩=some u)(k:Nat)(f:k<n):wr.cell? ⟨b,o+k*5,none⟩=some (.bool (r k).p)∧wr.cell? ⟨b,o+k*5+1,none⟩=some (.int .u32 (r k).a)∧wr.cell? ⟨b,o+k*5+2,none⟩=some (.int .i64 (r k).l) ∧
   wr.cell? ⟨b,o+k*5+3,none⟩=some (.int .i64 (r k).g)∧wr.cell? ⟨b,o+k*5+4,none⟩=some (.int .i64 (r k).e) :=
 Rr (fun i hi k u hu=>by have:=h i hi k u hu;rw[hB.cell (ju _ _ this)];exact this) k f
variable {k:Nat}
theorem Fa{Q:Nat→Prop}(h:∀j<k,Q j)(e:Q k):∀j<k+1,Q j:=by
 intro j f;rcases jE.1 f with a|a
 ·exact h j a
 ·exact a▸e
theorem Rt(h:∀j<n,pN (r j)=true):uI n r=true:=by
 simp only[uI,ek,fZ];exact h
theorem Ru(e:k<n)(h:pN (r k)=false):uI n r=false:=by
 rw[Bool.eq_false_iff];intro a;simp only[uI,ek,fZ]at a;rw[a k e]at h;exact absurd h (by decide)
theorem Rv(ao:Option Addr)(n cap:Nat)(r:Nat→Rl)(w:World)(h:mc w (.slice ao n cap) n r):Calls Tryz.prog 150 #[.slice ao n cap,.func (.func 123) #[] #[]] w fun e w' =>
   ∃k:Int,e=.returned (.int .i64 k)∧decide (0≤k)=!uI n r∧Below w.heap.size w w':=by
 obtain⟨⟨u,p,A,E,C,a⟩,_⟩:=h;obtain⟨rfl,_,rfl⟩:ao=u∧n=n∧cap=p:=by simpa using A
 unfold maxLen at C;clear A;go_enter Tryz.func150,Tryz.ntmps150
 go_wp2_with fail
 go_loopw [8] (fun i wr=>∃k:Nat,k≤n∧i=.int .i64 k∧(∀j<k,pN (r j)=true)∧Below w.heap.size w wr) (fun i _=>n-(intOf i).toNat)
 case atStart=>exact⟨0,eI _,rfl,fun j F=>by omega,iD _ _⟩
 case round =>
  obtain⟨k,G,rfl,f,hB⟩:=hrel
  by_cases q:k<n
  ·obtain⟨b,o,x,s⟩:=a (by omega);subst x;obtain⟨c0,c1,c2,c3,c4⟩:=Rs hB s k q;clear s a;have m:Hid (_):=f;clear f
   go_wp2_with (go_at_call 123;refine(Rq _ _ _ _ _ _).mono ?_;rintro e w' ⟨rfl,hb⟩)
   ·go_ret;have y:(!pN (r k))=true:=by assumption
    have D:pN (r k)=false:=by simpa using y
    exact⟨k,rfl,by rw[Ru q D];simp,hB.trans (hb.mono hB.size)⟩
   ·have y:(!pN (r k))=false:=by assumption
    have z:pN (r k)=true:=by simpa using y
    go_roundw
    case rel=>exact⟨k+1,by omega,by go_num,Fa m.out z,hB.trans (hb.mono hB.size)⟩
    case measure=>simp[intOf];omega
  ·have:k=n:=by omega
   subst this;have z:=Rt f
   go_wp2
   go_ret;exact⟨-1,rfl,by rw[z];simp,hB⟩
theorem Rw(ao:Option Addr)(n cap:Nat)(r:Nat→Rl)(w:World)(h:mc w (.slice ao n cap) n r):Calls Tryz.prog 122 #[.slice ao n cap,.func (.func 123) #[] #[]] w fun e w' =>
   e=.returned (.bool (!uI n r))∧Below w.heap.size w w':=by
 go_enter Tryz.func122,Tryz.ntmps122;have H:Hid (_):=h;clear h
 go_wp2_with fail
 refine(Rv _ _ _ r _ H.out).mono ?_;rintro e w' ⟨k,rfl,a,hB⟩;have f:Hid (_):=a;clear a
 go_wp2
 go_ret;exact⟨by rw[←f.out];rfl,hB⟩
theorem Fb(ao:Option Addr)(n cap:Nat)(r:Nat→Rl)(w:World)(h:mc w (.slice ao n cap) n r):Calls Tryz.prog 93 #[.slice ao n cap] w fun e w'=>e=.returned (.bool (vq n r))∧Below w.heap.size w w':=by
 have H:Hid (_):=h;have f:n≤9223372036854775807:=by obtain⟨⟨q,m,s,u,f,a⟩,_⟩:=h;unfold maxLen at f;omega
 clear h
 by_cases p:n≤8
 ·go_enter Tryz.func93,Tryz.ntmps93
  go_wp2_with fail
  refine(Rw _ _ _ r _ H.out).mono ?_;rintro e w' ⟨rfl,hB⟩
  go_wp2
  go_ret;exact⟨by simp[vq,p],hB⟩
 ·go_enter Tryz.func93,Tryz.ntmps93
  go_wp2_with fail
  go_ret;exact⟨by simp[vq,p],iD _ _⟩
theorem Rx(au hold nF nG wait:Int)(f a:Option Addr)(ni ci ne ce:Nat)(ir er:Nat→Rl)(w:World)(hi:mc w (.slice f ni ci) ni ir)(he:mc w (.slice a ne ce) ne er):Calls Tryz.prog 65 #[.agg #[.int .i64 au,.int .i64 hold,.int .i64 nF,.int .i64 nG,.int .i64 wait,.slice f ni ci,.slice a ne ce]] w fun e w' =>
   e=.returned (.bool (mY ⟨au,hold,nF,nG,wait,.slice f ni ci,ni,ir,.slice a ne ce,ne,er⟩))∧Below w.heap.size w w':=by
 have m:Hid (mc w (.slice f ni ci) ni ir):=hi;have q:Hid (mc w (.slice a ne ce) ne er):=he;clear hi he;go_enter Tryz.func65,Tryz.ntmps65
 go_wp2_with (first|(go_at_call 90;refine(E9 _ _).mono ?_;rintro e w' ⟨rfl,rfl⟩)|(go_at_call 91;refine(Ro _ _).mono ?_;rintro e w' ⟨rfl,rfl⟩)|(go_at_call 92;refine(vt _ _ _ _).mono ?_;rintro e w' ⟨rfl,rfl⟩)|fail)
 case isTrue =>
  refine(Fb _ _ _ ir _ (m.out.cell ((iD _ _).alloc (dx _) _))).mono ?_;rintro e w1 ⟨rfl,hB⟩;have s:w1.cell? ⟨w.heap.size,6,none⟩=some (.slice a ne ce):=(hB.cell (p:=⟨w.heap.size,6,none⟩) (by simp)).trans (jF _ _ _ _)
  go_wp2_with fail
  ·refine(Fb _ _ _ er _ (q.out.cell (((iD _ _).alloc (dx _) _).trans (hB.mono (by simp))))).mono ?_;rintro e w2 ⟨rfl,h⟩
   go_wp2_with fail
   go_ret;exact⟨by simp[mY, *],((iD _ _).alloc (dx _) _).trans ((hB.mono (by simp)).trans (h.mono (by have:=hB.size;simp at this;omega)))⟩
  ·go_ret;exact⟨by simp[mY, *],((iD _ _).alloc (dx _) _).trans (hB.mono (by simp))⟩
 all_goals go_ret
 all_goals exact⟨by simp[mY, *]<;>intros<;>omega,(iD _ _).alloc (dx _) _⟩
theorem Ry(au id nh:Int)(ao:Option Addr)(n cap:Nat)(w:World)(a:n≤9223372036854775807):Calls Tryz.prog 64 #[.agg #[.int .i64 au,.int .u32 id,.int .u32 nh,.slice ao n cap]] w fun e w' =>
   e=.returned (.bool (rS au id n))∧Below w.heap.size w w':=by
 go_enter Tryz.func64,Tryz.ntmps64
 go_wp2_with (go_at_call 90;refine(E9 _ _).mono ?_;rintro e w' ⟨rfl,rfl⟩)
 all_goals go_ret
 all_goals(refine⟨?_,(iD _ _).alloc (dx _) _⟩)
 all_goals(have hd:decide ((n:Int)≤8)=decide (n≤8):=by rw[Bool.eq_iff_iff];simp only[decide_eq_true_iff];omega)
 all_goals simp[rS, *]
theorem ot.cell{w w':World}{v:Value}{n:Nat}{P:Nat→Pr}(h:ot w v n P)(hB:Below w.heap.size w w'):ot w' v n P:=by
 obtain⟨⟨ao,cap,m,p,hm,q⟩,f⟩:=h;refine⟨⟨ao,cap,m,p,hm,fun s=>?_⟩,fun i hi=>⟨(f i hi).1.cell hB,(f i hi).2.cell hB⟩⟩;obtain⟨b,o,e,a⟩:=q s;refine⟨b,o,e,fun i hi k u hu=>?_⟩;have:=a i hi k u hu;rw[hB.cell (ju _ _ this)];exact this
variable {P:Nat→Pr}
theorem Rz(hB:Below w.heap.size w wr)(h:∀i<n,∀k u,((P i).cells)[k]?=some u→w.cell? ⟨b,o+i*7+k,none⟩=some u)(k:Nat)(e:k<n):wr.cell? ⟨b,o+k*7,none⟩=some (.int .i64 (P k).au)∧wr.cell? ⟨b,o+k*7+1,none⟩=some (.int .i64 (P k).hold)∧wr.cell? ⟨b,o+k*7+2,none⟩=some (.int .i64 (P k).nF) ∧
   wr.cell? ⟨b,o+k*7+3,none⟩=some (.int .i64 (P k).nG)∧wr.cell? ⟨b,o+k*7+4,none⟩=some (.int .i64 (P k).wait)∧wr.cell? ⟨b,o+k*7+5,none⟩=some (P k).im ∧
   wr.cell? ⟨b,o+k*7+6,none⟩=some (P k).ex:=by
 have a:∀j u,((P k).cells)[j]?=some u→wr.cell? ⟨b,o+k*7+j,none⟩=some u:=fun j u hu=>by
  have:=h k e j u hu;rw[hB.cell (ju _ _ this)];exact this
 exact⟨a 0 _ rfl,a 1 _ rfl,a 2 _ rfl,a 3 _ rfl,a 4 _ rfl,a 5 _ rfl,a 6 _ rfl⟩
theorem mc.isSlice{v:Value}(h:mc w v n r):∃ao cap,v=.slice ao n cap:=by
 obtain⟨⟨ao,cap,a,_⟩,_⟩:=h;exact⟨ao,cap,a⟩
theorem RA:∀(m k:Nat),(∀j,k≤j→j<k+m→mY (P j)=true)→rh P k m=0:=by
 intro m
 induction m with
 |zero=>intro k _;rfl
 |succ m a=>intro k h;simp only[rh,h k (by omega) (by omega),dg];exact a (k+1) (fun j e f=>h j (by omega) (by omega))
theorem AZ:∀(m k d:Nat),d<m→(∀j,k≤j→j<k+d→mY (P j)=true)→mY (P (k+d))=false→rh P k m=k+d+1:=by
 intro m
 induction m with
 |zero=>intro k d h;omega
 |succ m e =>
  intro k d hd h a
  cases d with
  |zero=>simp only[gN]at a;simp[rh,a]
  |succ d =>
   simp only[rh,h k (by omega) (by omega),dg];rw[e (k+1) d (by omega) (fun j f p=>h j (by omega) (by omega)) (by rw[←a];congr 2;omega)];omega
theorem RD(au id nh:Int)(ao:Option Addr)(n cap:Nat)(P:Nat→Pr)(w:World)(h:ot w (.slice ao n cap) n P):Calls Tryz.prog 39 #[.agg #[.int .i64 au,.int .u32 id,.int .u32 nh,.slice ao n cap]] w fun e w' =>
   e=.returned (.agg #[.int .i64 (mR au id n P).1,.int .i64 (mR au id n P).2])∧Below w.heap.size w w':=by
 have hc:n≤9223372036854775807:=by obtain⟨⟨I,z,hv,hn,hc,f⟩,_⟩:=h;unfold maxLen at hc;omega
 have H:Hid (ot w (.slice ao n cap) n P):=h;clear h;go_enter Tryz.func39,Tryz.ntmps39
 go_wp2_with fail
 refine(Ry _ _ _ _ _ _ _ hc).mono ?_;rintro e w1 ⟨rfl,hB⟩;have J:w1.cell? ⟨w.heap.size+1,0,none⟩=some (.int .i64 0):=(hB.cell (p:=⟨w.heap.size+1,0,none⟩) (by simp)).trans ((jG _ _ _ _ (by simp)).trans rfl);have K:w1.cell? ⟨w.heap.size+1,1,none⟩=some (.int .i64 0):=(hB.cell (p:=⟨w.heap.size+1,1,none⟩) (by simp)).trans ((jG _ _ _ _ (by simp)).trans rfl);have aa:w1.cell? ⟨w.heap.size,3,none⟩=some (.slice ao n cap):=(hB.cell (p:=⟨w.heap.size,3,none⟩) (by simp only[iI];omega)).trans ((jH _ _ _ (by simp)).trans (jF _ _ _ _));have L:w1.frozen? ⟨w.heap.size+1,0,none⟩=false:=(hB.frozen (p:=⟨w.heap.size+1,0,none⟩) (by simp)).trans (World.frozen?_alloc_at _ _ _ _ (by simp));have M:w1.frozen? ⟨w.heap.size+1,1,none⟩=false:=(hB.frozen (p:=⟨w.heap.size+1,1,none⟩) (by simp)).trans (World.frozen?_alloc_at _ _ _ _ (by simp));have N:w.heap.size+1<w1.heap.size:=by have:=hB.size;simp only[iI]at this;omega
 have C:Below w.heap.size w w1:=(((iD _ _).alloc (dx _) _).alloc (by simp) _).trans (hB.mono (by simp only[iI];omega));clear hB
 cases hs:rS au id n
 ·have Hs:Hid (rS au id n=false):=hs;clear hs
  go_wp2_with fail
  exact iZ (v:=.agg #[.int .i64 1,.int .i64 0]) (by simp[results,Tryz.results39,go_sem, *]) rfl ⟨by simp[mR,Hs.out],(C.setCell (by simp) _).setCell (by simp) _⟩
 ·have Hs:Hid (rS au id n=true):=hs;clear hs
  go_wp2_with fail
  have hB:=C;clear C
  go_loopw [12] (fun i wr=>∃k:Nat,k≤n∧i=.int .i64 k∧(∀j<k,mY (P j)=true)∧Below w1.heap.size w1 wr) (fun i _=>n-(intOf i).toNat)
  case atStart=>exact⟨0,eI _,rfl,fun j hj=>by omega,iD _ _⟩
  case round =>
   obtain⟨k,hk,rfl,A,a⟩:=hrel;have O:=(a.cell (p:=⟨w.heap.size+1,0,none⟩) N).trans J;have R:=(a.cell (p:=⟨w.heap.size+1,1,none⟩) N).trans K;have S:=(a.frozen (p:=⟨w.heap.size+1,0,none⟩) N).trans L;have T:=(a.frozen (p:=⟨w.heap.size+1,1,none⟩) N).trans M;have s:w.heap.size+1<wr.heap.size:=dA N a.size;have q:Hid (∀j<k,mY (P j)=true):=A;have D:Below w.heap.size w wr:=hB.trans (a.mono (by omega));clear A J K L M aa
   by_cases E:k<n
   ·obtain⟨⟨I,z,hv,ag,_,f⟩,U⟩:=H.out.cell D;obtain⟨rfl,_,rfl⟩:ao=I∧n=n∧cap=z:=by simpa using hv
    obtain⟨b,o,ab,V⟩:=f (by omega);subst ab;obtain⟨c0,c1,c2,c3,c4,c5,c6⟩:=Rz (iD _ _) V k E;obtain⟨u,x⟩:=U k E;obtain⟨ai,ci,ei⟩:=u.isSlice;obtain⟨ae,ce,ee⟩:=x.isSlice;rw[ei]at u c5;rw[ee]at x c6;have W:Hid (mc wr (.slice ai (P k).ni ci) (P k).ni (P k).ir):=u;have X:Hid (mc wr (.slice ae (P k).ne ce) (P k).ne (P k).er):=x;have Hp:Hid (mY ⟨(P k).au,(P k).hold,(P k).nF,(P k).nG,(P k).wait,.slice ai (P k).ni ci,(P k).ni,(P k).ir,.slice ae (P k).ne ce,(P k).ne,(P k).er⟩=mY (P k)):=rfl;clear V f hv u x U ei ee
    go_wp2_with fail
    refine(Rx _ _ _ _ _ _ _ _ _ _ _ _ _ _ (W.out.cell ((iD _ _).alloc (dx _) _)) (X.out.cell ((iD _ _).alloc (dx _) _))).mono ?_;rintro e w2 ⟨rfl,Y⟩;rw[Hp.out];have m:Below wr.heap.size wr w2:=((iD _ _).alloc (dx _) _).trans (Y.mono (by simp only[iI];omega));clear Y W X Hp c0 c1 c2 c3 c4 c5 c6;have ah:=(m.cell (p:=⟨w.heap.size+1,0,none⟩) s).trans O;have aj:=(m.cell (p:=⟨w.heap.size+1,1,none⟩) s).trans R;have ak:=(m.frozen (p:=⟨w.heap.size+1,0,none⟩) s).trans S;have al:=(m.frozen (p:=⟨w.heap.size+1,1,none⟩) s).trans T;have ad:Below w.heap.size w w2:=D.trans (m.mono (by omega));clear O R S T
    cases y:mY (P k)
    ·have F:Hid (mY (P k)=false):=y;clear y
     go_wp2_with fail
     have G:=AZ n 0 k E (fun j _ h2=>q.out j (by omega)) (by rw[dB];exact F.out);refine iZ (v:=.agg #[.int .i64 1,.int .i64 (k+1)]) (by simp[results,Tryz.results39,go_sem, *]) rfl ⟨?_,(ad.setCell (by simp) _).setCell (by simp) _⟩;simp only[mR,Hs.out,dg,G];rw[dk (by omega)];simp
    ·have F:Hid (mY (P k)=true):=y;clear y
     go_wp2_with fail
     go_roundw
     case rel=>exact⟨k+1,by omega,by go_num,Fa q.out F.out,a.trans (m.mono a.size)⟩
     case measure=>simp[intOf];omega
   ·have af:k=n:=by omega
    subst af
    go_wp2_with fail
    have G:=RA k 0 (fun j _ h2=>q.out j (by omega));exact iZ (v:=.agg #[.int .i64 0,.int .i64 0]) (by simp[results,Tryz.results39,go_sem, *]) rfl ⟨by simp[mR,Hs.out,G],(D.setCell (by simp) _).setCell (by simp) _⟩
end
section
open Go Go.RowKit
open Go.Proofs.YtjnkcibpkkjniaaGreat.j7 (lO)
def RE:Array Value:=#[.bool true,.int .u32 0,.int .i64 0,.int .i64 0,.int .i64 32]
def o9 (w:World) (g:Nat):Prop:=w.heap[g]?=some (.cells RE 162 (0,0))
variable {w w':World} {g:Nat}
theorem o9.keep(h:o9 w g)(e:w'.heap[g]?=w.heap[g]?):o9 w' g:=e.trans h
theorem o9.lt{w:World}{g:Nat}(h:o9 w g):g<w.heap.size:=(dp.1 h).1
theorem o9.below(h:o9 w g)(hB:Below w.heap.size w w'):o9 w' g:=h.keep (hB.block g h.lt)
theorem Fc(w:World):Calls Tryz.prog 57 #[] w fun e w'=>∃g,e=.returned (.slice (some ⟨g,0,none⟩) 1 1)∧w.heap.size≤g∧o9 w' g∧Below w.heap.size w w':=by
 go_enter Tryz.func57,Tryz.ntmps57
 go_wp2_with fail
 exact iZ (v:=.slice (some ⟨w.heap.size,0,none⟩) 1 1) (by simp[results,Tryz.results57,go_sem]) rfl ⟨_,rfl,dx _,jl w _,by(repeat(first|exact iD _ _|refine iG ?_|refine iH ?_ (by first|omega|(simp only[iI,iJ,iK];omega)|simp) _|refine iL ?_ (by first|omega|simp) _|assumption))⟩
theorem RF:∃i z,uD 69 i z 7 88:=yn (by kernel_rfl)
def tK (au hold nF nG wait:Int) (im ex:Value):List Value:=[.int .i64 au,.int .i64 hold,.int .i64 nF,.int .i64 nG,.int .i64 wait,im,ex]
end
section
open Go Go.RowKit
open Go.Proofs.YtjnkcibpkkjniaaGreat.kj (kH lf nO)
open Go.Proofs.YtjnkcibpkkjniaaGreat.j7 (lO)
structure oI (w:World) (B q qc g1 g2:Nat) (hd lm wt:Int):Prop where
 row:∃cur,w.heap[q]?=some (.cells cur 69 (0,0))∧∀(j:Nat)(u:Value),(tK 100 hd lm 100 wt (.slice (some ⟨g1,0,none⟩) 1 1) (.slice (some ⟨g2,0,none⟩) 1 1))[j]?=some u→cur[j]?=some u
 r1:o9 w g1
 r2:o9 w g2
 b0:B≤q
 b1:B≤g1
 b2:B≤g2
 c1:1≤qc
 c2:qc≤maxLen
theorem oI.cell{w:World}{B q qc g1 g2:Nat}{hd lm wt:Int}(h:oI w B q qc g1 g2 hd lm wt)(j:Nat)(u:Value)(hu:(tK 100 hd lm 100 wt (.slice (some ⟨g1,0,none⟩) 1 1) (.slice (some ⟨g2,0,none⟩) 1 1))[j]?=some u):w.cell? ⟨q,j,none⟩=some u:=by
 obtain⟨cur,a,e⟩:=h.row;rw[jI _ _ _ _ _ _ a];exact e j u hu
theorem oI.keep{w w':World}{B q qc g1 g2:Nat}{hd lm wt:Int}(h:oI w B q qc g1 g2 hd lm wt)(k:∀b,B≤b→b<w.heap.size→w'.heap[b]?=w.heap[b]?):oI w' B q qc g1 g2 hd lm wt:=by
 obtain⟨cur,a,e⟩:=h.row;exact⟨⟨cur,(k q h.b0 (dp.1 a).1).trans a,e⟩,h.r1.keep (k _ h.b1 h.r1.lt),h.r2.keep (k _ h.b2 h.r2.lt),h.b0,h.b1,h.b2,h.c1,h.c2⟩
variable {B:Nat} {hd lm wt:Int}
theorem oI.below{w w':World}{q qc g1 g2:Nat}(h:oI w B q qc g1 g2 hd lm wt)(hB:Below w.heap.size w w'):oI w' B q qc g1 g2 hd lm wt:=h.keep fun b _ hb=>hB.block b hb
def nS (cb B:Nat) (hd lm wt:Int):Nat→Value→World→Prop
 |0,v,_=>v=.pointer (some ⟨cb,3,none⟩)
 |1,v,_=>v=.slice none 0 0
 |2,v,_=>v=.int .i64 0
 |3,v,_=>v=.int .i64 100
 |4,v,_=>v=.int .i64 hd
 |5,v,_=>v=.int .i64 lm
 |6,v,_=>v=.int .i64 wt
 |7,v,w=>∃g,v=.slice (some ⟨g,0,none⟩) 1 1∧B≤g∧o9 w g
 |8,v,w=>∃g,v=.slice (some ⟨g,0,none⟩) 1 1∧B≤g∧o9 w g
 |9,v,w=>∃g1 g2,v=.agg (tK 100 hd lm 100 wt (.slice (some ⟨g1,0,none⟩) 1 1) (.slice (some ⟨g2,0,none⟩) 1 1)).toArray∧B≤g1∧B≤g2∧o9 w g1∧o9 w g2
 |10,v,w=>∃q qc g1 g2,v=.slice (some ⟨q,0,none⟩) 1 qc∧oI w B q qc g1 g2 hd lm wt
 |11,v,w=>∃q qc g1 g2,v=.slice (some ⟨q,0,none⟩) 1 qc∧oI w B q qc g1 g2 hd lm wt
 |12,v,_=>v=.pointer (some ⟨cb,3,none⟩)
 |_,_,_=>True
variable {cb:Nat}
theorem RG(w w':World)(i:Nat)(u:Value)(hB:Below w.heap.size w w')(h:nS cb B hd lm wt i u w):nS cb B hd lm wt i u w':=by
 unfold nS at h ⊢;split at h
 ·exact h
 ·exact h
 ·exact h
 ·exact h
 ·exact h
 ·exact h
 ·exact h
 ·obtain⟨g,a,e,f⟩:=h;exact⟨g,a,e,f.below hB⟩
 ·obtain⟨g,a,e,f⟩:=h;exact⟨g,a,e,f.below hB⟩
 ·obtain⟨g1,g2,a,e,f,m,p⟩:=h;exact⟨g1,g2,a,e,f,m.below hB,p.below hB⟩
 ·obtain⟨q,qc,g1,g2,a,e⟩:=h;exact⟨q,qc,g1,g2,a,e.below hB⟩
 ·obtain⟨q,qc,g1,g2,a,e⟩:=h;exact⟨q,qc,g1,g2,a,e.below hB⟩
 ·exact h
 ·trivial
noncomputable def rT:Array Oper:=((Tryz.f29.body).bind (opsOf 5)).getD #[]
theorem RH:lf rT=true:=by kernel_rfl
theorem RI:rT.size=14:=by kernel_rfl
variable {Q:Exit→Act→World→Prop} {w0:World}
theorem RJ(S:B≤w0.heap.size)(E:cb<w0.heap.size)(c3:w0.cell? ⟨cb,3,none⟩=some (.slice none 0 0))(i:Nat)(o:Oper)(a:Act)(w:World)(hi:i<13)(F:rT[i]?=some o)(f1:a.tmps[1]?=some (.int .i64 hd))(f2:a.tmps[2]?=some (.int .i64 lm))(f3:a.tmps[3]?=some (.int .i64 wt))(f9:a.tmps[9]?=some (.pointer (some ⟨cb,0,none⟩)))(f10:a.tmps[10]?=some (.int .i64 0))(f:∀(j:Nat)(o':Oper)(d:Nat),rT[j]?=some o'→o'.dst=some d→(∃e∈o.after,e.on=j∧Region.binds .any e=true)→∃v,a.tmps[d]?=some v∧nS cb B hd lm wt j v w)(G:Below w0.heap.size w0 w)(K:Act→World→Prop)(m:∀v w',nS cb B hd lm wt i v w'→Below w.heap.size w w'→K (a.put o.dst v) w'):o.wp Tryz.prog a w K Q:=by
 have e0:=(G.cell (p:=⟨cb,3,none⟩) E).trans c3;have hsz:=G.size;clear c3;obtain rfl|rfl|rfl|rfl|rfl|rfl|rfl|rfl|rfl|rfl|rfl|rfl|rfl:i=0∨i=1∨i=2∨i=3∨i=4∨i=5∨i=6∨i=7∨i=8∨i=9∨i=10∨i=11∨i=12:=by omega
 all_goals
  simp only[rT,Tryz.f29,opsOf,dW]at F;simp[]at F;subst F
 ·unfold Oper.wp execOp;simp only[Act.eval,du,f9,ez];go_simp;exact m _ _ rfl (iD _ _)
 ·obtain⟨D,s,h⟩:=f 0 _ _ rfl rfl ⟨⟨0,.data⟩,by simp,rfl,rfl⟩;simp only[nS]at h
  try subst h
  unfold Oper.wp execOp;simp only[Act.eval,du,s,ez];go_simp;exact m _ _ rfl (iD _ _)
 ·unfold Oper.wp execOp;simp only[Act.eval,du,f10,ez];go_simp;exact m _ _ rfl (iD _ _)
 ·obtain⟨D,s,h⟩:=f 2 _ _ rfl rfl ⟨⟨2,.data⟩,by simp,rfl,rfl⟩;simp only[nS]at h
  try subst h
  unfold Oper.wp execOp;simp only[Act.eval,du,s,ez];go_simp;exact m _ _ rfl (iD _ _)
 ·unfold Oper.wp execOp;simp only[Act.eval,du,f1,ez];go_simp;exact m _ _ rfl (iD _ _)
 ·unfold Oper.wp execOp;simp only[Act.eval,du,f2,ez];go_simp;exact m _ _ rfl (iD _ _)
 ·unfold Oper.wp execOp;simp only[Act.eval,du,f3,ez];go_simp;exact m _ _ rfl (iD _ _)
 ·unfold Oper.wp execOp;go_simp;refine(Fc w).mono ?_;rintro e w1 ⟨g,rfl,T,x,hB⟩;exact m _ _ ⟨g,rfl,by omega,x⟩ hB
 ·unfold Oper.wp execOp;go_simp;refine(Fc w).mono ?_;rintro e w1 ⟨g,rfl,T,x,hB⟩;exact m _ _ ⟨g,rfl,by omega,x⟩ hB
 ·obtain⟨D,s,h⟩:=f 3 _ _ rfl rfl ⟨⟨3,.data⟩,by simp,rfl,rfl⟩;simp only[nS]at h
  try subst h
  obtain⟨U,R,y⟩:=f 4 _ _ rfl rfl ⟨⟨4,.data⟩,by simp,rfl,rfl⟩;simp only[nS]at y
  try subst y
  obtain⟨u2,h2,p2⟩:=f 5 _ _ rfl rfl ⟨⟨5,.data⟩,by simp,rfl,rfl⟩;simp only[nS]at p2
  try subst p2
  obtain⟨u3,h3,p3⟩:=f 6 _ _ rfl rfl ⟨⟨6,.data⟩,by simp,rfl,rfl⟩;simp only[nS]at p3
  try subst p3
  obtain⟨u4,h4,p4⟩:=f 7 _ _ rfl rfl ⟨⟨7,.data⟩,by simp,rfl,rfl⟩;simp only[nS]at p4
  try subst p4
  obtain⟨u5,h5,H⟩:=f 8 _ _ rfl rfl ⟨⟨8,.data⟩,by simp,rfl,rfl⟩;simp only[nS]at H
  try subst H
  obtain⟨g1,rfl,I,r1⟩:=p4;obtain⟨g2,rfl,J,r2⟩:=H;unfold Oper.wp execOp;simp only[Act.eval,du];go_simp;exact m _ _ ⟨g1,g2,rfl,I,J,r1,r2⟩ (iD _ _)
 ·obtain⟨D,s,h⟩:=f 9 _ _ rfl rfl ⟨⟨9,.data⟩,by simp,rfl,rfl⟩;simp only[nS]at h
  try subst h
  obtain⟨g1,g2,rfl,I,J,r1,r2⟩:=h;simp only[tK]at s;unfold Oper.wp execOp;simp only[Act.eval,du];go_simp;have hB:Below w.heap.size w (w.alloc (.cells #[.int .i64 100,.int .i64 hd,.int .i64 lm,.int .i64 100,.int .i64 wt,.slice (some ⟨g1,0,none⟩) 1 1,.slice (some ⟨g2,0,none⟩) 1 1] 69)):=(iD _ _).alloc (dx _) _;exact m _ _ ⟨w.heap.size,1,g1,g2,rfl,⟨⟨_,jl w _,fun j u hu=>by simpa[tK]using hu⟩,r1.below hB,r2.below hB,by omega,I,J,dx _,by decide⟩⟩ hB
 ·obtain⟨D,s,h⟩:=f 1 _ _ rfl rfl ⟨⟨1,.data⟩,by simp,rfl,rfl⟩;simp only[nS]at h
  try subst h
  obtain⟨U,R,y⟩:=f 10 _ _ rfl rfl ⟨⟨10,.data⟩,by simp,rfl,rfl⟩;simp only[nS]at y
  try subst y
  obtain⟨q,qc,g1,g2,rfl,x⟩:=y;obtain⟨i2,z2,z⟩:=RF;have L:∀(j:Nat)(u:Value),(tK 100 hd lm 100 wt (.slice (some ⟨g1,0,none⟩) 1 1) (.slice (some ⟨g2,0,none⟩) 1 1))[j]?=some u→w.cell? ((⟨q,0,none⟩:Addr).add j)=some u:=fun j u hu=>by
   rw[show(⟨q,0,none⟩:Addr).add j=⟨q,j,none⟩ from by simp[iS]];exact x.cell j u hu
  obtain⟨v',w',A,k1,k2,_⟩:=jv (P:=Tryz.prog) w B 23 23 69 i2 z2 7 88 Tryz.underlying23 z.info z.zero z.size z.bytes z.cells (by decide) (.slice none 0 0) 0 [] (iR _ _ _ _) ⟨q,0,none⟩ 1 qc (tK 100 hd lm 100 wt (.slice (some ⟨g1,0,none⟩) 1 1) (.slice (some ⟨g2,0,none⟩) 1 1)) rfl L (by intro u hu;simp[tK]at hu;rcases hu with rfl|rfl|rfl|rfl|rfl|rfl|rfl<;>rfl) (by unfold maxLen;omega) (by omega) (by have:=G.size;omega);have hB:Below w.heap.size w w':=(iD _ _).grown k2 (dx _) (fun j V=>by cases V);have M:a.eval (.tmp 18)=.slice none 0 0:=by simp[Act.eval,du,s]
  have N:a.eval (.tmp 27)=.slice (some ⟨q,0,none⟩) 1 qc:=by simp[Act.eval,du,R]
  unfold Oper.wp;simp[execOp,resolve,invoke,builtin,M,N,A,Result.andThen];rw[dB]at k1;have O:=k1;obtain⟨_,O⟩:=O;rcases O with⟨_,s⟩|⟨g',c',C,rfl,W,m2,X,Y,m5,m6⟩
  ·cases s
  ·refine m _ _ ⟨g',c',g1,g2,rfl,⟨⟨C,m2,fun j u hu=>?_⟩,x.r1.below hB,x.r2.below hB,W,x.b1,x.b2,X,Y⟩⟩ hB;have:=k1.cells (g:=g') rfl j u (by simpa using hu);rw[show(⟨g',0,none⟩:Addr).add j=⟨g',j,none⟩ from by simp[iS]]at this;simpa[jI _ _ _ _ _ _ m2]using this
 ·unfold Oper.wp execOp;simp only[Act.eval,du,f9,ez];go_simp;exact m _ _ rfl (iD _ _)
theorem RL(h:cb<w0.heap.size)(c3:w0.cell? ⟨cb,3,none⟩=some (.slice none 0 0))(x:w0.frozen? ⟨cb,3,none⟩=false)(o:Oper)(a:Act)(w:World)(m:rT[13]?=some o)(f:∀(j:Nat)(o':Oper)(d:Nat),rT[j]?=some o'→o'.dst=some d→(∃e∈o.after,e.on=j∧Region.binds .any e=true)→∃v,a.tmps[d]?=some v∧nS cb B hd lm wt j v w)(s:Below w0.heap.size w0 w)(K:Act→World→Prop)(z:∀v w' w2 q qc g1 g2,Below w0.heap.size w0 w2→w'=w2.setCell ⟨cb,3,none⟩ (.slice (some ⟨q,0,none⟩) 1 qc)→oI w2 B q qc g1 g2 hd lm wt→K (a.put o.dst v) w'):o.wp Tryz.prog a w K Q:=by
 have E:=(s.cell (p:=⟨cb,3,none⟩) h).trans c3;have F:=(s.frozen (p:=⟨cb,3,none⟩) h).trans x;clear c3 x;simp only[rT,Tryz.f29,opsOf,dW]at m;simp[]at m;subst m;obtain⟨G,A,y⟩:=f 12 _ _ rfl rfl ⟨⟨12,.data⟩,by simp,rfl,rfl⟩;simp only[nS]at y
 try subst y
 obtain⟨H,C,u⟩:=f 11 _ _ rfl rfl ⟨⟨11,.data⟩,by simp,rfl,rfl⟩;simp only[nS]at u
 try subst u
 obtain⟨q,qc,g1,g2,rfl,D⟩:=u;unfold Oper.wp execOp;simp only[Act.eval,du,A,C,ez];go_simp;exact z undef _ w q qc g1 g2 s rfl D
theorem RM{C:Array Value}(h:C.size=31):∃c0 c1 c2 c3 c4 L M N O R a e f kJ m p q s u x y z A D E F G H I J K,C=#[c0,c1,c2,c3,c4,L,M,N,O,R,a,e,f,kJ,m,p,q,s,u,x,y,z,A,D,E,F,G,H,I,J,K]:=by
 obtain⟨l⟩:=C
 match l,h with
 |c0::c1::c2::c3::c4::L::M::N::O::R::a::e::f::kJ::m::p::q::s::u::x::y::z::A::D::E::F::G::H::I::J::K::[],_=>exact⟨_,_,_,_,_,_,_,_,_,_,_,_,_,_,_,_,_,_,_,_,_,_,_,_,_,_,_,_,_,_,_,rfl⟩
theorem RN:kH rT [0,1,2,3,8,9,10] 31=true:=by kernel_rfl
theorem RP(w:World)(hd lm wt:Int):Calls Tryz.prog 29 #[.int .i64 1,.int .i64 hd,.int .i64 lm,.int .i64 wt] w fun e w'=>∃q qc g1 g2,e=.returned (.agg #[.int .i64 65000,.int .u32 200,.int .u32 168430090,.slice (some ⟨q,0,none⟩) 1 qc])∧oI w' w.heap.size q qc g1 g2 hd lm wt∧Below w.heap.size w w':=by
 go_enter Tryz.func29,Tryz.ntmps29
 go_wp2_with fail
 refine wp_loop_rounds 2 ?_;rw[rounds_succ]
 go_wp2_with fail
 have A:((w.alloc (.cells #[.int .i64 0,.int .u32 0,.int .u32 0,.slice none 0 0] 25)).alloc (.cells #[.int .i64 65000,.int .u32 200,.int .u32 168430090,.slice none 0 0] 25)).heap[w.heap.size+1]?=some (.cells #[.int .i64 65000,.int .u32 200,.int .u32 168430090,.slice none 0 0] 25 (0,0)):=by
  have:=jl (w.alloc (.cells #[.int .i64 0,.int .u32 0,.int .u32 0,.slice none 0 0] 25)) (.cells #[.int .i64 65000,.int .u32 200,.int .u32 168430090,.slice none 0 0] 25);simpa using this
 have G:((w.alloc (.cells #[.int .i64 0,.int .u32 0,.int .u32 0,.slice none 0 0] 25)).alloc (.cells #[.int .i64 65000,.int .u32 200,.int .u32 168430090,.slice none 0 0] 25)).heap[w.heap.size]?=some (.cells #[.int .i64 0,.int .u32 0,.int .u32 0,.slice none 0 0] 25 (0,0)) :=
  (Go.heap_alloc_old _ _ (by simp)).trans (jl w _)
 have y:Below w.heap.size w ((w.alloc (.cells #[.int .i64 0,.int .u32 0,.int .u32 0,.slice none 0 0] 25)).alloc (.cells #[.int .i64 65000,.int .u32 200,.int .u32 168430090,.slice none 0 0] 25)):=by(repeat(first|exact iD _ _|refine iG ?_|refine iH ?_ (by first|omega|(simp only[iI,iJ,iK];omega)|simp) _|refine iL ?_ (by first|omega|simp) _|assumption))
 have hsz:((w.alloc (.cells #[.int .i64 0,.int .u32 0,.int .u32 0,.slice none 0 0] 25)).alloc (.cells #[.int .i64 65000,.int .u32 200,.int .u32 168430090,.slice none 0 0] 25)).heap.size=w.heap.size+2:=by simp
 generalize((w.alloc (.cells #[.int .i64 0,.int .u32 0,.int .u32 0,.slice none 0 0] 25)).alloc (.cells #[.int .i64 65000,.int .u32 200,.int .u32 168430090,.slice none 0 0] 25))=w1 at A G y hsz ⊢;have c3:=jV A 3;have O:=kK A 3;simp at c3;have p:w.heap.size+1<w1.heap.size:=by omega
 refine nO (D:=_) (ops:=rT) (val:=nS (w.heap.size+1) (w.heap.size+2) hd lm wt) (fix:=[(0,.int .i64 1),(1,.int .i64 hd),(2,.int .i64 lm),(3,.int .i64 wt),(8,.pointer (some ⟨w.heap.size,0,none⟩)),(9,.pointer (some ⟨w.heap.size+1,0,none⟩)),(10,.int .i64 0)]) (T:=31) (w0:=w1) (Post:=fun _ w'=>∃w2 q qc g1 g2,Below w1.heap.size w1 w2∧w'=w2.setCell ⟨w.heap.size+1,3,none⟩ (.slice (some ⟨q,0,none⟩) 1 qc)∧oI w2 (w.heap.size+2) q qc g1 g2 hd lm wt) (n:=13) (by kernel_rfl) RN RH RI RG
  (fun i o a F hi H f h I K J=>RJ (by omega) p c3 i o a F hi H (f (1,.int .i64 hd) (by simp)) (f (2,.int .i64 lm) (by simp)) (f (3,.int .i64 wt) (by simp)) (f (9,.pointer (some ⟨w.heap.size+1,0,none⟩)) (by simp)) (f (10,.int .i64 0) (by simp)) h I K J)
  (fun o a F H f h I K J=>RL p c3 O o a F H h I K fun v w' w2 q qc g1 g2 k1 k2 R=>J v w' ⟨w2,q,qc,g1,g2,k1,k2,R⟩) (fun a F kG hsz f V=>?_) rfl rfl ?_ ?_
 rotate_left
 ·intro x hx;simp at hx;rcases hx with rfl|rfl|rfl|rfl|rfl|rfl|rfl<;>rfl
 ·exact⟨rfl,rfl,rfl,dx _,fun _ _=>rfl⟩
 obtain⟨w2,q,qc,g1,g2,s,rfl,S⟩:=V;have f0:a.tmps[0]?=some (.int .i64 1):=f (0,.int .i64 1) (by simp);have f8:a.tmps[8]?=some (.pointer (some ⟨w.heap.size,0,none⟩)):=f (8,.pointer (some ⟨w.heap.size,0,none⟩)) (by simp);have f9:a.tmps[9]?=some (.pointer (some ⟨w.heap.size+1,0,none⟩)):=f (9,.pointer (some ⟨w.heap.size+1,0,none⟩)) (by simp);have f10:a.tmps[10]?=some (.int .i64 0):=f (10,.int .i64 0) (by simp);obtain⟨tm,df⟩:=a;simp only at kG hsz f0 f8 f9 f10;subst kG;obtain⟨k0,k1,k2,R,k4,k5,k6,k7,k8,k9,W,X,Y,aa,ab,ad,ae,af,ag,ah,ai,aj,ak,al,am,an,ao,ap,aq,ar,av,rfl⟩:=RM hsz;simp only[fR,gx,fS,dR]at f0 f8 f9 f10;subst f0 f8 f9 f10;have z:(w2.setCell ⟨w.heap.size+1,3,none⟩ (.slice (some ⟨q,0,none⟩) 1 qc)).heap[w.heap.size+1]?=some (.cells #[.int .i64 65000,.int .u32 200,.int .u32 168430090,.slice (some ⟨q,0,none⟩) 1 qc] 25 (0,0)):=by
  rw[lj ((s.block _ p).trans A)];rfl
 have m:(w2.setCell ⟨w.heap.size+1,3,none⟩ (.slice (some ⟨q,0,none⟩) 1 qc)).heap[w.heap.size]?=some (.cells #[.int .i64 0,.int .u32 0,.int .u32 0,.slice none 0 0] 25 (0,0)):=by
  rw[kn (by omega) 3 _];exact(s.block _ (by omega)).trans G
 have L:Below w.heap.size w (w2.setCell ⟨w.heap.size+1,3,none⟩ (.slice (some ⟨q,0,none⟩) 1 qc)):=(y.trans (s.mono (by omega))).setCell (by show w.heap.size≤w.heap.size+1;omega) _;have HR:oI (w2.setCell ⟨w.heap.size+1,3,none⟩ (.slice (some ⟨q,0,none⟩) 1 qc)) (w.heap.size+2) q qc g1 g2 hd lm wt:=S.keep fun b hb _=>kn (by omega) 3 _
 clear s S A G y hsz c3 O f p;generalize(w2.setCell ⟨w.heap.size+1,3,none⟩ (.slice (some ⟨q,0,none⟩) 1 qc))=w3 at z m L HR ⊢;have C:Hid (_):=L;have E:Hid (_):=HR;clear L HR;have y0:=jV z 0;have y1:=jV z 1;have y2:=jV z 2;have y3:=jV z 3;have x0:=jV m 0;have x1:=jV m 1;have x2:=jV m 2;have x3:=jV m 3;have z0:=kK m 0;have z1:=kK m 1;have z2:=kK m 2;have z3:=kK m 3;simp at y0 y1 y2 y3 x0 x1 x2 x3;clear z m
 go_wp2_with fail
 rw[rounds_succ]
 go_wp2_with fail
 have U:Below w.heap.size w ((((w3.setCell ⟨w.heap.size,0,none⟩ (.int .i64 65000)).setCell ⟨w.heap.size,1,none⟩ (.int .u32 200)).setCell ⟨w.heap.size,2,none⟩ (.int .u32 168430090)).setCell ⟨w.heap.size,3,none⟩ (.slice (some ⟨q,0,none⟩) 1 qc)):=(((C.out.setCell (dx _) _).setCell (dx _) _).setCell (dx _) _).setCell (dx _) _;have u:oI ((((w3.setCell ⟨w.heap.size,0,none⟩ (.int .i64 65000)).setCell ⟨w.heap.size,1,none⟩ (.int .u32 200)).setCell ⟨w.heap.size,2,none⟩ (.int .u32 168430090)).setCell ⟨w.heap.size,3,none⟩ (.slice (some ⟨q,0,none⟩) 1 qc)) (w.heap.size+2) q qc g1 g2 hd lm wt:=E.out.keep fun b hb _=>by
  rw[kn (by omega) 3 _,kn (by omega) 2 _,kn (by omega) 1 _,kn (by omega) 0 _]
 have M:Hid (oI _ w.heap.size q qc g1 g2 hd lm wt):=⟨u.row,u.r1,u.r2,by have:=u.b0;omega,by have:=u.b1;omega,by have:=u.b2;omega,u.c1,u.c2⟩;have N:Hid (_):=U;clear u U C E;exact iZ (v:=.agg #[.int .i64 65000,.int .u32 200,.int .u32 168430090,.slice (some ⟨q,0,none⟩) 1 qc]) (by simp[results,Tryz.results29,go_sem, *]) rfl ⟨q,qc,g1,g2,rfl,M.out,N.out⟩
end
section
open Go Go.RowKit
open Go.Proofs.YtjnkcibpkkjniaaGreat.j7 (lO)
end
section
open Go Go.RowKit
theorem RQ:(Tryz.prog.info? 162).map (fun i=>(i.zero,i.size,i.bytes))=some (some (.agg #[.bool false,.int .u32 0,.int .i64 0,.int .i64 0,.int .i64 0]),5,32):=by kernel_rfl
def flat (c:Nat→List Value):Nat→List Value
 |0=>[]
 |n+1=>flat c n++c n
variable {c:Nat→List Value} {size:Nat}
theorem yw:∀n,(∀i<n,(c i).length=size)→(flat c n).length=n*size:=by
 intro n
 induction n with
 |zero=>intro _;simp[flat]
 |succ n a=>intro h;simp only[flat,iF,a (fun i hi=>h i (by omega)),h n (by omega),Nat.succ_mul]
theorem A1{u:Value}:∀n,u∈flat c n→∃i<n,u∈c i:=by
 intro n
 induction n with
 |zero=>intro h;simp[flat]at h
 |succ n e =>
  intro h;rcases gQ.1 h with a|a
  ·obtain⟨i,hi,hu⟩:=e a;exact⟨i,by omega,hu⟩
  ·exact⟨n,by omega,a⟩
theorem Fe:∀n,(∀i<n,(c i).length=size)→∀i<n,∀k<size,(flat c n)[i*size+k]?=(c i)[k]?:=by
 intro n
 induction n with
 |zero=>intro _ i hi;omega
 |succ n f =>
  intro h i hi k m;have e:=yw n (fun i hi=>h i (by omega));simp only[flat];rcases jE.1 hi with a|a
  ·rw[jC,f (fun i hi=>h i (by omega)) i a k m];rw[e];have:(i+1)*size≤n*size:=ef _ a;rw[Nat.succ_mul]at this;omega
  ·subst a;rw[jD (by rw[e];omega),e];congr 1;omega
theorem Ff{w:World}{b o n:Nat}(a:0<size)(e:∀i<n,(c i).length=size)(h:∀i<n,∀k u,(c i)[k]?=some u→w.cell? ⟨b,o+i*size+k,none⟩=some u):∀(j:Nat)(u:Value),(flat c n)[j]?=some u→w.cell? ((⟨b,o,none⟩:Addr).add j)=some u:=by
 intro j u hu;have m:j<n*size:=by rw[←yw n e];exact(je.1 hu).1
 have hi:j / size<n:=by rw[Nat.div_lt_iff_lt_mul a];exact m
 have p:j % size<size:=gi _ a;have hd:j / size*size+j % size=j:=by rw[dT];exact Nat.div_add_mod j size
 rw[←hd,Fe n e _ hi _ p]at hu;have:=h _ hi _ _ hu;rw[show o+j / size*size+j % size=o+j by omega]at this
 by_cases f:j=0
 ·subst f;simpa[Addr.add]using this
 ·simpa[Addr.add,f]using this
theorem Fg(ao:Option Addr)(n cap:Nat)(r:Nat→Rl)(w:World)(h:mc w (.slice ao n cap) n r)(S:n≤8):Calls Tryz.prog 67 #[.slice ao n cap] w fun e w' =>
   ∃v',e=.returned v'∧w'.ownsRow w.heap.size 162 5 v' n (flat (fun i=>(r i).cells) n)∧kS Pl w' v'∧Below w.heap.size w w':=by
 obtain⟨⟨x,s,F,T,U,a⟩,_⟩:=h;obtain⟨rfl,_,rfl⟩:ao=x∧n=n∧cap=s:=by simpa using F
 clear F
 cases ao with
 |none =>
  have p:n=0:=by
   rcases eT n with p|p
   ·exact p
   ·obtain⟨b,o,y,_⟩:=a p;cases y
  subst p;have I:=fun w=>jJ (P:=Tryz.prog) w 67 _ none 0 cap 0 0 Tryz.underlying67
  clear a;go_enter Tryz.func67,Tryz.ntmps67
  go_wp2_with fail
  go_ret;exact⟨_,rfl,iR _ _ _ _,kS.nil _ _,iD _ _⟩
 |some ad =>
  have I:=fun w=>jJ (P:=Tryz.prog) w 67 _ (some ad) n cap 0 0 Tryz.underlying67
  obtain⟨i0,hi,z,A,C⟩:=info_parts RQ;have G:(flat (fun i=>(r i).cells) n).length=n*5:=yw n (fun _ _=>rfl);have J:Hid (∀(j:Nat)(u:Value),(flat (fun i=>(r i).cells) n)[j]?=some u→(w.alloc (.cells #[] 162)).cell? (ad.add j)=some u):=by
   intro j u hu;rcases eT n with p|p
   ·subst p;simp[flat]at hu
   ·obtain⟨b,o,y,D⟩:=a p;obtain rfl:ad=⟨b,o,none⟩:=by simpa using y
    have:=Ff (size:=5) (by decide) (fun _ _=>rfl) D j u hu;rw[World.cell?_alloc_lt _ _ _ (ju _ _ this)];exact this
  have H1:Hid (∀u∈flat (fun i=>(r i).cells) n,u.oneCell'=true):=by
   intro u hu;obtain⟨i,_,hu⟩:=A1 n hu;simp only[Rl.cells,fJ,fK,fL]at hu;rcases hu with rfl|rfl|rfl|rfl|rfl<;>rfl
  have K:Hid ((flat (fun i=>(r i).cells) n).length=n*5):=G;have L:Hid (∀u∈(Value.agg #[.bool false,.int .u32 0,.int .i64 0,.int .i64 0,.int .i64 0]).cells.toList,Pl u):=by
   intro u hu;have e:(Value.agg #[.bool false,.int .u32 0,.int .i64 0,.int .i64 0,.int .i64 0]).cells.toList=[.bool false,.int .u32 0,.int .i64 0,.int .i64 0,.int .i64 0]:=rfl;rw[e]at hu;simp at hu;rcases hu with rfl|rfl|rfl
   all_goals first|exact Pl.bool _|exact Pl.int _ _
  have M:Hid (∀u∈flat (fun i=>(r i).cells) n,Pl u):=by
   intro u hu;obtain⟨i,_,hu⟩:=A1 n hu;simp only[Rl.cells,fJ,fK,fL]at hu;rcases hu with rfl|rfl|rfl|rfl|rfl
   all_goals first|exact Pl.bool _|exact Pl.int _ _
  have N:Hid (kS Pl (w.alloc (.cells #[] 162)) (.slice (some ⟨w.heap.size,0,none⟩) 0 0)):=by
   intro g cur ty fr O E u hu;obtain rfl:w.heap.size=g:=by simpa[Value.ownBlock]using O
   rw[jl]at E;simp only[dR,jy]at E;obtain⟨rfl,_⟩:=E;simp at hu
  clear G a;go_enter Tryz.func67,Tryz.ntmps67
  go_wp2_with (at_builtin;go_loud (refine Qc rfl (.tmp 5) (.tmp 6) 67 rfl Pl w.heap.size 162 i0 (.agg #[.bool false,.int .u32 0,.int .i64 0,.int .i64 0,.int .i64 0]) 5 32 Tryz.underlying67 hi z A C rfl (by decide) _ 0 [] rfl (World.ownsRow_made w #[] 0 (dx _) (by decide) rfl) ad n cap (flat (fun i=>(r i).cells) n) rfl K.out J.out H1.out (by unfold maxLen;omega) (by omega) (by simp) L.out M.out N.out ?_);intro v' w1 f m q _)
  rw[dB]at f;have hB:Below w.heap.size w w1:=((iD _ _).alloc (dx _) _).grown m (by simp) (by intro k R;simp[Value.ownBlock,Act.eval]at R;omega);have H:Hid (w1.ownsRow w.heap.size 162 5 v' n (flat (fun i=>(r i).cells) n)∧kS Pl w1 v'):=⟨by simpa using f,q⟩;clear f m q;go_ret;exact⟨_,rfl,H.out.1,H.out.2,hB⟩
end
section
open Go Go.RowKit
open Go.Proofs.YtjnkcibpkkjniaaGreat.j7 (lO)
theorem RR:(Tryz.prog.info? 69).map (fun i=>(i.zero,i.size,i.bytes))=some (some (.agg #[.int .i64 0,.int .i64 0,.int .i64 0,.int .i64 0,.int .i64 0,.slice none 0 0,.slice none 0 0]),7,88):=by kernel_rfl
def A2 (B:Nat) (w:World) (v:Value) (n:Nat) (c:Nat→List Value):Prop :=
 (v=.slice none 0 0∧n=0)∨∃g cap cur,v=.slice (some ⟨g,0,none⟩) n cap∧n≤cap∧cap≤maxLen∧B≤g∧w.heap[g]?=some (.cells cur 69 (0,0)) ∧
  ∀i<n,∀k u,(c i)[k]?=some u→w.cell? ⟨g,i*7+k,none⟩=some u
theorem RU(ao:Option Addr)(n cap:Nat)(P:Nat→Pr)(w:World)(h:ot w (.slice ao n cap) n P)(U:n≤8):Calls Tryz.prog 66 #[.slice ao n cap] w fun e w' =>
   ∃v',e=.returned v'∧A2 w.heap.size w' v' n (fun i=>(P i).cells)∧Below w.heap.size w w':=by
 obtain⟨⟨A,y,L,V,W,a⟩,p⟩:=h;obtain⟨rfl,_,rfl⟩:ao=A∧n=n∧cap=y:=by simpa using L
 clear L
 cases ao with
 |none =>
  have q:n=0:=by
   rcases eT n with q|q
   ·exact q
   ·obtain⟨b,o,C,_⟩:=a q;cases C
  subst q;have M:=fun w=>jJ (P:=Tryz.prog) w 23 _ none 0 cap 0 0 Tryz.underlying23
  clear a p;go_enter Tryz.func66,Tryz.ntmps66
  go_wp2_with fail
  go_ret;exact⟨_,rfl,.inl ⟨rfl,rfl⟩,iD _ _⟩
 |some ad =>
  have M:=fun w=>jJ (P:=Tryz.prog) w 23 _ (some ad) n cap 0 0 Tryz.underlying23
  obtain⟨i0,hi,D,E,F⟩:=info_parts RR;have N:Hid ((flat (fun i=>(P i).cells) n).length=n*7):=yw n (fun _ _=>rfl);have O:Hid (∀(j:Nat)(u:Value),(flat (fun i=>(P i).cells) n)[j]?=some u→(w.alloc (.cells #[] 69)).cell? (ad.add j)=some u):=by
   intro j u hu;rcases eT n with q|q
   ·subst q;simp[flat]at hu
   ·obtain⟨b,o,C,G⟩:=a q;obtain rfl:ad=⟨b,o,none⟩:=by simpa using C
    have:=Ff (size:=7) (by decide) (fun _ _=>rfl) G j u hu;rw[World.cell?_alloc_lt _ _ _ (ju _ _ this)];exact this
  have H1:Hid (∀u∈flat (fun i=>(P i).cells) n,u.oneCell'=true):=by
   intro u hu;obtain⟨i,s,hu⟩:=A1 n hu;obtain⟨_,_,R⟩:=(p i s).1.isSlice;obtain⟨_,_,S⟩:=(p i s).2.isSlice;simp only[Pr.cells,fJ,fK,fL]at hu;rcases hu with rfl|rfl|rfl|rfl|rfl|rfl|rfl
   ·rfl
   ·rfl
   ·rfl
   ·rfl
   ·rfl
   ·rw[R];rfl
   ·rw[S];rfl
  clear a p;go_enter Tryz.func66,Tryz.ntmps66
  go_wp2_with (at_builtin;go_loud (refine wpList_append_own _ rfl (.tmp 5) (.tmp 6) 23 rfl w.heap.size 69 i0 (.agg #[.int .i64 0,.int .i64 0,.int .i64 0,.int .i64 0,.int .i64 0,.slice none 0 0,.slice none 0 0]) 7 88 Tryz.underlying23 hi D E F rfl (by decide) _ 0 [] rfl (World.ownsRow_made w #[] 0 (dx _) (by decide) rfl) ad n cap (flat (fun i=>(P i).cells) n) rfl N.out O.out H1.out (by unfold maxLen;omega) (by omega) (by simp) ?_);intro v' w1 f m _)
  rw[dB]at f;have hB:Below w.heap.size w w1:=((iD _ _).alloc (dx _) _).grown m (by simp) (by intro k T;simp[Value.ownBlock,Act.eval]at T;omega);have hex:A2 w.heap.size w1 v' n (fun i=>(P i).cells):=by
   rcases f.2 with⟨rfl,rfl⟩|⟨g,c,cur,rfl,H,x,I,J,_,z⟩
   ·exact .inl ⟨rfl,rfl⟩
   ·refine .inr ⟨g,c,cur,rfl,I,J,H,x,fun i s k u hu=>?_⟩;have K:k<7:=(je.1 hu).1;have:=Fe n (size:=7) (c:=fun i=>(P i).cells) (fun _ _=>rfl) i s k K;rw[hu]at this;rw[jI _ _ _ _ _ _ x];rw[ig]at z;rw[←z]at this;rw[List.getElem?_take]at this;split at this
    ·simpa using this
    ·cases this
  clear f m;go_ret;exact⟨v',rfl,hex,hB⟩
def rU (w:World) (lo hi:Nat) (v:Value):Prop:=∃a m c,v=.slice a m c∧∀ad,a=some ad→lo≤ad.block∧ad.block<hi∧lO w ad.block
theorem rU.keep{w w':World}{lo hi:Nat}{v:Value}(h:rU w lo hi v)(k:∀b,lo≤b→b<hi→w'.heap[b]?=w.heap[b]?):rU w' lo hi v:=by
 obtain⟨a,m,c,rfl,h⟩:=h;exact⟨a,m,c,rfl,fun ad e=>⟨(h ad e).1,(h ad e).2.1,(h ad e).2.2.keep (k _ (h ad e).1 (h ad e).2.1)⟩⟩
variable {w:World} {B n:Nat}
theorem Fh{v:Value}{xs:List Value}{e:TypeId}{size:Nat}(h:w.ownsRow B e size v n xs)(m:kS Pl w v):∃a c,v=.slice a n c∧rU w B w.heap.size v:=by
 rcases h.2 with⟨rfl,rfl⟩|⟨g,cap,cur,rfl,k2,f,_⟩
 ·exact⟨none,0,rfl,none,0,0,rfl,fun ad e=>by cases e⟩
 ·refine⟨_,_,rfl,_,_,_,rfl,fun ad e=>?_⟩
  cases e
  exact⟨k2,(dp.1 f).1,cur,_,_,f,m g cur _ _ rfl f,rfl⟩
structure mZ (w:World) (g B k:Nat) (t:Nat→Nat):Prop where
 low:B≤t 0
 step:∀j,j<2*k→t j≤t (j+1)
 top:t (2*k)≤w.heap.size
 at_:∀i,i<k→(∃v,w.cell? ⟨g,i*7+5,none⟩=some v∧rU w (t (2*i)) (t (2*i+1)) v)∧∃v,w.cell? ⟨g,i*7+6,none⟩=some v∧rU w (t (2*i+1)) (t (2*i+2)) v
theorem mZ.mono{w:World}{g B k:Nat}{t:Nat→Nat}(h:mZ w g B k t):∀d i,i+d≤2*k→t i≤t (i+d):=by
 intro d
 induction d with
 |zero=>intro i _;exact dx _
 |succ d a=>intro i hi;exact dz (a i (by omega)) (h.step (i+d) (by omega))
variable {g k j:Nat} {t:Nat→Nat}
theorem mZ.le(h:mZ w g B k t){i:Nat}(a:i≤j)(e:j≤2*k):t i≤t j:=by
 have:=h.mono (j-i) i (by omega);rwa[show i+(j-i)=j by omega]at this
theorem mZ.zero(hB:B≤w.heap.size):mZ w g B 0 fun _=>B:=⟨dx _,fun _ _=>dx _,hB,fun i hi=>absurd hi (g8 i)⟩
theorem mZ.keep{w w':World}{g B k:Nat}{t:Nat→Nat}(h:mZ w g B k t)(e:w.heap.size≤w'.heap.size)(a:∀i,i<k→w'.cell? ⟨g,i*7+5,none⟩=w.cell? ⟨g,i*7+5,none⟩∧w'.cell? ⟨g,i*7+6,none⟩=w.cell? ⟨g,i*7+6,none⟩)(hb:∀b,B≤b→b<w.heap.size→w'.heap[b]?=w.heap[b]?):mZ w' g B k t:=by
 refine⟨h.low,h.step,dz h.top e,fun i hi=>?_⟩;obtain⟨⟨v5,f,m⟩,v6,s,u⟩:=h.at_ i hi;have x:=h.low;have y:=h.le (i:=0) (j:=2*i) (by omega) (by omega);have z:=h.le (i:=0) (j:=2*i+1) (by omega) (by omega);have A:=h.le (i:=2*i+1) (j:=2*k) (by omega) (by omega);have C:=h.le (i:=2*i+2) (j:=2*k) (by omega) (by omega);have D:=h.top;exact⟨⟨v5,(a i hi).1.trans f,m.keep fun b p q=>hb b (by omega) (by omega)⟩,v6,(a i hi).2.trans s,u.keep fun b p q=>hb b (by omega) (by omega)⟩
variable {w':World}
theorem mZ.more{m:Nat}(h:mZ w g B k t)(G:w.heap.size≤m)(hm:m≤w'.heap.size)(p:∀i,i<k→w'.cell? ⟨g,i*7+5,none⟩=w.cell? ⟨g,i*7+5,none⟩∧w'.cell? ⟨g,i*7+6,none⟩=w.cell? ⟨g,i*7+6,none⟩)(hb:∀b,B≤b→b<w.heap.size→w'.heap[b]?=w.heap[b]?){v5 v6:Value}(q:w'.cell? ⟨g,k*7+5,none⟩=some v5)(s:rU w' w.heap.size m v5)(u:w'.cell? ⟨g,k*7+6,none⟩=some v6)(x:rU w' m w'.heap.size v6):∃t,mZ w' g B (k+1) t:=by
 have y:=h.keep (w':=w') (by omega) p hb;refine⟨fun j=>if j≤2*k then t j else if j=2*k+1 then m else w'.heap.size,by simpa using h.low,fun j H=>?_,?_,fun i hi=>?_⟩
 ·have z:=h.top;show(if j≤2*k then t j else if j=2*k+1 then m else w'.heap.size)≤(if j+1≤2*k then t (j+1) else if j+1=2*k+1 then m else w'.heap.size)
  by_cases f:j+1≤2*k
  ·rw[dj f,dj (show j≤2*k by omega)];exact h.step j (by omega)
  ·rw[dk f]
   by_cases A:j=2*k
   ·rw[dj (show j≤2*k by omega),dj (show j+1=2*k+1 by omega),A];omega
   ·rw[dk (show ¬j≤2*k by omega),dj (show j=2*k+1 by omega),dk (show ¬j+1=2*k+1 by omega)];omega
 ·show(if 2*(k+1)≤2*k then t (2*(k+1)) else if 2*(k+1)=2*k+1 then m else w'.heap.size)≤_;rw[dk (show ¬2*(k+1)≤2*k by omega),dk (show ¬2*(k+1)=2*k+1 by omega)];exact dx _
 ·by_cases e:i<k
  ·have:=y.at_ i e;simp only[show 2*i≤2*k by omega,show 2*i+1≤2*k by omega,show 2*i+2≤2*k by omega,dg];exact this
  ·obtain rfl:i=k:=by omega
   have z:=h.top;obtain⟨C,D,a,rfl,E⟩:=s;refine⟨⟨_,q,C,D,a,rfl,fun ad e=>?_⟩,_,u,?_⟩
   ·obtain⟨z1,z2,F⟩:=E ad e;simp only[dx,dg,show ¬(2*i+1≤2*i) by omega,dh];exact⟨by omega,z2,F⟩
   ·simp only[show ¬(2*i+1≤2*i) by omega,show ¬(2*i+2≤2*i) by omega,show ¬(2*i+2=2*i+1) by omega,dh,dg];exact x
def pO (w:World) (g n k:Nat) (P:Nat→Pr):Prop :=
 ∀i,k≤i→i<n→w.cell? ⟨g,i*7+5,none⟩=some (P i).im∧w.cell? ⟨g,i*7+6,none⟩=some (P i).ex
variable {P:Nat→Pr}
theorem pO.below(h:pO w g n k P)(hB:Below w.heap.size w w'):pO w' g n k P:=by
 intro i e f;obtain⟨a,b⟩:=h i e f;exact⟨(hB.cell (ju _ _ a)).trans a,(hB.cell (ju _ _ b)).trans b⟩
theorem pO.stored(h:pO w g n k P)(e:k<n→j<k*7+7)(f:k<n→k*7≤j)(v:Value):pO (w.setCell ⟨g,j,none⟩ v) g n (k+1) P:=by
 intro i p m;obtain⟨a,b⟩:=h i (by omega) m;have:=e (by omega);have:=f (by omega);exact⟨(jK _ _ _ _ (by first|omega|(simp only[iI,iJ,iK];omega)|simp)).trans a,(jK _ _ _ _ (by first|omega|(simp only[iI,iJ,iK];omega)|simp)).trans b⟩
def n7 (w:World) (g n:Nat) (P:Nat→Pr):Prop :=
 ∀i,i<n→∀k u,[Value.int .i64 (P i).au,.int .i64 (P i).hold,.int .i64 (P i).nF,.int .i64 (P i).nG,.int .i64 (P i).wait][k]?=some u→w.cell? ⟨g,i*7+k,none⟩=some u
theorem n7.below(h:n7 w g n P)(hB:Below w.heap.size w w'):n7 w' g n P:=fun i hi k u hu=>(hB.cell (ju _ _ (h i hi k u hu))).trans (h i hi k u hu)
theorem n7.other(h:n7 w g n P)(p:Addr)(hp:p.block≠g)(v:Value):n7 (w.setCell p v) g n P:=fun i hi k u hu=>(jK _ _ _ _ (fun e=>hp (by rw[e]))).trans (h i hi k u hu)
theorem n7.stored(h:n7 w g n P)(a:j % 7=5∨j % 7=6)(v:Value):n7 (w.setCell ⟨g,j,none⟩ v) g n P:=fun i hi k u hu=>by
 have f:k<5:=(je.1 hu).1;exact(jK _ _ _ _ (by intro e;have:=dD Addr.off e;simp only at this;omega)).trans (h i hi k u hu)
theorem RV(au id nh:Int)(ao:Option Addr)(n cap:Nat)(P:Nat→Pr)(w:World)(h:ot w (.slice ao n cap) n P)(h8:n≤8)(hr:∀i<n,(P i).ni≤8∧(P i).ne≤8):Calls Tryz.prog 40 #[.agg #[.int .i64 au,.int .u32 id,.int .u32 nh,.slice ao n cap]] w fun e w' =>
   ∃s f,e=.returned (.agg #[.int .i64 au,.int .u32 id,.int .u32 nh,.slice s n f])∧Below w.heap.size w w'∧(0<n→n≤f∧∃g B t,w.heap.size≤g∧g<B∧s=some ⟨g,0,none⟩∧n7 w' g n P∧mZ w' g B n t):=by
 have H:Hid (ot w (.slice ao n cap) n P):=h;have Hr:Hid (∀i<n,(P i).ni≤8∧(P i).ne≤8):=hr;clear h hr;go_enter Tryz.func40,Tryz.ntmps40
 go_wp2_with fail
 refine(RU _ _ _ P _ (H.out.cell (((iD _ _).alloc (dx _) _).alloc (by simp) _)) h8).mono ?_;rintro e w1 ⟨v',rfl,M,hB⟩;have aE:Below w.heap.size w w1:=(((iD _ _).alloc (dx _) _).alloc (by simp) _).trans (hB.mono (by simp only[iI];omega));have hz:w.heap.size+1<w1.heap.size:=by have:=hB.size;simp only[iI]at this;omega
 have R:w1.heap[w.heap.size]?=some (.cells #[.int .i64 au,.int .u32 id,.int .u32 nh,.slice ao n cap] 25):=by
  rw[hB.block _ (by simp only[iI];omega)];exact heap_alloc2_old _ _ _
 have am:w1.heap[w.heap.size+1]?=some (.cells #[.int .i64 0,.int .u32 0,.int .u32 0,.slice none 0 0] 25):=by
  rw[hB.block _ (by simp only[iI];omega)];exact heap_alloc2_new _ _ _
 have hex:∃s f,v'=.slice s n f:=by
  rcases M with⟨rfl,rfl⟩|⟨g,c,cur,rfl,_⟩
  ·exact⟨none,0,rfl⟩
  ·exact⟨_,_,rfl⟩
 obtain⟨s,f,rfl⟩:=hex;simp only[iI]at M;have N:Hid (A2 (w.heap.size+1+1) w1 (.slice s n f) n (fun i=>(P i).cells)):=M;have fx:∀o,w1.frozen? ⟨w.heap.size,o,none⟩=false:=fun o=>jL _ _ _ _ _ R
 have an:w1.cell? ⟨w.heap.size,0,none⟩=some (.int .i64 au):=jI _ _ _ _ _ _ R;have ap:w1.cell? ⟨w.heap.size,1,none⟩=some (.int .u32 id):=jI _ _ _ _ _ _ R;have aq:w1.cell? ⟨w.heap.size,2,none⟩=some (.int .u32 nh):=jI _ _ _ _ _ _ R;have ar:w1.cell? ⟨w.heap.size,3,none⟩=some (.slice ao n cap):=jI _ _ _ _ _ _ R;clear M hB
 go_wp2_with fail
 go_loopw [12] (fun i wr=>∃k:Nat,k≤n∧i=.int .i64 k∧Below w.heap.size w wr∧Below (w.heap.size+2) (w1.setCell ⟨w.heap.size,3,none⟩ (.slice s n f)) wr ∧
   (∀g,s=some ⟨g,0,none⟩→(∀off,wr.frozen? ⟨g,off,none⟩=false)∧pO wr g n k P∧n7 wr g n P∧∃t,mZ wr g w1.heap.size k t)) (fun i _=>n-(intOf i).toNat)
 case atStart =>
  refine⟨0,eI _,rfl,aE.setCell (by simp) _,iD _ _,fun g hg=>?_⟩;rcases N.out with⟨he,h0⟩|⟨g',c,cur,he,_,_,S,F,X⟩
  ·simp at he;rw[he.1]at hg;cases hg
  ·simp at he;rw[he.1]at hg;obtain rfl:g'=g:=by simpa using hg
   refine⟨fun off=>(jM _ _ _ _).trans (jL _ _ _ _ _ F),fun i _ h2=>?_,?_,_,mZ.zero (by simp)⟩
   ·exact⟨(jK _ _ _ _ (by simp<;>omega)).trans (X i h2 5 _ rfl),(jK _ _ _ _ (by simp<;>omega)).trans (X i h2 6 _ rfl)⟩
   ·refine n7.other ?_ _ (by simp;omega) _;intro i h2 k u hu;refine X i h2 k u ?_;simp only[Pr.cells];have hk:k<5:=(je.1 hu).1
    match k,hk,hu with
    |0,_,hu=>exact hu
    |1,_,hu=>exact hu
    |2,_,hu=>exact hu
    |3,_,hu=>exact hu
    |4,_,hu=>exact hu
 case round =>
  obtain⟨k,hk,rfl,Y,G,E⟩:=hrel;have aW:wr.cell? ⟨w.heap.size,3,none⟩=some (.slice s n f):=(G.cell (by first|omega|(simp only[];omega)|simp)).trans (jN _ _ _ ar);have aX:wr.cell? ⟨w.heap.size,0,none⟩=some (.int .i64 au):=(G.cell (by first|omega|(simp only[];omega)|simp)).trans ((jK _ _ _ _ (by simp)).trans an);have aY:wr.cell? ⟨w.heap.size,1,none⟩=some (.int .u32 id):=(G.cell (by first|omega|(simp only[];omega)|simp)).trans ((jK _ _ _ _ (by simp)).trans ap);have aZ:wr.cell? ⟨w.heap.size,2,none⟩=some (.int .u32 nh):=(G.cell (by first|omega|(simp only[];omega)|simp)).trans ((jK _ _ _ _ (by simp)).trans aq);have hsz:(w1.setCell ⟨w.heap.size,3,none⟩ (.slice s n f)).heap.size=w1.heap.size:=iJ _ _ _;have a0:w.heap.size+1<wr.heap.size:=by have:=G.size;omega
  clear an ap aq ar
  by_cases ah:k<n
  ·obtain⟨g,aF,S,aj⟩:∃g,s=some ⟨g,0,none⟩∧w.heap.size+1+1≤g∧g<w1.heap.size:=by
    rcases N.out with⟨he,h0⟩|⟨g',c,cur,he,_,_,S,F,X⟩
    ·omega
    ·simp at he;exact⟨g',he.1,S,(dp.1 F).1⟩
   subst aF;obtain⟨aa,ak,av,t,af⟩:=E g rfl;have aG:Hid (n7 wr g n P):=av;have aw:Hid (mZ wr g w1.heap.size k t):=af;have aH:Hid (g<w1.heap.size):=aj;clear av af aj;have ax:=H.out.2;obtain⟨ab,ad⟩:=ax k ah;obtain⟨ai,ci,ei⟩:=ab.isSlice;obtain⟨ae,ce,ee⟩:=ad.isSlice;obtain⟨c5,c6⟩:=ak k (dx _) ah;obtain⟨aI,aJ⟩:=Hr.out k ah;rw[ei]at ab c5;rw[ee]at ad c6;have I:g<wr.heap.size:=ju _ _ c5;have aK:Hid (mc w (.slice ai (P k).ni ci) (P k).ni (P k).ir):=ab;have aL:Hid (mc w (.slice ae (P k).ne ce) (P k).ne (P k).er):=ad;have aM:Hid (pO wr g n k P):=ak;have Hb:Hid (w.heap.size+1+1≤g):=S;have f5:=aa (k*7+5);have f6:=aa (k*7+6);have aN:Hid (∀off,wr.frozen? ⟨g,off,none⟩=false):=aa;clear E ax ab ad ei ee aa ak;have aV:n≤f:=by
    rcases N.out with⟨he,h0⟩|⟨g',c,cur,he,aO,_⟩
    ·omega
    ·simp at he;omega
   go_wp2_with fail
   refine(Fg _ _ _ (P k).ir _ (aK.out.cell Y) aI).mono ?_;rintro e w2 ⟨v2,rfl,T,ay,z⟩;obtain⟨O,D,rfl,ag⟩:=Fh T ay;have az:Hid (rU w2 wr.heap.size w2.heap.size (.slice O (P k).ni D)):=ag;clear T ay ag;have H5:Hid (w2.cell? ⟨g,k*7+5,none⟩=some (.slice ai (P k).ni ci)):=(z.cell (p:=⟨g,k*7+5,none⟩) I).trans c5;have d5:=(z.cell (p:=⟨g,k*7+5,none⟩) I).trans c5;have d6:=(z.cell (p:=⟨g,k*7+6,none⟩) I).trans c6;have e5:=(z.frozen (p:=⟨g,k*7+5,none⟩) I).trans f5;have e6:=(z.frozen (p:=⟨g,k*7+6,none⟩) I).trans f6;clear c5 c6 f5 f6
   go_wp2_with fail
   have al:Below w.heap.size w (w2.setCell ⟨g,k*7+5,none⟩ (.slice O (P k).ni D)):=(Y.trans (z.mono Y.size)).setCell (by first|omega|(simp only[];omega)|simp) _;refine(Fg _ _ _ (P k).er _ (aL.out.cell al) aJ).mono ?_;rintro e w3 ⟨v3,rfl,U,aA,A⟩;obtain⟨y,q,rfl,J⟩:=Fh U aA;have aB:Hid (rU w3 (w2.setCell ⟨g,k*7+5,none⟩ (.slice O (P k).ni D)).heap.size w3.heap.size (.slice y (P k).ne q)):=J;clear U aA J;have C:(w2.setCell ⟨g,k*7+5,none⟩ (.slice O (P k).ni D)).heap.size=w2.heap.size:=iJ _ _ _;have K:g<w2.heap.size:=ju _ _ d6;have g6:=(A.cell (p:=⟨g,k*7+6,none⟩) (by rw[C];exact K)).trans ((jK _ _ _ _ (by simp)).trans d6);have h6:=(A.frozen (p:=⟨g,k*7+6,none⟩) (by rw[C];exact K)).trans ((jM _ _ _ _).trans e6);have L:∀g',(some ⟨g,0,none⟩:Option Addr)=some ⟨g',0,none⟩→(∀off,(w3.setCell ⟨g,k*7+6,none⟩ (.slice y (P k).ne q)).frozen? ⟨g',off,none⟩=false)∧pO (w3.setCell ⟨g,k*7+6,none⟩ (.slice y (P k).ne q)) g' n (k+1) P∧n7 (w3.setCell ⟨g,k*7+6,none⟩ (.slice y (P k).ne q)) g' n P∧∃t,mZ (w3.setCell ⟨g,k*7+6,none⟩ (.slice y (P k).ne q)) g' w1.heap.size (k+1) t:=by
    intro g' aP;obtain rfl:g=g':=by simpa using aP
    refine⟨fun off=>?_,?_,(((aG.out.below (z.mono (dx _))).stored (by omega) _).below A).stored (by omega) _,?_⟩
    rotate_left 2
    ·have a1:g<wr.heap.size:=I;have aj:=aH.out;have aQ:=z.size;have aC:=A.size;rw[C]at aC;have J:=aB.out;rw[C]at J;have o5:∀i,i<k→∀x,x=5∨x=6→(w3.setCell ⟨g,k*7+6,none⟩ (.slice y (P k).ne q)).cell? ⟨g,i*7+x,none⟩=wr.cell? ⟨g,i*7+x,none⟩:=fun i hi x hx=>by
      rw[jK _ _ _ _ (by intro e;have:=dD Addr.off e;simp only at this;omega),A.cell (by rw[C];exact K),jK _ _ _ _ (by intro e;have:=dD Addr.off e;simp only at this;omega),z.cell I]
     have aD:∀b,b≠g→b<w2.heap.size→(w3.setCell ⟨g,k*7+6,none⟩ (.slice y (P k).ne q)).heap[b]?=w2.heap[b]?:=fun b hb hl=>(kn (dE hb) _ _).trans ((A.block _ (by rw[C];exact hl)).trans (kn (dE hb) _ _))
     refine aw.out.more (m:=w2.heap.size) aQ (by simp;exact aC) (fun i hi=>⟨o5 i hi 5 (.inl rfl),o5 i hi 6 (.inr rfl)⟩) (fun b hb hl=>(aD b (by omega) (by omega)).trans (z.block _ hl)) (v5:=.slice O (P k).ni D) (v6:=.slice y (P k).ne q) ?_ (az.out.keep fun b hb hl=>aD b (by omega) hl) (jN _ _ _ g6) ?_
     ·exact(jK _ _ _ _ (by simp)).trans ((A.cell (by rw[C];exact K)).trans (jN _ _ _ H5.out))
     ·rw[iJ];exact J.keep fun b hb hl=>kn (by omega) _ _
    ·rw[jM,A.frozen (by rw[C];exact K),jM,z.frozen I];exact aN.out off
    ·have r2:pO w2 g n k P:=aM.out.below z;have r3:pO (w2.setCell ⟨g,k*7+5,none⟩ (.slice O (P k).ni D)) g n (k+1) P:=r2.stored (by omega) (by omega) _;have r4:pO w3 g n (k+1) P:=r3.below A;intro i h1 h2;obtain⟨a,b⟩:=r4 i h1 h2;exact⟨(jK _ _ _ _ (by first|omega|(simp only[iI,iJ,iK];omega)|simp)).trans a,(jK _ _ _ _ (by first|omega|(simp only[iI,iJ,iK];omega)|simp)).trans b⟩
   have V:Hid (∀g',(some ⟨g,0,none⟩:Option Addr)=some ⟨g',0,none⟩→(∀off,(w3.setCell ⟨g,k*7+6,none⟩ (.slice y (P k).ne q)).frozen? ⟨g',off,none⟩=false)∧pO (w3.setCell ⟨g,k*7+6,none⟩ (.slice y (P k).ne q)) g' n (k+1) P∧n7 (w3.setCell ⟨g,k*7+6,none⟩ (.slice y (P k).ne q)) g' n P∧∃t,mZ (w3.setCell ⟨g,k*7+6,none⟩ (.slice y (P k).ne q)) g' w1.heap.size (k+1) t):=L;have aR:Below w.heap.size w (w3.setCell ⟨g,k*7+6,none⟩ (.slice y (P k).ne q)):=(al.trans (A.mono al.size)).setCell (by first|omega|(simp only[];omega)|simp) _;have aS:Below (w.heap.size+2) wr (w3.setCell ⟨g,k*7+6,none⟩ (.slice y (P k).ne q)) :=
    (((z.mono (by omega)).setCell (by first|omega|(simp only[iI,iJ,iK];omega)|simp) _).trans (A.mono (by rw[C];omega))).setCell (by first|omega|(simp only[iI,iJ,iK];omega)|simp) _
   clear L d5 d6 e5 e6 C
   go_wp2_with fail
   go_roundw
   case rel=>exact⟨k+1,by omega,by go_num,aR,G.trans aS,V.out⟩
   case measure=>simp[intOf];omega
  ·have ey:∀o,wr.frozen? ⟨w.heap.size+1,o,none⟩=false:=fun o=>(G.frozen (by first|omega|(simp only[];omega)|simp)).trans ((jM _ _ _ _).trans (jL _ _ _ _ _ am))
   have cy:∀o,wr.cell? ⟨w.heap.size+1,o,none⟩=#[Value.int .i64 0,.int .u32 0,.int .u32 0,.slice none 0 0][o]?:=fun o=>(G.cell (by first|omega|(simp only[];omega)|simp)).trans ((jK _ _ _ _ (by simp)).trans (jI _ _ _ _ _ _ am))
   have a2:=cy 0;have a3:=cy 1;have a4:=cy 2;have a5:=cy 3;have a6:=ey 0;have a7:=ey 1;have a8:=ey 2;have a9:=ey 3;have W:Hid (∀g,s=some ⟨g,0,none⟩→(∀off,wr.frozen? ⟨g,off,none⟩=false)∧pO wr g n k P∧n7 wr g n P∧∃t,mZ wr g w1.heap.size k t):=E;clear ey cy E;have L:0<n→n≤f∧∃g,w.heap.size≤g∧g<w1.heap.size∧s=some ⟨g,0,none⟩∧g≠w.heap.size+1∧n7 wr g n P∧∃t,mZ wr g w1.heap.size n t:=by
    intro hn;rcases N.out with⟨he,h0⟩|⟨g',c,cur,he,aO,_,S,F,_⟩
    ·omega
    ·simp at he;have aT:k=n:=by omega
     exact⟨by omega,g',by omega,(dp.1 F).1,he.1,by omega,(W.out g' he.1).2.2.1,by rw[←aT];exact(W.out g' he.1).2.2.2⟩
   have V:Hid (0<n→n≤f∧∃g,w.heap.size≤g∧g<w1.heap.size∧s=some ⟨g,0,none⟩∧g≠w.heap.size+1∧n7 wr g n P∧∃t,mZ wr g w1.heap.size n t):=L;clear L
   go_wp2_with fail
   refine iZ (v:=.agg #[.int .i64 au,.int .u32 id,.int .u32 nh,.slice s n f]) (by simp[results,Tryz.results40,go_sem, *]) rfl ⟨s,f,rfl,(((Y.setCell (by simp) _).setCell (by simp) _).setCell (by simp) _).setCell (by simp) _,fun hn=>?_⟩;obtain⟨h0,g,h1,aU,h2,h3,h4,t,h5⟩:=V.out hn;refine⟨h0,g,_,t,h1,aU,h2,(((h4.other _ (by simp;omega) _).other _ (by simp;omega) _).other _ (by simp;omega) _).other _ (by simp;omega) _,h5.keep (by simp) (fun i hi=>?_) fun b hb hl=>?_⟩
   ·exact⟨by rw[jK _ _ _ _ (by simp<;>omega),jK _ _ _ _ (by simp<;>omega),jK _ _ _ _ (by simp<;>omega),jK _ _ _ _ (by simp<;>omega)],by rw[jK _ _ _ _ (by simp<;>omega),jK _ _ _ _ (by simp<;>omega),jK _ _ _ _ (by simp<;>omega),jK _ _ _ _ (by simp<;>omega)]⟩
   ·rw[kn (by omega) 3 _,kn (by omega) 2 _,kn (by omega) 1 _,kn (by omega) 0 _]
end
section
open Go Go.RowKit
open Go.Proofs.YtjnkcibpkkjniaaGreat.kj (kH lf nO)
open Go.Proofs.YtjnkcibpkkjniaaGreat.j7 (lO)
theorem RX:∃i z,uD 100 i z 14 160∧∀u∈z.cells.toList,Pl u:=by
 obtain⟨i,z,h⟩:∃i z,uD 100 i z 14 160:=yn (by kernel_rfl);refine⟨i,z,h,?_⟩;have a:((Tryz.prog.info? 100).bind fun i=>i.zero.map (·.cells))=some #[.int .i64 0,.int .u32 0,.int .i64 0,.int .i64 0,.int .i64 0,.int .i64 0,.int .i64 0,.slice none 0 0,.slice none 0 0,.int .i64 0,.int .i64 0,.int .i64 0,.int .i64 0,.slice none 0 0]:=by kernel_rfl
 rw[h.info]at a;simp only[dW,h.zero,dH,dR]at a;rw[a];intro u hu;simp at hu;rcases hu with rfl|rfl|rfl|rfl|rfl|rfl
 all_goals first|exact Pl.int _ _|exact Pl.lW _ _
noncomputable def pB:Array Oper:=((Tryz.f20.body).bind (opsOf 8)).getD #[]
theorem RY:kH pB [1,3,5,7,18,19,20] 42=true:=by kernel_rfl
theorem RZ:lf pB=true:=by kernel_rfl
theorem R6:pB.size=16:=by kernel_rfl
end
end Go.Proofs.YtjnkcibpkkjniaaGreat
