/- Proved: waypostkeep.Whole answers true for every configuration, every list of ticks and all inputs that can be read as data, on every schedule, and leaves them as they were; no condition of ours stands behind it. -/
import Derived.Test.YtjnkcibpkkjniaaGreatA00
import Derived.Test.YtjnkcibpkkjniaaGreatA36
import Derived.Conc.LeavingOf
import Derived.Deep.OwnRows
set_option linter.all false
set_option maxHeartbeats 2000000
set_option maxRecDepth 100000
namespace Go.Proofs.YtjnkcibpkkjniaaGreat
section
open Go.ChangeShapes Go.WideShapes Go.ChangeAt Go.RowKit Go.Deep Go.Conc Go.Proofs.YtjnkcibpkkjniaaGreat.j7 Go.Proofs.YtjnkcibpkkjniaaGreat.kj
theorem Tryz.own:ownKnob Tryz.prog.godebug=none:=by kernel_rfl
theorem Tryz.laidOut:laidOutB Tryz.prog=true:=by kernel_rfl
variable {W:World}
theorem TL{a:Addr}{row:TypeId}{cells:Nat}(h:W.shape? a.block=some (row,cells)):∃C e fr,W.heap[a.block]?=some (.cells C e fr):=by
 unfold World.shape? at h;split at h
 ·rename_i c e f b;exact⟨c,e,f,b⟩
 ·cases h
theorem Bf{base:Nat}{t e:TypeId}(d:Tryz.prog.underlying t=some (.slice e)){ao:Option Addr}{l c:Nat}(h:Cell.okWide Tryz.prog W .any base t (.slice ao l c)):Arg W ao:=by
 intro a f;subst f;simp only[Cell.okWide,d,Cell.ok,World.has]at h;obtain⟨_,_,_,_,row,cells,b,_⟩:=h;exact TL b
theorem TM(os:Os)(started:os.Started)(H:Type)(enc:TypeId×Value→H):ReturnsInLeavingWide {} Tryz.checked os 9 .any (Rows.wholeSpec.pre6 enc Tryz.prog Tryz.f9 Rows.wholeRow.domain false) (Rows.wholeSpec.post enc Tryz.prog Tryz.f9 false true false false):=by
 refine returnsInLeavingWide_of_change_sized (C:=Tryz.checked) Tryz.own started Tryz.func9
  (ChangeSpec.witness6 (enc:=enc) (C:=Tryz.checked) false ⟨#[],#[.agg #[.int .i64 0,.int .u32 0,.int .u32 0,.slice none 0 0],.slice none 0 0,.slice none 0 0],[]⟩ 8 (by kernel_rfl) (by kernel_rfl) (by kernel_rfl) (by kernel_rfl)) ?_
 intro W base args ds gs before c hW _ s _;have hsz:(DataW.weightsEach Tryz.prog (Tryz.f9.params.toList++Rows.wholeSpec.plain.varTypes Tryz.prog) (ds++gs)).all (·≤reachBytes)=true:=s;clear s;have a:∀(j:Nat) t v,Tryz.f9.params[j]?=some t→args[j]?=some v→Value.okWide Tryz.prog W .any base t v:=c;have B:=hW;obtain⟨p,q,F,hV,rfl,_,_⟩:=hW;have R:DataW.TrodAll enc Tryz.prog W 0 (fun _=>true) true Tryz.f9.params.toList args.toList ds p:=F;rw[Tryz.params9]at R a hsz;obtain⟨v0,v1,v2,d0,d1,d2,w,A,p2,rfl,rfl,rfl,h0,h1,h2⟩:=trodAll_three R;obtain⟨rfl,rfl⟩:=trodVars_none hV;clear F c R;simp only[gZ]at B;have D:∀x∈w++A++p2,x.block<W.heap.size:=fun x hx=>by simpa using B.lt x hx
 have E:∀(j:Nat)(t:TypeId)(d:DataW H),([25,31,47]:List TypeId)[j]?=some t→[d0,d1,d2][j]?=some d→∀m∈d.weights Tryz.prog t,m≤reachBytes:=fun j t d f hd m hm=>by
  have:=ek.1 hsz m (jP (j:=j) (t:=t) (by
   match j,f with
   |0,f=>exact f
   |1,f=>exact f
   |2,f=>exact f) (by
   match j,hd with
   |0,hd=>exact hd
   |1,hd=>exact hd
   |2,hd=>exact hd) m hm)
  simpa using this
 obtain⟨c0,c1,c2,c3,y0,y1,y2,y3,n,rfl,hd,_,t0,t1,t2,t3⟩:=Joins.open_agg4 Tryz.underlying25 (by kernel_rfl) Tryz.Tn (a 0 25 v0 rfl rfl) h0;obtain⟨au,e0,_,_⟩:=jO Tryz.underlying3 t0;obtain⟨id,e1,_,wid⟩:=jO Tryz.underlying22 t1;obtain⟨nh,e2,_,_⟩:=jO Tryz.underlying22 t2;obtain rfl:c0=.int .i64 au:=by simpa using e0
 obtain rfl:c1=.int .u32 id:=by simpa using e1
 obtain rfl:c2=.int .u32 nh:=by simpa using e2
 have S:∀m∈y3.1.weights Tryz.prog 23,m≤reachBytes:=fun m hm=>by
  apply E 0 25 d0 rfl rfl;rw[hd];simp only[DataW.weights,Tryz.underlying25];exact jP (j:=3) (t:=23) rfl rfl m hm
 obtain⟨m,P,hP,_,T⟩:=Tv (fun _=>rfl) (v:=c3) t3 S;obtain⟨ao,cap,rfl⟩:∃ao cap,c3=.slice ao m cap:=by obtain⟨⟨ao,cap,hv,_⟩,_⟩:=hP;exact⟨ao,cap,hv⟩
 have hid:0≤id:=(wf_u32 wid).1;have U:=h1;have V:=h2;obtain⟨f1,G⟩:=h1;obtain⟨f2,I⟩:=h2;obtain⟨J,g,tc,rfl⟩:=okWide_slice Tryz.underlying31 (a 1 31 v1 rfl rfl);obtain⟨ia,l,ic,rfl⟩:=okWide_slice Tryz.underlying47 (a 2 47 v2 rfl rfl);simp only[Value.cells]at G I;obtain⟨nt,ct,Dt,X,aj,K⟩:=xp (size:=1) (bytes:=8) Tryz.underlying31 Tryz.rn (by omega) (by kernel_rfl) G (E 1 31 d1 rfl rfl);obtain⟨ni,u,Y,_,Z⟩:=TG (fun _=>rfl) I (E 2 47 d2 rfl rfl);have aa:Arg W J:=Bf Tryz.underlying31 (by have h:=a 1 31 (.slice J g tc) rfl rfl;unfold Value.okWide at h;rw[Tryz.underlying31]at h;exact h);have ab:Arg W ia:=Bf Tryz.underlying47 (by have h:=a 2 47 (.slice ia l ic) rfl rfl;unfold Value.okWide at h;rw[Tryz.underlying47]at h;exact h);have ad:Arg W ao:=by
  have h:=a 0 25 (.agg #[.int .i64 au,.int .u32 id,.int .u32 nh,.slice ao m cap]) rfl rfl;unfold Value.okWide at h;rw[Tryz.underlying25]at h;obtain⟨cs,e,_,ts,L,_,M⟩:=h
  cases e
  have f:Tryz.prog.cellTypes Tryz.prog.depth 25=some [3,22,22,23]:=by kernel_rfl
  rw[f]at L
  cases L
  obtain⟨u,hu,hc⟩:=M 3 (.slice ao m cap) rfl
  cases hu
  exact Bf Tryz.underlying23 hc
 obtain⟨ak,al,ev,_,_,ae⟩:=X
 cases ev
 obtain⟨am,an,ev,_,_,af⟩:=Y
 cases ev
 have hT:∀i,i<g→∃tb to t,J=some ⟨tb,to,none⟩∧W.cell? ⟨tb,to+i,none⟩=some (.int .i64 t):=fun i O=>by
  obtain⟨b,o,e,h5⟩:=ae (by omega);obtain⟨⟨k,y,hy,_⟩,_⟩:=K i O;obtain⟨z,hz,_,_⟩:=jO Tryz.underlying3 hy;refine⟨b,o,z,e,?_⟩;have:=h5 i O 0 (.int .i64 z) (by rw[hz];rfl);rw[show o+i=o+i*1+0 by omega];exact this
 have hI:∀i,i<l→∃(jb jo:Nat)(u:Value)(m:Nat)(r:Nat→kC),ia=some ⟨jb,jo,none⟩∧W.cell? ⟨jb,jo+i,none⟩=some u∧Sl W 3 u m (fun i=>kC.cells (r i))∧m≤4398046511103∧Dz W u∧∀j<m,Bytes (r j).d∧(r j).d.length≤140737488351232:=fun i O=>by
  obtain⟨b,o,e,h5⟩:=af (by omega);obtain⟨m,r,q1,q2,q3,q4⟩:=Z i O;refine⟨b,o,u i,m,r,e,?_,q1,q2,q3,q4⟩;have:=h5 i O 0 (u i) rfl;rw[show o+i=o+i*1+0 by omega];exact this
 obtain⟨N,last,o,w',t',r1,r2,r3,r4⟩:=TK (au:=au) (id:=id) (nh:=nh) (tc:=tc) (ic:=ic) W hP T hid (by omega) hT hI ad aa ab;refine⟨N,last,o,w',t',r1,r2,r3,r4.mono fun v hp=>?_⟩;obtain⟨rfl,hb,ag,Q⟩:=hp;have hB:Below W.heap.size W { w' with tape:=W.tape }:=⟨ag,rfl,Q,A5 hb,hb⟩;have g0:=Below.trod Tryz.laidOut (by kernel_rfl) (jQ (by kernel_rfl)) h0 hB fun x hx=>D x (gV _ (gV _ hx))
 have g1:=Below.trod Tryz.laidOut (by kernel_rfl) (jQ (by kernel_rfl)) U hB fun x hx=>D x (gV _ (gL _ hx))
 have g2:=Below.trod Tryz.laidOut (by kernel_rfl) (jQ (by kernel_rfl)) V hB fun x hx=>D x (gL _ hx)
 have ah:DataW.TrodAll enc Tryz.prog { w' with tape:=W.tape } 0 (fun b=>decide (b<W.heap.size)) true [25,31,47] [.agg #[.int .i64 au,.int .u32 id,.int .u32 nh,.slice ao m cap],.slice J g tc,.slice ia l ic] [d0,d1,d2] (w++A++p2) :=
  ⟨w,A++p2,g0,trodAll_mk2 g1 g2,by rw[iz]⟩
 have ai:DataW.TrodAll enc Tryz.prog w' 0 (fun b=>decide (b<W.heap.size)) true [25,31,47] [.agg #[.int .i64 au,.int .u32 id,.int .u32 nh,.slice ao m cap],.slice J g tc,.slice ia l ic] [d0,d1,d2] (w++A++p2):=DataW.TrodAll.of_heap (w':=w') (show({ w' with tape:=W.tape }:World).heap=w'.heap from rfl) ah;have hk:=hB.frame fun p=>p∈w++A++p2∧(p∈[]∨p∈w++A++p2∨p∈[])
 refine⟨[d0,d1,d2],[],w++A++p2,[],w++A++p2,[],B,?_,?_,rfl,⟨hk.1,hk.2.1,hk.2.2⟩,fun h=>by cases h⟩
 ·exact trodAll_mk1 (shut_bool Tryz.underlying4 true)
 ·exact ai
theorem whole_holds:Rows.WholeSaid :=
 OpenClaim.holds_of_wide_leaving 9 Tryz.f9 rfl rfl rfl rfl rfl rfl rfl ⟨rfl,rfl,rfl,rfl,rfl⟩ rfl rfl rfl rfl rfl (by kernel_rfl) Tryz.func9 (by kernel_rfl)
  (jQ (by kernel_rfl)) (by unfold Func.isWrapper;rw[dk (of_decide_eq_false (by kernel_rfl))];exact⟨rfl,rfl⟩)
  (fun os started H enc _=>TM os started H enc)
end
end Go.Proofs.YtjnkcibpkkjniaaGreat
