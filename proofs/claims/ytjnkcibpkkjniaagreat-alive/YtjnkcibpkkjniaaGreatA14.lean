import Derived.Test.YtjnkcibpkkjniaaGreatA13
import Derived.Conc.TokenWalk
import Derived.Test.YtjnkcibpkkjniaaGreatA07
set_option linter.unusedVariables false
set_option linter.unusedSimpArgs false
set_option linter.unusedSectionVars false
namespace Go.Proofs.YtjnkcibpkkjniaaGreat.Pool
open Go.Conc Go.ConcN Go.Conc.Lib Go.ConcR.Gen Go.ConcN.Gen Go.Proofs.YtjnkcibpkkjniaaGreat.Sim
open Go.ConcR (KK wgBlock WgAt stA smA rd wr mk DC0)
variable [Scope]
noncomputable def w2ops0:Array Oper:=match Tryz.f61.body with
 | some (.seq (.region _ ops _) _)=>ops
 | _=>#[]
noncomputable def w2ops1:Array Oper:=match Tryz.f61.body with
 | some (.seq _ (.region _ ops _))=>ops
 | _=>#[]
def ScB (b:Nat) (x:Nat):Prop:=x=b
abbrev FC (bG CF:Nat) (w:World):Prop:=w.cell? ⟨bG,0,none⟩=some (.chan (some CF))
noncomputable def cact (Wg bG:Nat):Act:=⟨#[box Wg,box bG,undef,undef],[]⟩
noncomputable def cfr (Wg bG:Nat):Frame:=(baseD 61).at (cact Wg bG) [.inRegion w2ops0 [0], .code (.region 1 w2ops1 false)]
noncomputable def CAnch (Wg bG CF:Nat):Goroutine→World→Prop:=WaH Tryz.link (FC bG CF) Wg (cfr Wg bG) [botF Tryz.prog]
abbrev RKc (Wg bG:Nat):World→World→Prop:=RK Tryz.link.tWg Wg (ScB bG)
theorem terms_c {Wg bG CF:Nat} (hne:bG≠Wg):Terms2 (RKc Wg bG) (FC bG CF) Tryz.link.tWg Wg :=
 ⟨RK.trans,fun _ _ h=>h.live,fun _ _ h hF=>(cell_of_block (h.keep _ rfl) 0).trans hF,fun w a v ha hF=>by
  have:=(aside_setCell w a v).block bG (by rw [ha];exact hne)
  exact (cell_of_block this 0).trans hF⟩
set_option maxRecDepth 100000 in
set_option maxHeartbeats 4000000 in
theorem c_next {N:Nums} {Wg bG CF:Nat} (hN:N.CF=CF∧N.Wg=Wg∧N.ty=Tryz.link.tWg) (v:Value) (w:World) (hF:FC bG CF w) :
  Goes Tryz.prog false (RKc Wg bG) (DQ (ScB bG)) (AtClose Tryz.prog N) 5 (G ((baseD 61).at ⟨#[box Wg,box bG,v,undef],[]⟩ [.inRegion w2ops0 [], .code (.region 1 w2ops1 false)]) [botF Tryz.prog]) w:=by
 ((refine Goes.step rfl (fun _ h₁=>?_);replace hF:FC _ _ _:=(cell_of_block (RK.keep h₁ _ rfl) 0).trans hF;clear h₁);rw [stepG_region_end];simp only [goes_go];refine ⟨DQ.nil,?_⟩)
 simp only [w2ops1,Tryz.f61]
 ((refine Goes.step rfl (fun _ h₁=>?_);replace hF:FC _ _ _:=(cell_of_block (RK.keep h₁ _ rfl) 0).trans hF;clear h₁);rw [stepG_region];simp only [goes_go,List.size_toArray,List.length_cons,List.length_nil,Nat.reduceAdd,Nat.zero_add,List.range,List.range.loop];refine ⟨DQ.nil,?_⟩)
 (refine Goes.step rfl (fun _ h₁=>?_);replace hF:FC _ _ _:=(cell_of_block (RK.keep h₁ _ rfl) 0).trans hF;clear h₁)
 refine goes_oper_k rfl rfl (by decide) (fun K hK=>?_)
 simp only [box] at *
 go_simp
 refine hK _ _ ⟨⟨⟨_,rfl⟩,fun e he=>?_⟩,?_⟩
 ·have hm:=mem_listed he
  simp [go_sem, *] at hm
  subst hm
  exact ⟨_,rfl,rfl⟩
 clear hK K
 refine Goes.stop fun w₁ h₁=>?_
 replace hF:FC _ _ _:=(cell_of_block (RK.keep h₁ _ rfl) 0).trans hF
 clear h₁
 refine ⟨rfl,rfl,fun hc=>?_⟩
 obtain ⟨rfl,rfl,_⟩:=hN
 refine ⟨_,stepG_close rfl rfl (by decide) rfl rfl hc (by kernel_rfl),4,?_⟩
 q_c stepG_region_end
 q_c stepG_end
 exact quits_bot Tryz.func61 rfl
theorem c_anch {N:Nums} {Wg bG CF:Nat} (hN:N.CF=CF∧N.Wg=Wg∧N.ty=Tryz.link.tWg) (hne:bG≠Wg) (g:Goroutine) (w:World) (h:CAnch Wg bG CF g w) :
  ∃ m,Goes Tryz.prog false (RK N.ty N.Wg (ScB bG)) DC0 (Wa1 Tryz.prog false (RK N.ty N.Wg (ScB bG)) N.ty N.Wg (CAnch Wg bG CF) (Nx Tryz.prog N (ScB bG) 5)) m g w:=by
 obtain ⟨h1,h2,h3⟩:=hN
 subst h2
 rw [h3]
 have:=wait_round (mn:=false) (mT:=0) (Next:=Nx Tryz.prog N (ScB bG) 5) Tryz.wgLib (terms_c hne) (b₀:=baseD 61) (a₀:=cact N.Wg bG) (ops₀:=w2ops0) (i₀:=0) (rest₀:=[]) (k₀:=[.code (.region 1 w2ops1 false)]) (cs:=[botF Tryz.prog])
  (fun w hF hl=>Goes.stop fun w₁ h₁=>?_) g w h
 ·exact this
 ·show Goes Tryz.prog false (RK N.ty N.Wg (ScB bG)) (DQ (ScB bG)) (AtClose Tryz.prog N) 5 _ _
  rw [h3]
  have hF':FC bG CF w₁:=(cell_of_block (RK.keep h₁ _ rfl) 0).trans hF
  exact c_next ⟨h1,rfl,h3⟩ (.tuple #[]) w₁ hF'
set_option maxRecDepth 100000 in
set_option maxHeartbeats 4000000 in
theorem close_script {Wg bG CF:Nat} (hne:bG≠Wg) {w:World} (hF:FC bG CF w) (hl:WgLive Tryz.link.tWg Wg w) :
  Goes Tryz.prog false (RKc Wg bG) (DQ (ScB bG)) (Says Tryz.prog false (RKc Wg bG) (mk .disable) (CAnch Wg bG CF)) 7 (born Tryz.prog (ccall 61 #[box Wg,box bG])) w:=by
 have hF:=And.intro hF hl
 have rl:∀ {w w₁:World},FC bG CF w∧WgLive Tryz.link.tWg Wg w→RKc Wg bG w w₁→FC bG CF w₁∧WgLive Tryz.link.tWg Wg w₁:=fun h r=>(terms_c hne).rl h r
 refine Goes.step rfl fun w₁ h₁=>?_
 replace hF:=rl hF h₁
 clear h₁
 rw [born_clos Tryz.func61 rfl rfl]
 simp only [goes_go]
 refine ⟨DQ.nil,?_⟩
 walk_nrmf Tryz.f61
 refine Goes.step rfl fun w₁ h₁=>?_
 replace hF:=rl hF h₁
 clear h₁
 rw [stepG_seq]
 simp only [goes_go]
 refine ⟨DQ.nil,?_⟩
 refine Goes.step rfl fun w₁ h₁=>?_
 replace hF:=rl hF h₁
 clear h₁
 rw [stepG_region]
 simp only [goes_go,List.size_toArray,List.length_cons,List.length_nil,Nat.reduceAdd,Nat.zero_add,List.range,List.range.loop]
 refine ⟨DQ.nil,?_⟩
 refine Goes.step rfl fun w₁ h₁=>?_
 replace hF:=rl hF h₁
 clear h₁
 refine goes_call rfl rfl (by decide) rfl Tryz.wgLib.f_wait rfl rfl ⟨DQ.nil,?_⟩
 walk_nrm
 refine Goes.mono (n:=3) (Goes.monoD (fun _ _ _ h=>DQ.of0 h) ?_) (by decide)
 have hA:=wait_start (mn:=false) (R:=RKc Wg bG) Tryz.wgLib (terms_c hne) (b₀:=baseD 61) (a₀:=cact Wg bG) (ops₀:=w2ops0) (i₀:=0) (rest₀:=[]) (k₀:=[.code (.region 1 w2ops1 false)]) (cs:=[botF Tryz.prog]) _ hF
 exact hA
end Go.Proofs.YtjnkcibpkkjniaaGreat.Pool
namespace Go.Proofs.YtjnkcibpkkjniaaGreat
open Go Go.RowKit
theorem run_append_all {P:Program} {w:World} (Q:Value→Prop) (base:Nat) (t ty e:TypeId) (i:TypeInfo) (z:Value) (size bytes:Nat) (ht:P.underlying t=some (.slice e)) (hi:P.info? e=some i) (hz:i.zero=some z)
  (hsize:i.size=size) (hby:i.bytes=bytes) (hzs:z.cells.size=size) (hsz:0 < size)
  (v:Value) (n:Nat) (xs:List Value) (hown:w.ownsRow base e size v n xs)
  (a:Addr) (m c:Nat) (news:List Value) (hl:news.length=m * size) (hnews:∀ j u,news[j]? = some u→w.cell? (a.add j)=some u) (h1:∀ u∈news,u.oneCell'=true)
  (h63:n+m≤maxLen) (hbytes:(n+m) * bytes≤140737488355328) (hbase:base≤w.heap.size)
  (hQz:∀ u∈z.cells.toList,Q u) (hQn:∀ u∈news,Q u) (hQv:AllQ Q w v) :
  ∃ v' w',(Builtin.append_ #[t,t] ty #[v, .slice (some a) m c]).run P w=.ok v' w'∧w'.ownsRow base e size v' (n+m) (xs++news)∧w.grownBy w' v.ownBlock∧AllQ Q w' v'∧(v'.ownBlock=v.ownBlock∨v'.ownBlock=some w.heap.size):=by
 obtain ⟨v',w',hr,h2,h3,h4⟩:=run_append_own (P:=P) w base t ty e i z size bytes ht hi hz hsize hby hzs hsz v n xs hown a m c news hl hnews h1 h63 hbytes hbase
 refine ⟨v',w',hr,h2,h3,?_⟩
 subst hsize
 subst hby
 rcases hown.2 with ⟨rfl,rfl⟩ | ⟨g,cap,cur,rfl,hbg,hg,hnc,hcm,hcs,htake⟩
 ·by_cases hm:m=0
  ·subst hm
   have:v'=.slice none 0 0:=h4.2 ⟨rfl,rfl⟩
   subst this
   exact ⟨AllQ.nil _ _, .inl rfl⟩
  ·have hr2:=run_append_nil (P:=P) w t ty e i z ht hi hz a m c news hl hnews (by omega) (by have:=h63;simp only [maxLen] at this;omega) (by have hb:=hbytes;simp only [Nat.zero_add] at hb;omega)
   rw [hr] at hr2
   simp only [Result.ok.injEq] at hr2
   obtain ⟨rfl,rfl⟩:=hr2
   refine ⟨fun k cur ty fr e1 e2 u hu=>?_, .inr rfl⟩
   cases e1
   have e3:=(heap_alloc_new w.drew _).symm.trans e2
   cases e3
   simp only [Array.toList_append,List.mem_append] at hu
   rcases hu with hu | hu
   ·exact hQn u hu
   ·exact hQz u (zeroCells_mem (by omega) hu)
 ·by_cases hroom:n+m≤cap
  ·have hfit:n * i.size+news.length≤cur.size:=by rw [hl,hcs,←Nat.add_mul];exact Nat.mul_le_mul_right _ hroom
   have hr2:=run_append_room (P:=P) w t ty e i ht hi g n cap cur hg a m c news hl hnews h1 hroom hfit
   rw [hr] at hr2
   simp only [Result.ok.injEq] at hr2
   obtain ⟨rfl,rfl⟩:=hr2
   have hq:=hQv g cur e (0,0) rfl hg
   refine ⟨fun k cur' ty' fr e1 e2 u hu=>?_, .inl rfl⟩
   cases e1
   rw [setRow_heap w g cur _ e _ hg] at e2
   cases e2
   simp only [List.mem_append] at hu
   rcases hu with (hu | hu) | hu
   ·exact hq u (List.mem_of_mem_take hu)
   ·exact hQn u hu
   ·exact hq u (List.mem_of_mem_drop hu)
  ·have holds:∀ j u,xs[j]? = some u→w.cell? ((⟨g,0,none⟩:Addr).add j)=some u:=hown.cells (g:=g) rfl
   have hr2:=run_append_grow (P:=P) w t ty e i z ht hi hz ⟨g,0,none⟩ n cap xs hown.1 holds a m c news hl hnews (by omega) (by have:=h63;simp only [maxLen] at this;omega) (growslice_fits (by omega) hbytes)
   rw [hr] at hr2
   simp only [Result.ok.injEq] at hr2
   obtain ⟨rfl,rfl⟩:=hr2
   have hq:=hQv g cur e (0,0) rfl hg
   refine ⟨fun k cur' ty' fr e1 e2 u hu=>?_, .inr rfl⟩
   cases e1
   have e3:=(heap_alloc_new w.drew _).symm.trans e2
   cases e3
   simp only [Array.toList_append,List.mem_append] at hu
   rcases hu with (hu | hu) | hu
   ·rw [←htake] at hu
    exact hq u (List.mem_of_mem_take hu)
   ·exact hQn u hu
   ·exact hQz u (zeroCells_mem (by omega) hu)
theorem step_append_all {P:Program} {ops:Array Oper} {o:Oper} {a:Act} {w:World} {K:Act→World→Prop} {Q:Exit→Act→World→Prop} {E:Prop}
  (hg:o.guard=none) (s x:Operand) (t:TypeId) (hop:o.op=Op.call { callee:=Callee.builtin Builtin.append,args:=#[s,x],argTypes:=#[t,t] })
  (Qq:Value→Prop) (base:Nat) (e:TypeId) (i:TypeInfo) (z:Value) (size bytes:Nat) (h1:P.underlying t=some (.slice e)) (h2:P.info? e=some i) (h3:i.zero=some z) (h4:i.size=size) (h5:i.bytes=bytes) (h6:z.cells.size=size) (h7:0 < size)
  (v:Value) (n:Nat) (xs:List Value) (hs:a.eval s=v) (hown:w.ownsRow base e size v n xs)
  (ad:Addr) (m c:Nat) (news:List Value) (hx:a.eval x=.slice (some ad) m c) (hn:news.length=m * size) (hc:∀ j u,news[j]? = some u→w.cell? (ad.add j)=some u) (h1c:∀ u∈news,u.oneCell'=true)
  (b1:n+m≤maxLen) (b2:(n+m) * bytes≤140737488355328) (hb:base≤w.heap.size) (q1:∀ u∈z.cells.toList,Qq u) (q2:∀ u∈news,Qq u) (q3:AllQ Qq w v)
  (hK:∀ v' w',w'.ownsRow base e size v' (n+m) (xs++news)→w.grownBy w' v.ownBlock→AllQ Qq w' v'→(v'.ownBlock=v.ownBlock∨v'.ownBlock=some w.heap.size)→K (a.put o.dst v') w') :
  if Region.wanted o (yielded ops a.tmps)=true then Oper.wp P o a w K Q else E:=by
 have hw:Region.wanted o (yielded ops a.tmps)=true:=by simp [Region.wanted,hg]
 rw [if_pos hw]
 obtain ⟨v',w',hrun,r1,r2,r3,r4⟩:=run_append_all (P:=P) Qq base t o.type e i z size bytes h1 h2 h3 h4 h5 h6 h7 v n xs hown ad m c news hn hc h1c b1 b2 hb q1 q2 q3
 unfold Oper.wp
 simp [execOp,hop,resolve,invoke,builtin,hs,hx,hrun,Result.andThen]
 exact hK v' w' r1 r2 r3 r4
theorem wpList_append_all {P:Program} {w:World} {ops:Array Oper} {rest:List Oper} {o:Oper} {a:Act} {Q:Exit→Act→World→Prop} (hgd:o.guard=none) (s x:Operand) (t:TypeId) (hop:o.op=Op.call { callee:=Callee.builtin Builtin.append,args:=#[s,x],argTypes:=#[t,t] })
  (Qq:Value→Prop) (base:Nat) (e:TypeId) (i:TypeInfo) (z:Value) (size bytes:Nat) (h1:P.underlying t=some (.slice e)) (h2:P.info? e=some i) (h3:i.zero=some z) (h4:i.size=size) (h5:i.bytes=bytes) (h6:z.cells.size=size) (h7:0 < size)
  (v:Value) (n:Nat) (xs:List Value) (hs:a.eval s=v) (hown:w.ownsRow base e size v n xs)
  (ad:Addr) (m c:Nat) (news:List Value) (hx:a.eval x=.slice (some ad) m c) (hn:news.length=m * size) (hc:∀ j u,news[j]? = some u→w.cell? (ad.add j)=some u) (h1c:∀ u∈news,u.oneCell'=true)
  (b1:n+m≤maxLen) (b2:(n+m) * bytes≤140737488355328) (hb:base≤w.heap.size) (q1:∀ u∈z.cells.toList,Qq u) (q2:∀ u∈news,Qq u) (q3:AllQ Qq w v)
  (h:∀ v' w',w'.ownsRow base e size v' (n+m) (xs++news)→w.grownBy w' v.ownBlock→AllQ Qq w' v'→(v'.ownBlock=v.ownBlock∨v'.ownBlock=some w.heap.size)→wpList P ops Q rest (a.put o.dst v') w'):wpList P ops Q (o::rest) a w :=
 wpList_plain hgd fun _ hK=>by
  obtain ⟨v',w',hrun,r1,r2,r3,r4⟩:=run_append_all (P:=P) Qq base t o.type e i z size bytes h1 h2 h3 h4 h5 h6 h7 v n xs hown ad m c news hn hc h1c b1 b2 hb q1 q2 q3
  unfold Oper.wp execOp
  simp only [hop,resolve,invoke,builtin,Sem.run_bind,Sem.run_pure,Result.andThen_ok,List.map_toArray,List.map_cons,List.map_nil,hs,hx,hrun]
  exact hK _ _ (h v' w' r1 r2 r3 r4)
end Go.Proofs.YtjnkcibpkkjniaaGreat
namespace Go.Proofs.YtjnkcibpkkjniaaGreat.Pool
open Go Go.RowKit
def topB (ops:Array Oper):Bool:=(List.range (ops.size - 1)).all fun j=>(List.range ops.size).any fun k=>decide (j < k) && match ops[k]? with | some o=>o.after.any fun e=>decide (e.on=j) && Region.binds .any e | none=>false
theorem topB_at {ops:Array Oper} (h:topB ops=true) {j:Nat} (hj:j+1 < ops.size):∃ k o,j < k∧ops[k]? = some o∧∃ e∈o.after,e.on=j∧Region.binds .any e=true:=by
 have h1:=List.all_eq_true.1 h j (List.mem_range.2 (by omega))
 obtain ⟨k,_,h2⟩:=List.any_eq_true.1 h1
 simp only [Bool.and_eq_true,decide_eq_true_eq] at h2
 obtain ⟨h3,h4⟩:=h2
 cases ho:ops[k]? with
 | none=>rw [ho] at h4;cases h4
 | some o =>
  rw [ho] at h4
  simp only at h4
  rw [Array.any_eq_true] at h4
  obtain ⟨i,hi,h5⟩:=h4
  simp only [Bool.and_eq_true,decide_eq_true_eq] at h5
  exact ⟨k,o,h3,ho,o.after[i],Array.getElem_mem hi,h5.1,h5.2⟩
theorem TabPD.all {D:List Deferred} {ops:Array Oper} {val:Nat→Value→World→Prop} {fix:List (Nat×Value)} {T:Nat} {listed:Array Bool} {a:Act} {w:World} (ht:TabPD D ops val fix T listed a w) (htop:topB ops=true) {n:Nat} (hn:ops.size=n+1) (hl:listed.getD n false=true) :
  ∀ i,i < ops.size→listed.getD i false=true:=by
 have key:∀ d i,i+d=n→listed.getD i false=true:=by
  intro d
  induction d using Nat.strongRecOn with
  | _ d ih =>
   intro i hi
   rcases Nat.eq_zero_or_pos d with rfl | hd
   ·obtain rfl:i=n:=by omega
    exact hl
   ·obtain ⟨k,o,h1,h2,e,h3,h4,h5⟩:=topB_at htop (j:=i) (by omega)
    have hk:k < ops.size:=(Array.getElem?_eq_some_iff.1 h2).1
    have:=ih (n - k) (by omega) k (by omega)
    have:=ht.deps k o h2 this e h3 h5
    rw [h4] at this
    exact this
 intro i hi
 exact key (n - i) i (by omega)
section
variable {P:Program} {ops:Array Oper} {Q:Exit→Act→World→Prop} {val:Nat→Value→World→Prop} {fix:List (Nat×Value)} {T:Nat} {w0:World} {Post:Act→World→Prop} {n:Nat} {D:List Deferred}
theorem wp_region_lb {id:Nat} {a:Act} {w:World} (hm:P.follows .mixedOrders=true) (hok:okOps ops (fix.map (·.1)) T=true) (htop:topB ops=true) (hn:ops.size=n+1)
  (hmono:∀ w w' j u,Below w.heap.size w w'→val j u w→val j u w')
  (hop:∀ (i:Nat) (o:Oper) (a:Act) (w:World),i < n→ops[i]? = some o→(∀ x∈fix,a.tmps[x.1]? = some x.2)→(∀ (j:Nat) (o':Oper) (d:Nat),ops[j]? = some o'→o'.dst=some d→(∃ e∈o.after,e.on=j∧Region.binds .any e=true)→∃ v,a.tmps[d]? = some v∧val j v w)→Below w0.heap.size w0 w →
   ∀ K:Act→World→Prop,(∀ v w',val i v w'→Below w.heap.size w w'→K (a.put o.dst v) w')→o.wp P a w K Q)
  (hlast:∀ (o:Oper) (a:Act) (w:World),ops[n]? = some o→(∀ x∈fix,a.tmps[x.1]? = some x.2)→(∀ (j:Nat) (o':Oper) (d:Nat),ops[j]? = some o'→o'.dst=some d→(∃ e∈o.after,e.on=j∧Region.binds .any e=true)→∃ v,a.tmps[d]? = some v∧val j v w)→Below w0.heap.size w0 w →
   ∀ K:Act→World→Prop,(∀ v w',Post (a.put o.dst v) w'→K (a.put o.dst v) w')→o.wp P a w K Q)
  (hend:∀ (a:Act) (w:World),a.defers=D→a.tmps.size=T→(∀ x∈fix,a.tmps[x.1]? = some x.2)→Post a w→Q .normal a w)
  (hd:a.defers=D) (hs:a.tmps.size=T) (hf:∀ x∈fix,a.tmps[x.1]? = some x.2) (h0:Below w0.heap.size w0 { w with drawn:=w.drawn+1 }):(Code.region id ops true).wp P Q a w:=by
 have key:∀ (fuel:Nat) (listed:Array Bool) (a:Act) (w:World),TabPD D ops val fix T listed a w→listed.getD n false=false→Below w0.heap.size w0 w→unl ops listed≤fuel→wpAny P .any ops Q fuel listed a w:=by
  intro fuel
  induction fuel with
  | zero =>
   intro listed a w ht hl hB hu
   have hall:=unl_zero (ops:=ops) (listed:=listed) (by omega)
   have:=hall n (by omega)
   rw [hl] at this
   cases this
  | succ fuel ih =>
   intro listed a w ht hl hB hu
   refine ⟨fun hnil=>?_,fun i hi=>?_⟩
   ·have:=ready_all hok ht.lsz hnil n (by omega)
    rw [hl] at this
    cases this
   obtain ⟨hul,o,ho,_⟩:=mem_ready.1 hi
   have hio:i < ops.size:=(Array.getElem?_eq_some_iff.1 ho).1
   have hul':listed.getD i false=false:=by
    have hsz:i < listed.size:=by rw [ht.lsz];exact hio
    rw [Array.getD_eq_getD_getElem?,Array.getElem?_eq_getElem hsz] at hul ⊢
    simpa using hul
   unfold wpOp
   rw [ho]
   have hg:=(okOps_at hok ho).2.2
   have hw:Region.wanted o (yielded ops a.tmps)=true:=by simp [Region.wanted,hg]
   simp only [hw,if_true]
   by_cases hin:i=n
   ·subst hin
    refine .inl (hlast o a w ho ht.fix (fun j o' d hj hd he=>ht.dep ho hi hj hd he) hB _ fun v w' hP=>?_)
    have ht2:TabPD D ops (fun _ _ _=>True) fix T (listed.setIfInBounds i true) (a.put o.dst v) w' :=
     TabPD.put (val:=fun _ _ _=>True) (w:=w) hok ⟨ht.defers,ht.size,ht.fix,fun j o' d h1 h2 h3=>by obtain ⟨v,k1,_⟩:=ht.val j o' d h1 h2 h3;exact ⟨v,k1,trivial⟩,ht.lsz,ht.deps⟩ ho hi trivial (fun _ _ _ _=>trivial)
    have hall:=ht2.all htop hn (by rw [getD_set _ _ _ (by rw [ht.lsz];exact hio)];simp)
    have hQ:=hend _ _ ht2.defers ht2.size ht2.fix hP
    have hnr:Region.ready .any ops (listed.setIfInBounds i true)=[]:=by
     cases hr:Region.ready .any ops (listed.setIfInBounds i true) with
     | nil=>rfl
     | cons x xs =>
      have hx:x∈Region.ready .any ops (listed.setIfInBounds i true):=by rw [hr];simp
      obtain ⟨h1,o2,ho2,_⟩:=mem_ready.1 hx
      have hx':x < ops.size:=(Array.getElem?_eq_some_iff.1 ho2).1
      have h3:=hall x hx'
      have hx2:x < (listed.setIfInBounds i true).size:=by rw [ht2.lsz];exact hx'
      rw [Array.getD_eq_getD_getElem?,Array.getElem?_eq_getElem hx2] at h1 h3
      simp only [Option.getD_some] at h1 h3
      rw [h3] at h1
      cases h1
    cases fuel with
    | zero=>exact ⟨hnr,hQ⟩
    | succ fuel=>exact ⟨fun _=>hQ,fun j hj=>by rw [hnr] at hj;cases hj⟩
   ·refine .inl (hop i o a w (by omega) ho ht.fix (fun j o' d hj hd he=>ht.dep ho hi hj hd he) hB _ fun v w' hv hB'=>?_)
    have:=unl_set hio ht.lsz hul'
    refine ih _ _ _ (ht.put hok ho hi hv fun j u _=>hmono _ _ j u hB') ?_ (hB.trans (hB'.mono hB.size)) (by omega)
    rw [getD_set _ _ _ (by rw [ht.lsz];exact hio),if_neg (fun e=>hin e.symm)]
    exact hl
 refine wp_region_any hm (key ops.size _ a _ ⟨hd,hs,hf,fun i o d _ hl=>?_,by simp,fun i o _ hl=>?_⟩ ?_ h0 ?_)
 ·simp [Array.getD_eq_getD_getElem?,Array.getElem?_replicate] at hl
  split at hl <;> simp at hl
 ·simp [Array.getD_eq_getD_getElem?,Array.getElem?_replicate] at hl
  split at hl <;> simp at hl
 ·simp [Array.getD_eq_getD_getElem?,Array.getElem?_replicate]
  split <;> simp
 ·unfold unl
  exact Nat.le_trans (List.length_filter_le _ _) (by simp)
end
end Go.Proofs.YtjnkcibpkkjniaaGreat.Pool
namespace Go.Proofs.YtjnkcibpkkjniaaGreat
open Go Go.RowKit
open Go.Proofs.YtjnkcibpkkjniaaGreat.Pool (TabP okOps topB wp_region_lb)
set_option maxHeartbeats 2000000
set_option maxRecDepth 20000
theorem arr56 {C:Array Value} (h:C.size=56):∃ c0 c1 c2 c3 c4 c5 c6 c7 c8 c9 c10 c11 c12 c13 c14 c15 c16 c17 c18 c19 c20 c21 c22 c23 c24 c25 c26 c27 c28 c29 c30 c31 c32 c33 c34 c35 c36 c37 c38 c39 c40 c41 c42 c43 c44 c45 c46 c47 c48 c49 c50 c51 c52 c53 c54 c55,C=#[c0,c1,c2,c3,c4,c5,c6,c7,c8,c9,c10,c11,c12,c13,c14,c15,c16,c17,c18,c19,c20,c21,c22,c23,c24,c25,c26,c27,c28,c29,c30,c31,c32,c33,c34,c35,c36,c37,c38,c39,c40,c41,c42,c43,c44,c45,c46,c47,c48,c49,c50,c51,c52,c53,c54,c55]:=by
 obtain ⟨l⟩:=C
 match l,h with
 | c0::c1::c2::c3::c4::c5::c6::c7::c8::c9::c10::c11::c12::c13::c14::c15::c16::c17::c18::c19::c20::c21::c22::c23::c24::c25::c26::c27::c28::c29::c30::c31::c32::c33::c34::c35::c36::c37::c38::c39::c40::c41::c42::c43::c44::c45::c46::c47::c48::c49::c50::c51::c52::c53::c54::c55::[],_=>exact ⟨_,_,_,_,_,_,_,_,_,_,_,_,_,_,_,_,_,_,_,_,_,_,_,_,_,_,_,_,_,_,_,_,_,_,_,_,_,_,_,_,_,_,_,_,_,_,_,_,_,_,_,_,_,_,_,_,rfl⟩
def roV (b x1 x2 x3:List Int) (n1 n2 n3:Int) (n0:Nat):Nat→Value→World→Prop
 | 0,v,_=>v=.string (strOfNums b)
 | 1,v,_=>v=.string (strOfNums x1)
 | 2,v,_=>v=.int .u32 (n1)
 | 3,v,_=>v=.int .i64 (n1)
 | 4,v,_=>v=.string (strOfNums b)
 | 5,v,_=>v=.string (strOfNums x2)
 | 6,v,_=>v=.int .u32 (n2)
 | 7,v,_=>v=.int .i64 (n2)
 | 8,v,_=>v=.string (strOfNums b)
 | 9,v,_=>v=.string (strOfNums x3)
 | 10,v,_=>v=.int .u32 (n3)
 | 11,v,_=>v=.agg #[.int .i64 (n1), .int .i64 (n2), .int .u32 (n3)]
 | 12,v,w=>∃ bb,v=.pointer (some ⟨bb,0,none⟩)∧n0≤bb∧w.heap[bb]? = some (.cells #[.int .i64 0, .int .i64 0, .int .u32 0] 245 (0,0))
 | _,_,_=>True
theorem roV_mono {b x1 x2 x3:List Int} {n1 n2 n3:Int} {n0:Nat} (w w':World) (j:Nat) (u:Value) (hB:Below w.heap.size w w') (h:roV b x1 x2 x3 n1 n2 n3 n0 j u w):roV b x1 x2 x3 n1 n2 n3 n0 j u w':=by
 unfold roV at h ⊢
 split at h <;> first | exact h | skip
 obtain ⟨bb,h1,h2,h3⟩:=h
 exact ⟨bb,h1,h2,(hB.block bb (Array.getElem?_eq_some_iff.1 h3).1).trans h3⟩
noncomputable def roOps:Array Oper:=match Tryz.f173.body with
 | some (.seq _ (.seq (.region _ ops _) _))=>ops
 | some (.seq _ (.block _ (.seq (.region _ ops _) _)))=>ops
 | _=>#[]
theorem ro_ok:okOps roOps [0,1,4] 56=true:=by kernel_rfl
theorem ro_top:topB roOps=true:=by kernel_rfl
theorem ro_size:roOps.size=14:=by kernel_rfl
def RoPost (n1 n2 n3:Int) (n0:Nat) (w0:World) (a:Act) (w':World):Prop:=∃ bb,a.tmps[5]? = some (.pointer (some ⟨bb,0,none⟩))∧n0≤bb∧w'.heap[bb]? = some (.cells #[.int .i64 (n1), .int .i64 (n2), .int .u32 (n3)] 245 (0,0))∧Below n0 w0 w'
theorem ro_hop {Q:Exit→Act→World→Prop} {b x1 x2 x3:List Int} {n1 n2 n3:Int} {w0:World} (hlen:b.length=10) (s1:(strOfNums b).extract 1 3=strOfNums x1) (s2:(strOfNums b).extract 3 5=strOfNums x2) (s3:(strOfNums b).extract 5 9=strOfNums x3) (w1:IntKind.i64.wrap n1=n1) (w2:IntKind.i64.wrap n2=n2) (kz:∀ xs:List Int,(strOfNums xs).size=xs.length)
  (C1:∀ w,Calls Tryz.prog 178 #[.string (strOfNums x1)] w fun e w'=>e=.returned (.int .u32 n1)∧w'=w) (C2:∀ w,Calls Tryz.prog 178 #[.string (strOfNums x2)] w fun e w'=>e=.returned (.int .u32 n2)∧w'=w) (C3:∀ w,Calls Tryz.prog 178 #[.string (strOfNums x3)] w fun e w'=>e=.returned (.int .u32 n3)∧w'=w)
  (i:Nat) (o:Oper) (a:Act) (w:World) (hi:i < 13) (ho:roOps[i]? = some o) (hfx:a.tmps[0]? = some (Value.string (strOfNums b)))
  (hdep:∀ (j:Nat) (o':Oper) (d:Nat),roOps[j]? = some o'→o'.dst=some d→(∃ e∈o.after,e.on=j∧Region.binds .any e=true)→∃ v,a.tmps[d]? = some v∧roV b x1 x2 x3 n1 n2 n3 w0.heap.size j v w) (hs:Below w0.heap.size w0 w)
  (K:Act→World→Prop) (hK:∀ v w',roV b x1 x2 x3 n1 n2 n3 w0.heap.size i v w'→Below w.heap.size w w'→K (a.put o.dst v) w'):o.wp Tryz.prog a w K Q:=by
 have f0:=hfx
 clear hfx
 have C1:Hid (∀ w,_):=C1
 have C2:Hid (∀ w,_):=C2
 have C3:Hid (∀ w,_):=C3
 obtain rfl | rfl | rfl | rfl | rfl | rfl | rfl | rfl | rfl | rfl | rfl | rfl | rfl:i=0∨i=1∨i=2∨i=3∨i=4∨i=5∨i=6∨i=7∨i=8∨i=9∨i=10∨i=11∨i=12:=by omega
 all_goals
  simp only [roOps,Tryz.f173] at ho
  simp only [List.getElem?_toArray,List.getElem?_cons_succ,List.getElem?_cons_zero,Option.some.injEq] at ho
  subst ho
 ·unfold Oper.wp execOp
  simp only [Act.eval,Array.getD_eq_getD_getElem?,f0,Option.getD_some]
  go_simp
  exact hK _ _ rfl (Below.refl _ _)
 ·obtain ⟨u0,h0,p0⟩:=hdep 0 _ _ rfl rfl ⟨⟨0, .data⟩,by simp,rfl,rfl⟩
  simp only [roV] at p0
  try subst p0
  unfold Oper.wp execOp
  simp only [Act.eval,Array.getD_eq_getD_getElem?,h0,Option.getD_some]
  go_simp
  exact hK _ _ rfl (Below.refl _ _)
 ·obtain ⟨u0,h0,p0⟩:=hdep 1 _ _ rfl rfl ⟨⟨1, .data⟩,by simp,rfl,rfl⟩
  simp only [roV] at p0
  try subst p0
  unfold Oper.wp execOp
  simp only [Act.eval,Array.getD_eq_getD_getElem?,h0,Option.getD_some]
  go_simp
  refine (C1.out w).mono ?_
  rintro e w1 ⟨rfl,rfl⟩
  exact hK _ _ rfl (Below.refl _ _)
 ·obtain ⟨u0,h0,p0⟩:=hdep 2 _ _ rfl rfl ⟨⟨2, .data⟩,by simp,rfl,rfl⟩
  simp only [roV] at p0
  try subst p0
  unfold Oper.wp execOp
  simp only [Act.eval,Array.getD_eq_getD_getElem?,h0,Option.getD_some]
  go_simp
  exact hK _ _ rfl (Below.refl _ _)
 ·unfold Oper.wp execOp
  simp only [Act.eval,Array.getD_eq_getD_getElem?,f0,Option.getD_some]
  go_simp
  exact hK _ _ rfl (Below.refl _ _)
 ·obtain ⟨u0,h0,p0⟩:=hdep 4 _ _ rfl rfl ⟨⟨4, .data⟩,by simp,rfl,rfl⟩
  simp only [roV] at p0
  try subst p0
  unfold Oper.wp execOp
  simp only [Act.eval,Array.getD_eq_getD_getElem?,h0,Option.getD_some]
  go_simp
  exact hK _ _ rfl (Below.refl _ _)
 ·obtain ⟨u0,h0,p0⟩:=hdep 5 _ _ rfl rfl ⟨⟨5, .data⟩,by simp,rfl,rfl⟩
  simp only [roV] at p0
  try subst p0
  unfold Oper.wp execOp
  simp only [Act.eval,Array.getD_eq_getD_getElem?,h0,Option.getD_some]
  go_simp
  refine (C2.out w).mono ?_
  rintro e w1 ⟨rfl,rfl⟩
  exact hK _ _ rfl (Below.refl _ _)
 ·obtain ⟨u0,h0,p0⟩:=hdep 6 _ _ rfl rfl ⟨⟨6, .data⟩,by simp,rfl,rfl⟩
  simp only [roV] at p0
  try subst p0
  unfold Oper.wp execOp
  simp only [Act.eval,Array.getD_eq_getD_getElem?,h0,Option.getD_some]
  go_simp
  exact hK _ _ rfl (Below.refl _ _)
 ·unfold Oper.wp execOp
  simp only [Act.eval,Array.getD_eq_getD_getElem?,f0,Option.getD_some]
  go_simp
  exact hK _ _ rfl (Below.refl _ _)
 ·obtain ⟨u0,h0,p0⟩:=hdep 8 _ _ rfl rfl ⟨⟨8, .data⟩,by simp,rfl,rfl⟩
  simp only [roV] at p0
  try subst p0
  unfold Oper.wp execOp
  simp only [Act.eval,Array.getD_eq_getD_getElem?,h0,Option.getD_some]
  go_simp
  exact hK _ _ rfl (Below.refl _ _)
 ·obtain ⟨u0,h0,p0⟩:=hdep 9 _ _ rfl rfl ⟨⟨9, .data⟩,by simp,rfl,rfl⟩
  simp only [roV] at p0
  try subst p0
  unfold Oper.wp execOp
  simp only [Act.eval,Array.getD_eq_getD_getElem?,h0,Option.getD_some]
  go_simp
  refine (C3.out w).mono ?_
  rintro e w1 ⟨rfl,rfl⟩
  exact hK _ _ rfl (Below.refl _ _)
 ·obtain ⟨u0,h0,p0⟩:=hdep 3 _ _ rfl rfl ⟨⟨3, .data⟩,by simp,rfl,rfl⟩
  simp only [roV] at p0
  try subst p0
  obtain ⟨u1,h1,p1⟩:=hdep 7 _ _ rfl rfl ⟨⟨7, .data⟩,by simp,rfl,rfl⟩
  simp only [roV] at p1
  try subst p1
  obtain ⟨u2,h2,p2⟩:=hdep 10 _ _ rfl rfl ⟨⟨10, .data⟩,by simp,rfl,rfl⟩
  simp only [roV] at p2
  try subst p2
  unfold Oper.wp execOp
  simp only [Act.eval,Array.getD_eq_getD_getElem?,h0,h1,h2,Option.getD_some]
  go_simp
  exact hK _ _ rfl (Below.refl _ _)
 ·unfold Oper.wp execOp
  go_simp
  exact hK _ _ ⟨w.heap.size,rfl,hs.size,Go.heap_alloc_new w _⟩ (by (repeat (first | exact Below.refl _ _ | refine Below.drew ?_ | refine Below.alloc ?_ (by first | omega | (simp only [World.size_alloc,World.size_setCell,World.size_drew];omega) | simp) _ | refine Below.setCell ?_ (by first | omega | simp) _ | assumption)))
theorem ro_last {Q:Exit→Act→World→Prop} {b x1 x2 x3:List Int} {n1 n2 n3:Int} {w0:World} (o:Oper) (a:Act) (w:World) (ho:roOps[13]? = some o)
  (hdep:∀ (j:Nat) (o':Oper) (d:Nat),roOps[j]? = some o'→o'.dst=some d→(∃ e∈o.after,e.on=j∧Region.binds .any e=true)→∃ v,a.tmps[d]? = some v∧roV b x1 x2 x3 n1 n2 n3 w0.heap.size j v w) (hs:Below w0.heap.size w0 w)
  (K:Act→World→Prop) (hK:∀ v w',RoPost n1 n2 n3 w0.heap.size w0 (a.put o.dst v) w'→K (a.put o.dst v) w'):o.wp Tryz.prog a w K Q:=by
 simp only [roOps,Tryz.f173] at ho
 simp only [List.getElem?_toArray,List.getElem?_cons_succ,List.getElem?_cons_zero,Option.some.injEq] at ho
 subst ho
 obtain ⟨u0,h0,bb,rfl,p1,p2⟩:=hdep 12 _ _ rfl rfl ⟨⟨12, .data⟩,by simp,rfl,rfl⟩
 obtain ⟨u1,h1,p3⟩:=hdep 11 _ _ rfl rfl ⟨⟨11, .data⟩,by simp,rfl,rfl⟩
 simp only [roV] at p3
 subst p3
 have c0:=cell_blk p2 0;have c1:=cell_blk p2 1;have c2:=cell_blk p2 2
 have z0:=frozen_blk p2 0;have z1:=frozen_blk p2 1;have z2:=frozen_blk p2 2
 simp at c0 c1 c2
 have k0:=set_blk p2 0 (.int .i64 n1)
 simp only [List.setIfInBounds_toArray,List.set_cons_zero,List.set_cons_succ] at k0
 have k1:=set_blk k0 1 (.int .i64 n2)
 simp only [List.setIfInBounds_toArray,List.set_cons_zero,List.set_cons_succ] at k1
 have k2:=set_blk k1 2 (.int .u32 n3)
 simp only [List.setIfInBounds_toArray,List.set_cons_zero,List.set_cons_succ] at k2
 unfold Oper.wp execOp
 simp only [Act.eval,Array.getD_eq_getD_getElem?,h0,h1,Option.getD_some]
 go_simp
 refine hK undef _ ⟨bb,h0,p1,k2,?_⟩
 refine Below.setCell (Below.setCell (Below.setCell hs ?_ _) ?_ _) ?_ _ <;> exact p1
theorem readOpen_any {b x1 x2 x3:List Int} {n1 n2 n3:Int} (hb:Bytes b) (hlen:b.length=10) (e1:(b.drop 1).take 2=x1) (e2:(b.drop 3).take 2=x2) (e3:(b.drop 5).take 4=x3) (m1:numL x1=n1) (m2:numL x2=n2) (m3:numL x3=n3) (b0:b[0]? = some 4) (b9:b[9]? = some 0) (h2:3≤n2) (h3:n3≠0) (w:World) :
  Calls Tryz.prog 173 #[.string (strOfNums b), .int .i64 n1] w fun e w'=>e=.returned (.agg #[.int .i64 n1, .int .i64 n2, .int .u32 n3])∧Below w.heap.size w w':=by
 have hb1:Bytes x1:=fun x h=>by rw [←e1] at h;exact hb x (List.mem_of_mem_drop (List.mem_of_mem_take h))
 have hb2:Bytes x2:=fun x h=>by rw [←e2] at h;exact hb x (List.mem_of_mem_drop (List.mem_of_mem_take h))
 have hb3:Bytes x3:=fun x h=>by rw [←e3] at h;exact hb x (List.mem_of_mem_drop (List.mem_of_mem_take h))
 have hl1:x1.length=2:=by rw [←e1];simp;omega
 have hl2:x2.length=2:=by rw [←e2];simp;omega
 have hl3:x3.length=4:=by rw [←e3];simp;omega
 have C1:∀ w,Calls Tryz.prog 178 #[.string (strOfNums x1)] w fun e w'=>e=.returned (.int .u32 n1)∧w'=w:=fun w=>by rw [←m1];exact number_any _ hb1 (by omega) w
 have C2:∀ w,Calls Tryz.prog 178 #[.string (strOfNums x2)] w fun e w'=>e=.returned (.int .u32 n2)∧w'=w:=fun w=>by rw [←m2];exact number_any _ hb2 (by omega) w
 have C3:∀ w,Calls Tryz.prog 178 #[.string (strOfNums x3)] w fun e w'=>e=.returned (.int .u32 n3)∧w'=w:=fun w=>by rw [←m3];exact number_any _ hb3 (by omega) w
 have kz:=strOfNums_size
 have s1:(strOfNums b).extract 1 3=strOfNums x1:=by rw [←e1];exact S_sub b 1 3
 have s2:(strOfNums b).extract 3 5=strOfNums x2:=by rw [←e2];exact S_sub b 3 5
 have s3:(strOfNums b).extract 5 9=strOfNums x3:=by rw [←e3];exact S_sub b 5 9
 have g1:=numL_bd hb1
 have g2:=numL_bd hb2
 rw [hl1,m1] at g1
 rw [hl2,m2] at g2
 have w1:IntKind.i64.wrap n1=n1:=by rw [IntKind.wrap_i64];omega
 have w2:IntKind.i64.wrap n2=n2:=by rw [IntKind.wrap_i64];omega
 have Hop:Hid (∀ (w0:World) (Q:Exit→Act→World→Prop),_):=fun (w0:World) (Q:Exit→Act→World→Prop)=>ro_hop (Q:=Q) (w0:=w0) hlen s1 s2 s3 w1 w2 kz C1 C2 C3
 have z0:0 < (strOfNums b).size:=by rw [kz];omega
 have z9:9 < (strOfNums b).size:=by rw [kz];omega
 have q0:∀ h:0 < (strOfNums b).size,(((strOfNums b)[0]'h).toNat:Int)=4:=fun h=>S_get hb b0 h
 have q9:∀ h:9 < (strOfNums b).size,(((strOfNums b)[9]'h).toNat:Int)=0:=fun h=>S_get hb b9 h
 have hn2:(n2 != 0)=true:=by simp;omega
 have hn3:(n3 == 0)=false:=by simpa using h3
 have hn4:¬ n2 < 3:=by omega
 clear C1 C2 C3 s1 s2 s3 w1 w2 g1 g2 hb1 hb2 hb3 e1 e2 e3 m1 m2 m3 hl1 hl2 hl3 b0 b9
 go_enter Tryz.func173,Tryz.ntmps173
 go_wp2_with fail
 refine wp_region_lb (ops:=roOps) (val:=roV b x1 x2 x3 n1 n2 n3 (w.alloc (.cells #[.int .i64 0, .int .i64 0, .int .u32 0] 245)).heap.size) (fix:=[(0, .string (strOfNums b)),(1, .int .i64 n1),(4, .pointer (some ⟨w.heap.size,0,none⟩))]) (T:=56) (w0:=w.alloc (.cells #[.int .i64 0, .int .i64 0, .int .u32 0] 245)) (Post:=RoPost n1 n2 n3 (w.alloc (.cells #[.int .i64 0, .int .i64 0, .int .u32 0] 245)).heap.size (w.alloc (.cells #[.int .i64 0, .int .i64 0, .int .u32 0] 245))) (n:=13) (by kernel_rfl) ro_ok ro_top ro_size roV_mono
  (fun i o a w1 hi ho hfx hdep hs K hK=>Hop.out _ _ i o a w1 hi ho (hfx (0, .string (strOfNums b)) (by simp)) hdep hs K hK) (fun o a w1 ho hfx hdep hs K hK=>ro_last o a w1 ho hdep hs K hK) (fun a w1 hdf hsz hfx hP=>?_) rfl rfl ?_ ?_
 ·have f0:a.tmps[0]? = some (.string (strOfNums b)):=hfx (0, .string (strOfNums b)) (by simp)
  obtain ⟨bb,h5,p1,p2,hB⟩:=hP
  have f1:a.tmps[1]? = some (.int .i64 n1):=hfx (1, .int .i64 n1) (by simp)
  have f4:a.tmps[4]? = some (.pointer (some ⟨w.heap.size,0,none⟩)):=hfx (4, .pointer (some ⟨w.heap.size,0,none⟩)) (by simp)
  obtain ⟨tm,df⟩:=a
  simp only at hdf hsz f0 f1 f4 h5
  subst hdf
  obtain ⟨k0,k1,k2,k3,k4,k5,k6,k7,k8,k9,k10,k11,k12,k13,k14,k15,k16,k17,k18,k19,k20,k21,k22,k23,k24,k25,k26,k27,k28,k29,k30,k31,k32,k33,k34,k35,k36,k37,k38,k39,k40,k41,k42,k43,k44,k45,k46,k47,k48,k49,k50,k51,k52,k53,k54,k55,rfl⟩:=arr56 hsz
  simp only [List.getElem?_toArray,List.getElem?_cons_succ,List.getElem?_cons_zero,Option.some.injEq] at f0 f1 f4 h5
  subst f0 f1 f4 h5
  have q1:=(hB.block w.heap.size (by simp)).trans (Go.heap_alloc_new w _)
  have c0:=cell_blk p2 0;have c1:=cell_blk p2 1;have c2:=cell_blk p2 2
  have d0:=cell_blk q1 0;have d1:=cell_blk q1 1;have d2:=cell_blk q1 2
  have y0:=frozen_blk q1 0;have y1:=frozen_blk q1 1;have y2:=frozen_blk q1 2
  simp at c0 c1 c2 d0 d1 d2
  go_wp2_with fail
  have s0:=set_blk q1 0 (.int .i64 n1)
  simp only [List.setIfInBounds_toArray,List.set_cons_zero,List.set_cons_succ] at s0
  have s1:=set_blk s0 1 (.int .i64 n2)
  simp only [List.setIfInBounds_toArray,List.set_cons_zero,List.set_cons_succ] at s1
  have s2:=set_blk s1 2 (.int .u32 n3)
  simp only [List.setIfInBounds_toArray,List.set_cons_zero,List.set_cons_succ] at s2
  have hB2:Below w.heap.size w (((w1.setCell ⟨w.heap.size,0,none⟩ (.int .i64 n1)).setCell ⟨w.heap.size,1,none⟩ (.int .i64 n2)).setCell ⟨w.heap.size,2,none⟩ (.int .u32 n3)):=by
   refine Below.setCell (Below.setCell (Below.setCell (Below.trans ((Below.refl _ _).alloc (Nat.le_refl _) _) (hB.mono (by simp))) ?_ _) ?_ _) ?_ _ <;> exact Nat.le_refl _
  generalize (((w1.setCell ⟨w.heap.size,0,none⟩ (.int .i64 n1)).setCell ⟨w.heap.size,1,none⟩ (.int .i64 n2)).setCell ⟨w.heap.size,2,none⟩ (.int .u32 n3))=w2 at s2 hB2 ⊢
  have r0:=cell_blk s2 0;have r1:=cell_blk s2 1;have r2:=cell_blk s2 2
  simp at r0 r1 r2
  exact bodyPost_ret (v:=.agg #[.int .i64 n1, .int .i64 n2, .int .u32 n3]) (by simp [results,Tryz.results173,go_sem,r0,r1,r2]) rfl ⟨rfl,hB2⟩
 ·intro x hx
  simp at hx
  rcases hx with rfl | rfl | rfl <;> rfl
 ·exact ⟨rfl,rfl,rfl,Nat.le_refl _,fun _ _=>rfl⟩
end Go.Proofs.YtjnkcibpkkjniaaGreat
