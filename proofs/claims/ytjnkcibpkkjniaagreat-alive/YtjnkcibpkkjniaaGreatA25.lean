import Derived.Test.YtjnkcibpkkjniaaGreatA13
import Derived.Test.YtjnkcibpkkjniaaGreatA14
import Derived.Conc.CompanyDraw
import Derived.Test.YtjnkcibpkkjniaaGreatA05
import Derived.Conc.Own
set_option linter.unusedVariables false
set_option linter.unusedSimpArgs false
set_option linter.unusedSectionVars false
namespace Go.Proofs.YtjnkcibpkkjniaaGreat.Pool
open Go Go.Conc Go.RowKit Go.Proofs.YtjnkcibpkkjniaaGreat.Sim
theorem GX.append {cs:List Frame} {Q:Frame→List Frame→World→Prop} {b:Frame} {a:Act} {ops:Array Oper} {i:Nat} {l:List Nat} {k:List Item} {xs:List Frame} {w:World} {o:Oper} (ho:ops[i]? = some o) (hw:Region.wanted o (yielded ops a.tmps)=true) (hok:@okOper scopeM Tryz.prog o=true)
  (s x:Operand) (t:TypeId) (hop:o.op=Op.call { callee:=Callee.builtin Builtin.append,args:=#[s,x],argTypes:=#[t,t] }) {sv xv:Value} (hs:a.eval s=sv) (hx:a.eval x=xv)
  (hrun:∀ T,∃ v w2,(Builtin.append_ #[t,t] o.type #[sv,xv]).run Tryz.prog (again w T)=.ok v w2∧GX cs Q (b.at (a.put o.dst v) (.inRegion ops l::k)) xs w2) (hu:noMkL o.op.operands a.eval=true:=by first | rfl | (simp [noMkL,Op.operands,Call.operands,Act.eval,m_ptr,m_sl,m_int,m_str,m_bool,m_func,m_tup,m_agg, *])):GX cs Q (b.at a (.inRegion ops (i::l)::k)) xs w :=
 GX.opv (hu:=hu) ho hw hok fun T=>by
  obtain ⟨v,w2,e,h⟩:=hrun T
  refine ⟨v,w2,?_,h⟩
  simp [execOp,hop,resolve,invoke,builtin,hs,hx,e,Result.andThen]
end Go.Proofs.YtjnkcibpkkjniaaGreat.Pool
namespace Go.Proofs.YtjnkcibpkkjniaaGreat.Pool
open Go Go.Conc Go.RowKit Go.Proofs.YtjnkcibpkkjniaaGreat.Sim
section
variable {cs:List Frame} {Q:Frame→List Frame→World→Prop} {b:Frame} {a:Act} {ops:Array Oper} {k:List Item} {xs:List Frame} {w:World}
theorem GX.draw {id:Nat} (hm:Tryz.prog.follows .mixedOrders=true)
  (h:∀ t,GX cs Q (b.at a (.inRegion ops (Region.linearise .any ops t)::k)) xs w):GX cs Q (b.at a (.code (.region id ops true)::k)) xs w:=by
 letI:Scope:=scopeM
 refine GetsX.bind (Q:=fun f x v=>∃ t,f=b.at a (.inRegion ops (Region.linearise .any ops t)::k)∧x=xs∧v=w) (fun Shun ρ gs wG sl t q hs=>?_) (by rintro _ _ _ ⟨t,rfl,rfl,rfl⟩;exact h t)
 obtain ⟨fr',ys,h0,hf,hx⟩:=hs.main
 obtain ⟨N,gs',g',w',sl',t',q',r1,r2,r3,r4,r5,n,rfl,d,rfl⟩:=main_step (P:=Tryz.prog) (Shun:=Shun) (w:=wG) (g:=G fr' (ys++cs)) (Post:=fun g' w'=>∃ n,g'=G (fr'.at ⟨fr'.tmps,fr'.defers⟩ (.inRegion ops (Region.linearise .any ops n)::k)) (ys++cs)∧∃ d,w'=wG.at d) rfl (fun d=>by
  have e:=hf.at_
  have:=stepG_region_draw (P:=Tryz.prog) (main:=true) (b:=fr') (a:=⟨fr'.tmps,fr'.defers⟩) (k:=k) (cs:=ys++cs) (w:=wG.at d) (id:=id) (ops:=ops)
  rw [←e] at this
  simp only [Region.schedule,hm,Bool.true_or,if_true] at this
  exact ⟨_,_,_,this,by simp,Nat.le_refl _,_,rfl,d+1,rfl⟩) gs sl t q h0 hs.leave hs.past
 exact ⟨N,gs',wG.at d,sl',t',q',Shun,ρ,b.at a (.inRegion ops (Region.linearise .any ops n)::k),xs,w,r1,Ren.le_refl _,⟨⟨_,ys,r3,⟨hf.fn,hf.tmps.lasts (Ren.le_refl _) (Lasts.at _ _ _ d),rfl,hf.defers,⟨rfl, .inl rfl⟩,hf.kind,rfl,rfl⟩,hx.lasts (Ren.le_refl _) (Lasts.at _ _ _ d)⟩,⟨hs.hr.obj,hs.hr.inj,hs.hr.base,hs.hr.os,hs.hr.sync⟩,r4,r5,⟨hs.away.cell,hs.away.obj,hs.away.low,hs.away.out⟩⟩,⟨n,rfl,rfl,rfl⟩,Lasts.at _ _ _ d⟩
def strip (ops:Array Oper):Array Oper:=ops.map fun o=>{ o with guard:=none }
theorem strip_get {i:Nat} {o:Oper} (ho:ops[i]? = some o):(strip ops)[i]? = some { o with guard:=none }:=by simp [strip,ho]
theorem strip_size:(strip ops).size=ops.size:=by simp [strip]
theorem strip_of {i:Nat} {o:Oper} (ho:(strip ops)[i]? = some o):∃ o',ops[i]? = some o'∧o={ o' with guard:=none }:=by
 simp only [strip,Array.getElem?_map,Option.map_eq_some_iff] at ho
 obtain ⟨o',h1,h2⟩:=ho
 exact ⟨o',h1,h2.symm⟩
theorem strip_ready {listed:Array Bool} {i:Nat} (h:i∈Region.ready .any ops listed):i∈Region.ready .any (strip ops) listed:=by
 obtain ⟨h1,o,h2,h3⟩:=mem_ready.1 h
 exact mem_ready.2 ⟨h1,_,strip_get h2,h3⟩
theorem ready_strip {listed:Array Bool} {i:Nat} (h:i∈Region.ready .any (strip ops) listed):i∈Region.ready .any ops listed:=by
 obtain ⟨h1,o,h2,h3⟩:=mem_ready.1 h
 obtain ⟨o',h4,rfl⟩:=strip_of h2
 exact mem_ready.2 ⟨h1,_,h4,h3⟩
variable {val:Nat→Value→World→Prop} {fix:List (Nat×Value)} {T:Nat} {w0:World} {Post:Act→World→Prop} {n:Nat} {D:List Deferred}
theorem GX.lb {id:Nat} (hm:Tryz.prog.follows .mixedOrders=true) (hok:okOps (strip ops) (fix.map (·.1)) T=true) (htop:topB (strip ops)=true) (hn:ops.size=n+1)
  (hmono:∀ w w' j u,Below w.heap.size w w'→val j u w→val j u w')
  (hop:∀ (i:Nat) (o:Oper) (a:Act) (w:World) (l:List Nat),i < n→ops[i]? = some o→(∀ x∈fix,a.tmps[x.1]? = some x.2)→(∀ (j:Nat) (o':Oper) (d:Nat),ops[j]? = some o'→o'.dst=some d→(∃ e∈o.after,e.on=j∧Region.binds .any e=true)→∃ v,a.tmps[d]? = some v∧val j v w)→Below w0.heap.size w0 w →
   (∀ v w',val i v w'→Below w.heap.size w w'→GX cs Q (b.at (a.put o.dst v) (.inRegion ops l::k)) xs w')→GX cs Q (b.at a (.inRegion ops (i::l)::k)) xs w)
  (hlast:∀ (o:Oper) (a:Act) (w:World) (l:List Nat),ops[n]? = some o→(∀ x∈fix,a.tmps[x.1]? = some x.2)→(∀ (j:Nat) (o':Oper) (d:Nat),ops[j]? = some o'→o'.dst=some d→(∃ e∈o.after,e.on=j∧Region.binds .any e=true)→∃ v,a.tmps[d]? = some v∧val j v w)→Below w0.heap.size w0 w→a.tmps.size=T →
   (∀ v w',Post (a.put o.dst v) w'→GX cs Q (b.at (a.put o.dst v) (.inRegion ops l::k)) xs w')→GX cs Q (b.at a (.inRegion ops (n::l)::k)) xs w)
  (hend:∀ (a:Act) (w:World),a.defers=D→a.tmps.size=T→(∀ x∈fix,a.tmps[x.1]? = some x.2)→Post a w→GX cs Q (b.at a k) xs w)
  (hd:a.defers=D) (hs:a.tmps.size=T) (hf:∀ x∈fix,a.tmps[x.1]? = some x.2) (h0:Below w0.heap.size w0 w):GX cs Q (b.at a (.code (.region id ops true)::k)) xs w:=by
 have key:∀ (fuel t:Nat) (listed:Array Bool) (a:Act) (w:World),TabPD D (strip ops) val fix T listed a w→listed.getD n false=false→Below w0.heap.size w0 w→unl (strip ops) listed≤fuel→GX cs Q (b.at a (.inRegion ops (Region.linearise.go .any ops fuel t listed [])::k)) xs w:=by
  intro fuel
  induction fuel with
  | zero =>
   intro t listed a w ht hl hB hu
   have:=unl_zero (ops:=strip ops) (listed:=listed) (by omega) n (by rw [strip_size];omega)
   rw [hl] at this
   cases this
  | succ fuel ih =>
   intro t listed a w ht hl hB hu
   simp only [Region.linearise.go]
   change GX cs Q (b.at a (.inRegion ops (match (Region.ready .any ops listed)[t % (Region.ready .any ops listed).length]? with
    | some i=>Region.linearise.go .any ops fuel (t / (Region.ready .any ops listed).length) (listed.setIfInBounds i true) [i]
    | none=>[].reverse)::k)) xs w
   cases hi:(Region.ready .any ops listed)[t % (Region.ready .any ops listed).length]? with
   | none =>
    have hnil:Region.ready .any ops listed=[]:=by
     cases hr:Region.ready .any ops listed with
     | nil=>rfl
     | cons x xs =>
      rw [hr] at hi
      have hlt:t % (x::xs).length < (x::xs).length:=Nat.mod_lt _ (by simp)
      simp at hi;simp at hlt;omega
    have hnil':Region.ready .any (strip ops) listed=[]:=by
     cases hr:Region.ready .any (strip ops) listed with
     | nil=>rfl
     | cons x xs =>
      have:=ready_strip (ops:=ops) (listed:=listed) (i:=x) (by rw [hr];simp)
      rw [hnil] at this
      cases this
    have:=ready_all hok ht.lsz hnil' n (by rw [strip_size];omega)
    rw [hl] at this
    cases this
   | some i =>
    simp only []
    rw [linearise_go_acc,List.reverse_singleton,List.singleton_append]
    have hir:i∈Region.ready .any ops listed:=List.mem_of_getElem? hi
    have hir':=strip_ready hir
    obtain ⟨hul,o,ho,_⟩:=mem_ready.1 hir
    have hio:i < ops.size:=(Array.getElem?_eq_some_iff.1 ho).1
    have hsz:i < listed.size:=by rw [ht.lsz,strip_size];exact hio
    have hul':listed.getD i false=false:=by
     rw [Array.getD_eq_getD_getElem?,Array.getElem?_eq_getElem hsz] at hul ⊢
     simpa using hul
    have hdep:∀ (j:Nat) (o':Oper) (d:Nat),ops[j]? = some o'→o'.dst=some d→(∃ e∈o.after,e.on=j∧Region.binds .any e=true)→∃ v,a.tmps[d]? = some v∧val j v w:=fun j o' d hj hd he=>ht.dep (strip_get ho) hir' (strip_get hj) hd he
    by_cases hin:i=n
    ·subst hin
     refine hlast o a w _ ho ht.fix hdep hB ht.size fun v w' hP=>?_
     have ht2:TabPD D (strip ops) (fun _ _ _=>True) fix T (listed.setIfInBounds i true) (a.put o.dst v) w' :=
      TabPD.put (val:=fun _ _ _=>True) (w:=w) hok ⟨ht.defers,ht.size,ht.fix,fun j o' d h1 h2 h3=>by obtain ⟨v,k1,_⟩:=ht.val j o' d h1 h2 h3;exact ⟨v,k1,trivial⟩,ht.lsz,ht.deps⟩ (strip_get ho) hir' trivial (fun _ _ _ _=>trivial)
     have hall:=ht2.all htop (by rw [strip_size];exact hn) (by rw [getD_set _ _ _ hsz];simp)
     have hnr:Region.ready .any ops (listed.setIfInBounds i true)=[]:=by
      cases hr:Region.ready .any ops (listed.setIfInBounds i true) with
      | nil=>rfl
      | cons x xs =>
       have hx:x∈Region.ready .any ops (listed.setIfInBounds i true):=by rw [hr];simp
       obtain ⟨h1,o2,ho2,_⟩:=mem_ready.1 hx
       have hx':x < ops.size:=(Array.getElem?_eq_some_iff.1 ho2).1
       have h3:=hall x (by rw [strip_size];exact hx')
       have hx2:x < (listed.setIfInBounds i true).size:=by rw [ht2.lsz,strip_size];exact hx'
       rw [Array.getD_eq_getD_getElem?,Array.getElem?_eq_getElem hx2] at h1 h3
       simp only [Option.getD_some] at h1 h3
       rw [h3] at h1
       cases h1
     have hgo:∀ f t,Region.linearise.go .any ops f t (listed.setIfInBounds i true) []=[]:=by
      intro f t
      cases f with
      | zero=>rfl
      | succ f =>
       simp only [Region.linearise.go]
       change (match (Region.ready .any ops (listed.setIfInBounds i true))[t % (Region.ready .any ops (listed.setIfInBounds i true)).length]? with
        | some j=>Region.linearise.go .any ops f (t / (Region.ready .any ops (listed.setIfInBounds i true)).length) ((listed.setIfInBounds i true).setIfInBounds j true) [j]
        | none=>[].reverse)=[]
       rw [hnr]
       rfl
     rw [hgo]
     exact GX.regionEnd (hend _ _ ht2.defers ht2.size ht2.fix hP)
    ·refine hop i o a w _ (by omega) ho ht.fix hdep hB fun v w' hv hB'=>?_
     have:=unl_set (ops:=strip ops) (by rw [strip_size];exact hio) ht.lsz hul'
     refine ih _ _ _ _ (ht.put hok (strip_get ho) hir' hv fun j u _=>hmono _ _ j u hB') ?_ (hB.trans (hB'.mono hB.size)) (by omega)
     rw [getD_set _ _ _ hsz,if_neg (fun e=>hin e.symm)]
     exact hl
 refine GX.draw hm fun t=>?_
 refine key ops.size t _ a w ⟨hd,hs,hf,fun i o d _ hl=>?_,by simp [strip_size],fun i o _ hl=>?_⟩ ?_ h0 ?_
 ·simp [Array.getD_eq_getD_getElem?,Array.getElem?_replicate] at hl
  split at hl <;> simp at hl
 ·simp [Array.getD_eq_getD_getElem?,Array.getElem?_replicate] at hl
  split at hl <;> simp at hl
 ·simp [Array.getD_eq_getD_getElem?,Array.getElem?_replicate]
  split <;> simp
 ·unfold unl
  exact Nat.le_trans (List.length_filter_le _ _) (by simp [strip_size])
end
end Go.Proofs.YtjnkcibpkkjniaaGreat.Pool
namespace Go.Proofs.YtjnkcibpkkjniaaGreat.Pool
open Go Go.Conc Go.RowKit Go.Proofs.YtjnkcibpkkjniaaGreat.Sim
set_option maxRecDepth 20000
theorem GX.callTurn {cs:List Frame} {Q:Frame→List Frame→World→Prop} {b:Frame} {a:Act} {ops:Array Oper} {i:Nat} {l:List Nat} {k:List Item} {xs:List Frame} {w:World} {o:Oper} (ho:ops[i]? = some o) (hw:Region.wanted o (yielded ops a.tmps)=true) {x y z:Operand} {ats:Array TypeId}
  (hop:o.op=.call { callee:=.value (.func 17),args:=#[x,y,z],argTypes:=ats }) (hargs:(#[x,y,z]:Array Operand).all (@okOperand scopeM)=true) {v0 v1 v2:Value} (h0:a.eval x=v0) (h1:a.eval y=v1) (h2:a.eval z=v2)
  (h:GX cs Q ((base 17).at { tmps:=#[v0,v1,v2]++Array.replicate 19 undef,defers:=[] } [.code (Tryz.f17.body.getD .skip)]) (b.at a (.inRegion ops (i::l)::k)::xs) w) (m0:isMk v0=false:=by rfl) (m1:isMk v1=false:=by rfl) (m2:isMk v2=false:=by rfl):GX cs Q (b.at a (.inRegion ops (i::l)::k)) xs w:=by
 have hma:noMkL #[x,y,z] a.eval=true:=by simp [noMkL,h0,h1,h2,m0,m1,m2]
 refine GX.callX (hma:=hma) ho hw hop hargs Tryz.func17 rfl rfl ?_
 have e:(#[x,y,z]:Array Operand).map a.eval=#[v0,v1,v2]:=by simp [h0,h1,h2]
 rw [e]
 exact h
theorem fin_at {b:Frame} {a:Act} {ops:Array Oper} {i:Nat} {l:List Nat} {k:List Item} {o:Oper} (ho:ops[i]? = some o) (v:Value):(b.at a (.inRegion ops (i::l)::k)).finish v=b.at (a.put o.dst v) (.inRegion ops l::k):=by rw [Frame.finish_at,ho];rfl
theorem arr83 {C:Array Value} (h:C.size=83):∃ k0 k1 k2 k3 k4 k5 k6 k7 k8 k9 k10 k11 k12 k13 k14 k15 k16 k17 k18 k19 k20 k21 k22 k23 k24 k25 k26 k27 k28 k29 k30 k31 k32 k33 k34 k35 k36 k37 k38 k39 k40 k41 k42 k43 k44 k45 k46 k47 k48 k49 k50 k51 k52 k53 k54 k55 k56 k57 k58 k59 k60 k61 k62 k63 k64 k65 k66 k67 k68 k69 k70 k71 k72 k73 k74 k75 k76 k77 k78 k79 k80 k81 k82,C=#[k0,k1,k2,k3,k4,k5,k6,k7,k8,k9,k10,k11,k12,k13,k14,k15,k16,k17,k18,k19,k20,k21,k22,k23,k24,k25,k26,k27,k28,k29,k30,k31,k32,k33,k34,k35,k36,k37,k38,k39,k40,k41,k42,k43,k44,k45,k46,k47,k48,k49,k50,k51,k52,k53,k54,k55,k56,k57,k58,k59,k60,k61,k62,k63,k64,k65,k66,k67,k68,k69,k70,k71,k72,k73,k74,k75,k76,k77,k78,k79,k80,k81,k82]:=by
 obtain ⟨l⟩:=C
 match l,h with
 | k0::k1::k2::k3::k4::k5::k6::k7::k8::k9::k10::k11::k12::k13::k14::k15::k16::k17::k18::k19::k20::k21::k22::k23::k24::k25::k26::k27::k28::k29::k30::k31::k32::k33::k34::k35::k36::k37::k38::k39::k40::k41::k42::k43::k44::k45::k46::k47::k48::k49::k50::k51::k52::k53::k54::k55::k56::k57::k58::k59::k60::k61::k62::k63::k64::k65::k66::k67::k68::k69::k70::k71::k72::k73::k74::k75::k76::k77::k78::k79::k80::k81::k82::[],_=>exact ⟨_,_,_,_,_,_,_,_,_,_,_,_,_,_,_,_,_,_,_,_,_,_,_,_,_,_,_,_,_,_,_,_,_,_,_,_,_,_,_,_,_,_,_,_,_,_,_,_,_,_,_,_,_,_,_,_,_,_,_,_,_,_,_,_,_,_,_,_,_,_,_,_,_,_,_,_,_,_,_,_,_,_,_,rfl⟩
end Go.Proofs.YtjnkcibpkkjniaaGreat.Pool
namespace Go.Proofs.YtjnkcibpkkjniaaGreat.Sim
open Go.Conc
variable [Scope]
section
variable {P:Program} {cs:List Frame} {Q:Frame→List Frame→World→Prop} {b:Frame} {a:Act} {ops:Array Oper} {i:Nat} {l:List Nat} {k:List Item} {xs:List Frame} {wS:World} {o:Oper}
theorem FrX.mark {S:Loc→Prop} {ρ:Ren} {w:World} {fr fr':Frame} (h:FrX S ρ w fr fr') {t:Nat} {u:Value} {C:Array Value} (e:fr.tmps[t]? = some (mkF u C)):fr'.eval (.tmp t)=u∧∃ ad,Ptd u ad∧Hold S ρ w ad C:=by
 obtain ⟨v',e',k⟩:=h.tmps.at_ e
 have hev:fr'.eval (.tmp t)=v':=by show fr'.tmps.getD t undef=v';simp [Array.getD_eq_getD_getElem?,e']
 rcases k with k | ⟨C',ad,k1,k2,k3⟩
 ·exfalso
  cases k with
  | agg hs hg =>
   have:=hg 0 (.chan (some 0)) _ rfl (Array.getElem?_eq_getElem (by rw [←hs];exact Nat.zero_lt_succ _))
   cases this
 ·simp only [mkF,Value.agg.injEq,Array.mk.injEq,List.cons.injEq,and_true,true_and] at k1
  obtain ⟨rfl,rfl⟩:=k1
  exact ⟨hev,ad,k2,k3⟩
theorem FrX.int {S:Loc→Prop} {ρ:Ren} {w:World} {fr fr':Frame} (h:FrX S ρ w fr fr') {t:Nat} {q:IntKind} {n:Int} (e:fr.tmps[t]? = some (.int q n)):fr'.eval (.tmp t)=.int q n:=by
 obtain ⟨v',e',k⟩:=h.tmps.at_ e
 have hev:fr'.eval (.tmp t)=v':=by show fr'.tmps.getD t undef=v';simp [Array.getD_eq_getD_getElem?,e']
 have:=k.vr rfl
 cases this
 exact hev
theorem GetsX.op_mk (ho:ops[i]? = some o) (hw:Region.wanted o (yielded ops a.tmps)=true) (v:Value)
  (h:∀ S ρ (w:World) (fr':Frame),FrX S ρ w (b.at a (.inRegion ops (i::l)::k)) fr'→∃ v',VF S ρ w v v'∧∀ d,(execOp fr'.eval o).run P (w.at d)=.ok (.value v') (w.at d)∧∀ e∈(execOp fr'.eval o).events P (w.at d) #[],EvL S w.heap.size e)
  (hk:GetsX P cs Q (b.at (a.put o.dst v) (.inRegion ops l::k)) xs wS):GetsX P cs Q (b.at a (.inRegion ops (i::l)::k)) xs wS:=by
 refine GetsX.bind (Q:=fun f x u=>f=b.at (a.put o.dst v) (.inRegion ops l::k)∧x=xs∧u=wS) (fun Shun ρ gs w sl t q hs=>?_) (by rintro _ _ _ ⟨rfl,rfl,rfl⟩;exact hk)
 obtain ⟨fr',ys,h0,hf,hx⟩:=hs.main
 obtain ⟨v',hv,hrun⟩:=h Shun ρ w fr' hf
 have hfin:(b.at a (.inRegion ops (i::l)::k)).finish v=b.at (a.put o.dst v) (.inRegion ops l::k):=by rw [Frame.finish_at,ho];rfl
 have e:=hf.at_
 have hev:fr'.eval=(Act.mk fr'.tmps fr'.defers).eval:=by
  have:=Frame.eval_at' fr' ⟨fr'.tmps,fr'.defers⟩ (.inRegion ops (i::l)::k)
  rw [←e] at this;exact this
 have hfin2:fr'.finish v'=fr'.at (Act.put ⟨fr'.tmps,fr'.defers⟩ o.dst v') (.inRegion ops l::k):=by
  have:=Frame.finish_at fr' ⟨fr'.tmps,fr'.defers⟩ ops i l k v'
  rw [←e,ho] at this
  exact this
 obtain ⟨N,gs',g',w',sl',t',q',r1,r2,r3,r4,r5,rfl,d,rfl⟩:=main_step (P:=P) (Shun:=Shun) (w:=w) (g:=G fr' (ys++cs)) (Post:=fun g' w'=>g'=G (fr'.finish v') (ys++cs)∧∃ d,w'=w.at d) rfl (fun d=>by
  obtain ⟨e1,e2⟩:=hrun d
  have hyl:yielded ops fr'.tmps=yielded ops a.tmps:=(hf.tmps.yielded ops).symm
  rw [hev] at e1 e2
  have hst:=stepG_value (P:=P) (main:=true) (b:=fr') (a:=⟨fr'.tmps,fr'.defers⟩) (k:=k) (cs:=ys++cs) (rest:=l) ho (by rw [hyl];exact hw) (by rw [hf.kind.2];simp) e1
  rw [←e,←hfin2] at hst
  exact ⟨_,_,_,hst,fun x hx=>e2 x (mem_listed hx),Nat.le_refl _,rfl,d,rfl⟩) gs sl t q h0 hs.leave hs.past
 have hl:=Lasts.at Shun ρ w d
 exact ⟨N,gs',w.at d,sl',t',q',Shun,ρ,(b.at a (.inRegion ops (i::l)::k)).finish v,xs,wS,r1,Ren.le_refl _,⟨⟨_,ys,r3,(hf.lasts (Ren.le_refl _) hl).finishF (hv.lasts (Ren.le_refl _) hl),hx.lasts (Ren.le_refl _) hl⟩,⟨hs.hr.obj,hs.hr.inj,hs.hr.base,hs.hr.os,hs.hr.sync⟩,r4,r5,⟨hs.away.cell,hs.away.obj,hs.away.low,hs.away.out⟩⟩,⟨hfin,rfl,rfl⟩,hl⟩
theorem evl_read {S:Loc→Prop} {n:Nat} {a:Addr} (h:¬ S (.cell a)) (hn:a.block < n):EvL S n ⟨.cell a,false,false⟩:=by
 refine ⟨fun x hx hs=>?_,by simp,by simp,hn⟩
 have hxl:x.loc=.cell a:=by
  simp only [MemAct.ofEvent,MemAct.touch?] at hx
  split at hx <;> first | (cases hx;rfl) | cases hx
 rw [hxl] at hs
 exact absurd hs h
end
end Go.Proofs.YtjnkcibpkkjniaaGreat.Sim
namespace Go.Proofs.YtjnkcibpkkjniaaGreat.Pool
open Go Go.Conc Go.RowKit Go.Proofs.YtjnkcibpkkjniaaGreat.Sim
set_option maxRecDepth 20000
section
variable {cs:List Frame} {Q:Frame→List Frame→World→Prop} {b:Frame} {a:Act} {ops:Array Oper} {i:Nat} {l:List Nat} {k:List Item} {xs:List Frame} {w:World} {o:Oper} {t t2:Nat} {u:Value} {C:Array Value} {ad:Addr} {n cap:Nat}
theorem GX.mMove (ho:ops[i]? = some o) (hw:Region.wanted o (yielded ops a.tmps)=true) (hop:o.op=.move (.tmp t)) (ht:a.tmps[t]? = some (mkF u C)) (hk:GX cs Q (b.at (a.put o.dst (mkF u C)) (.inRegion ops l::k)) xs w):GX cs Q (b.at a (.inRegion ops (i::l)::k)) xs w:=by
 letI:Scope:=scopeM
 refine GetsX.op_mk ho hw (mkF u C) (fun S ρ w fr' hf=>?_) hk
 obtain ⟨e,ad,h1,h2⟩:=hf.mark (show (b.at a (.inRegion ops (i::l)::k)).tmps[t]? = _ from ht)
 refine ⟨u, .inr ⟨C,ad,rfl,h1,h2⟩,fun d=>?_⟩
 unfold execOp
 simp only [hop,e]
 refine ⟨rfl,fun x hx=>?_⟩
 simp [go_sem] at hx
theorem GX.mLen (ho:ops[i]? = some o) (hw:Region.wanted o (yielded ops a.tmps)=true) (hop:o.op=.call { callee:=.builtin .len,args:=#[.tmp t],argTypes:=#[31] }) (ht:a.tmps[t]? = some (mkF (.slice (some ad) n cap) C)) (hk:GX cs Q (b.at (a.put o.dst (.int .i64 n)) (.inRegion ops l::k)) xs w):GX cs Q (b.at a (.inRegion ops (i::l)::k)) xs w:=by
 letI:Scope:=scopeM
 refine GetsX.op_mk ho hw (.int .i64 n) (fun S ρ w fr' hf=>?_) hk
 obtain ⟨e,_⟩:=hf.mark (show (b.at a (.inRegion ops (i::l)::k)).tmps[t]? = _ from ht)
 refine ⟨.int .i64 n, .inl (.int .i64 n),fun d=>?_⟩
 unfold execOp
 simp only [hop,List.map_toArray,List.map_cons,List.map_nil,e]
 refine ⟨?_,?_⟩
 ·go_simp
 ·go_simp
theorem GX.mIndex (ho:ops[i]? = some o) (hw:Region.wanted o (yielded ops a.tmps)=true) (hop:o.op=.indexAddr 31 (.tmp t) (.tmp t2)) (ht:a.tmps[t]? = some (mkF (.slice (some ad) n cap) C)) {j:Int} (h2:a.tmps[t2]? = some (.int .i64 j)) (j0:0≤j) (j1:j < n) (hk:GX cs Q (b.at (a.put o.dst (mkF (.pointer (some (ad.add j.toNat))) C)) (.inRegion ops l::k)) xs w):GX cs Q (b.at a (.inRegion ops (i::l)::k)) xs w:=by
 letI:Scope:=scopeM
 refine GetsX.op_mk ho hw (mkF (.pointer (some (ad.add j.toNat))) C) (fun S ρ w fr' hf=>?_) hk
 obtain ⟨e,ad',hp,hh⟩:=hf.mark (show (b.at a (.inRegion ops (i::l)::k)).tmps[t]? = _ from ht)
 have e2:=hf.int (show (b.at a (.inRegion ops (i::l)::k)).tmps[t2]? = _ from h2)
 obtain rfl:ad'=ad:=by
  rcases hp with hp | ⟨_,_,hp⟩
  ·cases hp
  ·cases hp;rfl
 have hbk:(ad'.add j.toNat).block=ad'.block:=by unfold Addr.add;split <;> rfl
 refine ⟨.pointer (some (ad'.add j.toNat)), .inr ⟨C,ad'.add j.toNat,rfl, .inl rfl,by unfold Hold;rw [hbk];exact hh⟩,fun d=>?_⟩
 have n0:¬ (j < 0):=by omega
 have n1:¬ ((n:Int)≤j):=by omega
 unfold execOp
 simp only [hop,e,e2]
 refine ⟨?_,?_⟩
 ·go_simp
 ·go_simp
theorem GX.mLoad (ho:ops[i]? = some o) (hw:Region.wanted o (yielded ops a.tmps)=true) (hop:o.op=.load 3 (.tmp t)) (ht:a.tmps[t]? = some (mkF (.pointer (some ad)) C)) (hs:ad.spot=none) {z:Int} (hz:C[ad.off]? = some (.int .i64 z)) (hk:GX cs Q (b.at (a.put o.dst (.int .i64 z)) (.inRegion ops l::k)) xs w):GX cs Q (b.at a (.inRegion ops (i::l)::k)) xs w:=by
 letI:Scope:=scopeM
 refine GetsX.op_mk ho hw (.int .i64 z) (fun S ρ w fr' hf=>?_) hk
 obtain ⟨e,ad',hp,⟨ty,fr,hh⟩,_,hsh⟩:=hf.mark (show (b.at a (.inRegion ops (i::l)::k)).tmps[t]? = _ from ht)
 obtain rfl:ad'=ad:=by
  rcases hp with hp | ⟨_,_,hp⟩
  ·cases hp;rfl
  ·cases hp
 have hlt:=(Array.getElem?_eq_some_iff.1 hh).1
 have hc:∀ d,(w.at d).cell? ad'=some (.int .i64 z):=fun d=>by
  have hh':(w.at d).heap[ad'.block]? = some (.cells C ty fr):=hh
  obtain ⟨bl,of,sp⟩:=ad'
  simp only at hs hz hh'
  subst hs
  simp [World.cell?,hh',hz]
 refine ⟨.int .i64 z, .inl (.int .i64 z),fun d=>?_⟩
 have hcd:=hc d
 unfold execOp
 simp only [hop,e]
 refine ⟨?_,?_⟩
 ·go_simp
 ·have hev:∀ x:Event,x=⟨.cell ad',false,false⟩→EvL S w.heap.size x:=fun x hx=>by subst hx;exact evl_read (hsh.1 ad' rfl) hlt
  go_simp
end
end Go.Proofs.YtjnkcibpkkjniaaGreat.Pool
