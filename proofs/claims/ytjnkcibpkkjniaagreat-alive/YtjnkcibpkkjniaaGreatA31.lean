import Derived.Test.YtjnkcibpkkjniaaGreatA30
import Derived.Test.YtjnkcibpkkjniaaGreatA05
import Derived.Test.YtjnkcibpkkjniaaGreatA06
import Derived.Test.YtjnkcibpkkjniaaGreatA10
import Derived.Test.YtjnkcibpkkjniaaGreatA13
set_option linter.unusedVariables false
set_option linter.unusedSimpArgs false
set_option linter.unusedSectionVars false
namespace Go.Proofs.YtjnkcibpkkjniaaGreat.Pool
open Go.Conc Go.ConcN Go.Conc.Lib Go.ConcR.Gen Go.ConcN.Gen Go.Proofs.YtjnkcibpkkjniaaGreat.Sim
open Go.ConcR (KK wgBlock WgAt stA smA rd wr mk DC0)
variable [Scope]
section
variable {P:Program} {Shun:Loc→Prop} {Q:Goroutine→World→Prop} {g g':Goroutine} {w:World}
theorem GetsA.c0 (hg:g.status=.running) (h:∀ w,stepG P true g w=.go g' w #[]) (k:∀ w',w'.heap=w.heap→w'.os=w.os→GetsA P Any Shun Q g' w'):GetsA P Any Shun Q g w :=
 GetsA.step (fun _ _=>trivial) hg fun d=>⟨g',w.at d,#[],h _,by simp,Nat.le_refl _,k _ rfl rfl⟩
end
section
variable {p:WI} {B:WB} {Shun:Loc→Prop} {V W:Nat→Prop} {us cs:List Frame} {w:World} {RB DB:Nat} {o:Obj} {v8 v15 v16 v17 v18 v19 v20 v21 v22 v23 v24 v9 v25 v26 v27 v28 v29 v30 v31 v32 v33 v34 v35 v36 v37:Value} {Q:Goroutine→World→Prop}
def GE (p:WI) (B:WB) (RB:Nat) (v8 v15 v18 v19 v20 v21 v22 v23 v24:Value) (v9 v25 v26 v27 v28 v29 v30 v31 v32 v33 v34 v35 v36 v37:Value):Array Value :=
 ((GD p B RB v8 v15 v18 v19 v20 v21 v22 v23 v24 v9 v25 v26 v27 v28 v29 v30 v31 v32 v33 v34 v35 v36 v37).setIfInBounds 38 (rslice p RB)).setIfInBounds 6 (rslice p RB)
set_option maxRecDepth 100000 in
set_option maxHeartbeats 4000000 in
theorem d_end (hF:DF V RB o w) :
  Goes Tryz.prog true (RK Tryz.link.tWg B.Wg V) (DM V W) (fun g w=>DF V RB o w∧g=dfr (GE p B RB v8 v15 v18 v19 v20 v21 v22 v23 v24 v9 v25 v26 v27 v28 v29 v30 v31 v32 v33 v34 v35 v36 v37) (.code .ret::dkk) us) 12
   (dfr (GD p B RB v8 v15 v18 v19 v20 v21 v22 v23 v24 v9 v25 v26 v27 v28 v29 v30 v31 v32 v33 v34 v35 v36 v37) (.code dend::dkk) us) w:=by
 simp only [dfr,GE,GD,dend,dcode,dkk,s4rest,labody,galoop,gabody,Tryz.f63,Option.getD_some]
 ((refine Goes.step rfl (fun _ h₁=>?_);replace hF:=DF.keep hF (RK.keep h₁);clear h₁);rw [stepG_seq];simp only [goes_go];refine ⟨DM.nil,?_⟩)
 ((refine Goes.step rfl (fun _ h₁=>?_);replace hF:=DF.keep hF (RK.keep h₁);clear h₁);rw [stepG_region];simp only [goes_go,List.size_toArray,List.length_cons,List.length_nil,Nat.reduceAdd,Nat.zero_add,List.range,List.range.loop];refine ⟨DM.nil,?_⟩)
 ((refine Goes.step rfl (fun _ h₁=>?_);replace hF:=DF.keep hF (RK.keep h₁);clear h₁);refine goes_oper_k rfl rfl (by decide) (fun K hK=>?_);(try simp only [ptr,rslice]);go_simp;refine hK _ _ ⟨⟨fun _ _=>rfl,rfl,rfl,fun e he=>?_⟩,?_⟩;(focus (clear hK;have hm:=mem_listed he;simp [go_sem,ptr,rslice, *] at hm));clear hK K)
 ((refine Goes.step rfl (fun _ h₁=>?_);replace hF:=DF.keep hF (RK.keep h₁);clear h₁);refine goes_oper_k rfl rfl (by decide) (fun K hK=>?_);(try simp only [ptr,rslice]);go_simp;refine hK _ _ ⟨⟨fun _ _=>rfl,rfl,rfl,fun e he=>?_⟩,?_⟩;(focus (clear hK;have hm:=mem_listed he;simp [go_sem,ptr,rslice, *] at hm));clear hK K)
 ((refine Goes.step rfl (fun _ h₁=>?_);replace hF:=DF.keep hF (RK.keep h₁);clear h₁);rw [stepG_region_end];simp only [goes_go];refine ⟨DM.nil,?_⟩)
 exact Goes.stop fun w₁ h₁=>⟨hF.keep h₁.keep,rfl⟩
theorem g_leave {A:Array Value} {c:Frame} {cs:List Frame} {ret:Value} (hA:A.getD 6 undef=ret) (k:∀ w',w'.heap=w.heap→w'.os=w.os→GetsA Tryz.prog Any Shun Q (G (c.finish ret) cs) w'):GetsA Tryz.prog Any Shun Q (dfr A (.code .ret::dkk) (c::cs)) w:=by
 refine GetsA.c0 rfl (fun w=>stepG_ret') fun w1 h1 o1=>?_
 refine GetsA.c0 (g':=G (c.finish ret) cs) rfl (fun w=>?_) fun w2 h2 o2=>k w2 (h2.trans h1) (o2.trans o1)
 have hres:Tryz.f63.results=#[.tmp 6]:=rfl
 have:=stepG_leave (P:=Tryz.prog) (main:=true) (b:=gaf) (a:=⟨A,[]⟩) (todo:=.code .ret::dkk) (c:=c) (cs:=cs) (w:=w) (v:=A.getD 6 undef) rfl rfl Tryz.func63 (results_tmp hres _ _ _) (events_results_tmp hres _ _)
 rw [hA] at this
 exact this
set_option maxHeartbeats 2000000 in
theorem w10_8 {ret:Value} {o:Oper} {listed:Array Bool} {a:Act} {w:World} (ho:r10ops[8]? = some o) (hr:8∈Region.ready .any r10ops listed)
  (ht:Tab r10ops (v10 p B ret) (fix10 B) 36 listed a):(execOp a.eval o).run Tryz.prog w=.ok (.value (v10 p B ret 8)) w∧∀ e∈(execOp a.eval o).events Tryz.prog w #[],False:=by
 have hd:=dep ht ho hr
 clear hr
 simp only [r10ops,r10,wlast,wrest,Tryz.f35] at ho hd
 simp only [List.getElem?_toArray,List.getElem?_cons_succ,List.getElem?_cons_zero,Option.some.injEq] at ho hd
 subst ho
 simp [Region.binds,v10] at hd
 refine ⟨?_,?_⟩
 all_goals unfold execOp
 all_goals simp only [Act.eval,v10,Array.getD_eq_getD_getElem?,hd,Option.getD_some]
 ·go_simp
 ·intro e he
  simp [go_sem] at he
theorem r10_8:∃ o,r10ops[8]? = some o∧o.dst=some 4:=⟨_,rfl,rfl⟩
set_option maxHeartbeats 2000000 in
theorem w_leave {V0:Nat→Prop} {ret:Value} {c:Frame} {a:Act} {listed:Array Bool} {fuel t:Nat} (hV:∀ b,V0 b→∀ l,InBlock b l→¬ Shun l) (hVB:∀ b,V0 b→b < w.heap.size) (hF:MF p B V0 w)
  (ht:Tab r10ops (v10 p B undef) (fix10 B) 36 listed a) (hr:7∈Region.ready .any r10ops listed) (h8:listed.getD 8 false=false) (hu:unl r10ops listed≤fuel+1)
  (k:∀ w',w'.heap=w.heap→w'.os=w.os→GetsA Tryz.prog Any Shun Q (G (c.finish ret) cs) w') :
  GetsA Tryz.prog Any Shun Q (G ((wf.at a (.inRegion r10ops (7::Region.linearise.go .any r10ops fuel t (listed.setIfInBounds 7 true) [])::[.code .ret])).finish ret) (c::cs)) w:=by
 obtain ⟨o,ats,ho,od,oop,og⟩:=r10_7
 rw [Frame.finish_at,ho]
 have h7:listed.getD 7 false=false:=ready_not ht.lsz hr
 have hT:Tab r10ops (v10 p B ret) (fix10 B) 36 (listed.setIfInBounds 7 true) (a.put o.dst ret):=ht.put ok_10 ho hr rfl fun j hj=>by
  have e7:j≠7:=fun e=>by rw [e,h7] at hj;cases hj
  have e8:j≠8:=fun e=>by rw [e,h8] at hj;cases hj
  unfold v10
  split <;> first | rfl | exact absurd rfl e7 | exact absurd rfl e8
 have hi7:7 < listed.size:=by rw [ht.lsz,size_10];decide
 have hun:=unl_set (ops:=r10ops) (listed:=listed) (i:=7) (by rw [size_10];decide) ht.lsz h7
 have hw:=lin_walk (P:=Tryz.prog) (mn:=true) (R:=RK Tryz.link.tWg B.Wg V0) (S:=V0) (ops:=r10ops) (val:=v10 p B ret) (fix:=fix10 B) (T:=36) (sp:=fun i=>i == 7) (L0:=fun _=>true) (Sok:=MF p B V0) (b:=wf) (k:=[.code .ret]) (cs:=c::cs)
  RK.trans (fun w w₁ h hF=>hF.keep h.keep) ok_10 (by decide) (fun i o listed a w ho hr hsp ht hF=>by
   by_cases e:i=8
   ·subst e
    obtain ⟨h1,h2⟩:=w10_8 (w:=w) ho hr ht
    exact ⟨h1,fun e he=>(h2 e he).elim⟩
   ·exact w10_op i o listed a w ho hr (by simp only [sp10] at *;simp at hsp ⊢;exact ⟨hsp,e⟩) ht hF) fuel t _ _ w hT (fun j hj=>by
    obtain rfl:j=7:=by simpa using hj
    rw [getD_set _ _ _ hi7,if_pos rfl]) hF (by omega)
 refine GetsA.goes (W:=fun _=>False) hV hVB (Goes.monoD (fun _ _ _ h=>DM.ofQ h) hw) fun g' w' hs hsz hos hh=>?_
 obtain ⟨hF',a2,listed2,ht2,hL2,⟨i,fuel2,t2,hi,hr2,hu2,rfl⟩ | ⟨hall,rfl⟩⟩:=hs
 ·have:=ready_not ht2.lsz hr2
  rw [hL2 i hi] at this
  cases this
 ·have hheap:w'.heap=w.heap:=by
   apply Array.ext_getElem?
   intro i
   exact hh i id
  refine GetsA.c0 rfl (fun w=>stepG_region_end) fun w1 h1 o1=>?_
  refine GetsA.c0 rfl (fun w=>stepG_ret') fun w2 h2 o2=>?_
  refine GetsA.c0 (g':=G (c.finish ret) cs) rfl (fun w=>?_) fun w3 h3 o3=>k w3 (h3.trans (h2.trans (h1.trans hheap))) (o3.trans (o2.trans (o1.trans hos)))
  have hres:Tryz.f35.results=#[.tmp 4]:=rfl
  obtain ⟨o8,ho8,od8⟩:=r10_8
  have h4:a2.tmps.getD 4 undef=ret:=by
   have:=ht2.val 8 o8 4 ho8 (hall 8 (by rw [size_10];decide)) od8
   rw [Array.getD_eq_getD_getElem?,this]
   rfl
  have:=stepG_leave (P:=Tryz.prog) (main:=true) (b:=wf) (a:=a2) (todo:=[.code .ret]) (c:=c) (cs:=cs) (w:=w) (v:=a2.tmps.getD 4 undef) rfl ht2.defers Tryz.func35 (results_tmp hres _ _ _) (events_results_tmp hres _ _)
  rw [h4] at this
  exact this
end
end Go.Proofs.YtjnkcibpkkjniaaGreat.Pool
namespace Go.Proofs.YtjnkcibpkkjniaaGreat.Pool
open Go.Conc Go.ConcN Go.Conc.Lib Go.ConcR.Gen Go.ConcN.Gen Go.Proofs.YtjnkcibpkkjniaaGreat.Sim
open Go.ConcR (KK wgBlock WgAt stA smA rd wr mk DC0)
variable [Scope]
section
variable {p:WI} {B:WB} {Shun:Loc→Prop} {V0:Nat→Prop} {us cs:List Frame} {c:Frame} {wo:World} {RB:Nat} {rep:Array Value} {v8 v15 v16 v17 v18 v19 v20 v21 v22 v23 v24:Value} {Q:Goroutine→World→Prop} {msg v:Nat→Value} {cap sent r:Nat} {wait got:List Nat}
theorem MF.old {w:World} (hF:MF p B V0 wo) (hO:OldW B.CB RB wo w) (hV:∀ b,V0 b→b < wo.heap.size∧b≠B.CB∧b≠RB):MF p B V0 w :=
 hF.keep fun b hb=>hO.heap b (hV b hb).1 (hV b hb).2.1 (hV b hb).2.2
set_option maxHeartbeats 1000000 in
theorem after_over (hS:∀ b,V0 b∨b=RB∨wo.heap.size≤b→∀ l,InBlock b l→¬ Shun l) (hV:∀ b,V0 b→b < wo.heap.size∧b≠B.CB∧b≠RB) (hCR:RB≠B.CB) (hF:MF p B V0 wo) (hU:Under p B (c::cs) us)
  (hC:wo.heap[B.CB]? = some (.chan cap (wait.map msg).toArray false sent r false)) (hR:wo.heap[RB]? = some (.cells rep 140)) (hL:LaidV p rep v got) (hN:wait.length < 2147483647)
  (hA:∀ i∈wait,i < p.xl∧IsAns (v i)∧msg i=.agg (#[.int .i64 i]++(v i).cells))
  (kk:∀ w' rep',w'.heap[RB]? = some (.cells rep' 140)→LaidV p rep' v (got++wait)→OldW B.CB RB wo w'→GetsA Tryz.prog Any Shun Q (G (c.finish (rslice p RB)) cs) w') :
  GetsA Tryz.prog Any Shun Q (G (gaf.at ⟨GT p B RB v8 (.chan (some B.CB)) (.chan (some B.CF)) (.tuple #[.int .i64 1, .bool false,zdone,zfin]) v15 v16 v17 v18 v19 v20 v21 v22 v23 v24,[]⟩ [.inRegion s4ops [1,2,3], .code s4rest, .inBlock 1, .inLoop labody, .inBlock 0]) us) wo:=by
 have hRB:RB < wo.heap.size:=(Array.getElem?_eq_some_iff.1 hR).1
 have hCB:B.CB < wo.heap.size:=(Array.getElem?_eq_some_iff.1 hC).1
 have hSR:∀ b,b=RB→∀ l,InBlock b l→¬ Shun l:=fun b hb=>hS b (.inr (.inl hb))
 refine GetsA.goes (ty:=Tryz.link.tWg) (Wg:=B.Wg) (V:=fun b=>b=RB) (W:=fun _=>False) hSR (fun b hb=>by rw [hb];exact hRB) (d_start (B:=B) ⟨rfl,hR⟩) (fun g1 w1 hs hsz hos hh=>?_)
 obtain ⟨hF1,rfl⟩:=hs
 have hO1:OldW B.CB RB wo w1:=⟨Nat.le_of_eq hsz.symm,hos,fun b _ _ _=>hh b id⟩
 have hC1:=(hh B.CB id).trans hC
 refine d_len hC1 fun d=>?_
 have hN':((wait.map msg).toArray.size:Int)=((wait.length:Nat):Int):=by simp
 rw [hN']
 refine GetsA.goes (ty:=Tryz.link.tWg) (Wg:=B.Wg) (V:=fun b=>b=RB) (W:=fun _=>False) hSR (fun b hb=>by rw [hb];show RB < w1.heap.size;omega) (d_enter (B:=B) (w:=w1.at d) ⟨rfl,hF1.o⟩) (fun g2 w2 hs hsz2 hos2 hh2=>?_)
 obtain ⟨hF2,rfl⟩:=hs
 have hO2:OldW B.CB RB wo w2:=⟨by rw [hsz2];exact hO1.size,hos2.trans hO1.os,fun b h1 h2 h3=>(hh2 b id).trans (hO1.heap b h1 h2 h3)⟩
 have hC2:=(hh2 B.CB id).trans (show (w1.at d).heap[B.CB]? = _ from hC1)
 refine d_loop (wo:=wo) hN (fun b hb=>hS b (.inr hb)) hCR hRB hCB wait got 0 (by omega) hC2 hF2.o hL hA hO2 fun w3 rep' v9 v28 v29 v30 v31 v32 v33 v34 v35 v36 v37 hR3 hL3 hO3=>?_
 refine GetsA.goes (ty:=Tryz.link.tWg) (Wg:=B.Wg) (V:=fun b=>b=RB) (W:=fun _=>False) hSR (fun b hb=>by have:=hO3.size;rw [hb];omega) (d_end (B:=B) ⟨rfl,hR3⟩) (fun g4 w4 hs hsz4 hos4 hh4=>?_)
 obtain ⟨hF4,rfl⟩:=hs
 have hO4:OldW B.CB RB wo w4:=⟨by rw [hsz4];exact hO3.size,hos4.trans hO3.os,fun b h1 h2 h3=>(hh4 b id).trans (hO3.heap b h1 h2 h3)⟩
 obtain ⟨a,listed,fuel,t,ht,hr,h8,hu,rfl⟩:=hU
 unfold gunder
 refine g_leave (ret:=rslice p RB) (by simp [GE,GD]) fun w5 h5 o5=>?_
 have hO5:OldW B.CB RB wo w5:=⟨by rw [h5];exact hO4.size,o5.trans hO4.os,fun b h1 h2 h3=>by rw [h5];exact hO4.heap b h1 h2 h3⟩
 refine w_leave (V0:=V0) (fun b hb=>hS b (.inl hb)) (fun b hb=>Nat.lt_of_lt_of_le (hV b hb).1 hO5.size) (hF.old hO5 hV) ht hr h8 hu fun w6 h6 o6=>?_
 exact kk w6 rep' (by rw [h6,h5];exact hF4.o) hL3 ⟨by rw [h6];exact hO5.size,o6.trans hO5.os,fun b h1 h2 h3=>by rw [h6];exact hO5.heap b h1 h2 h3⟩
end
end Go.Proofs.YtjnkcibpkkjniaaGreat.Pool
namespace Go.Proofs.YtjnkcibpkkjniaaGreat.Pool
open Go.Conc Go.ConcN Go.Conc.Lib Go.ConcR.Gen Go.ConcN.Gen Go.Proofs.YtjnkcibpkkjniaaGreat.Sim
open Go.ConcR (KK wgBlock WgAt stA smA rd wr mk DC0)
section
variable [Scope]
theorem FrX.id {S:Loc→Prop} {w:World} {ρ:Ren} (h:IsId ρ) {a b:Frame} (k:FrX S ρ w a b) (hm:∀ (i:Nat) v,a.tmps[i]? = some v→isMk v=false):b=a:=by
 have e1:=k.fn
 have e2:=VsR_id h ⟨k.tmps.size,fun i v v' x y=>(k.tmps.get i v v' x y).vr (hm i v x)⟩
 have e3:=k.todo
 have e4:=k.defers
 have e5:=k.mode.1
 have e6:=k.kind
 have e7:=k.round
 obtain ⟨fn,tmps,td,defers,mode,kind,ro⟩:=a
 obtain ⟨fn',tmps',td',defers',mode',kind',ro'⟩:=b
 simp only at e1 e2 e3 e4 e5 e6 e7
 obtain ⟨e4,e4'⟩:=e4
 obtain ⟨e6,e6'⟩:=e6
 obtain ⟨e7,e7'⟩:=e7
 subst e1 e2 e3 e4 e4' e5 e6 e6' e7 e7'
 rfl
def Nmd (x:Frame) (b:Nat):Prop:=∃ (j:Nat) (v:Value),x.tmps[j]? = some v∧isMk v=false∧Nm v b
theorem FrX.named {S:Loc→Prop} {w:World} {ρ:Ren} {a b:Frame} (k:FrX S ρ w a b) {r:Nat} (h:Nmd a r):∃ pl,ρ r=some pl:=by
 obtain ⟨j,v,h1,h2,h3⟩:=h
 obtain ⟨v',e,hv⟩:=k.tmps.at_ h1
 exact VR.named h3 (hv.vr h2)
theorem FsX.mem {S:Loc→Prop} {w:World} {ρ:Ren} {a b:List Frame} (k:FsX S ρ w a b) {x:Frame} (hx:x∈a):∃ y,FrX S ρ w x y:=by
 induction k with
 | nil=>cases hx
 | cons h1 _ ih =>
  rcases List.mem_cons.1 hx with rfl | hx
  ·exact ⟨_,h1⟩
  ·exact ih hx
end
structure WorkIn (p:WI) (m:Value) (T:Nat→Prop) (R:Value→World→Prop) (wS:World):Prop where
 hF:WIF p wS
 one:p.xl=1
 nl:1≤p.nl
 hm:wS.cell? ⟨p.nb,p.no,none⟩=some m
 closed:∀ b,T b→∃ o,wS.heap[b]? = some o∧@OR scopeW (idOn T) o o
 reach:∀ b,T b→Rch wS #[p.s,p.inn] b
 apart:¬ T p.sp∧¬ T p.nb
 rel:@VsR scopeW (idOn T) #[.pointer (some ⟨p.xb,p.xo,none⟩), .int .i64 p.id,m] #[.pointer (some ⟨p.xb,p.xo,none⟩), .int .i64 p.id,m]
 calls:∀ t,Calls Tryz.prog 60 #[.pointer (some ⟨p.xb,p.xo,none⟩), .int .i64 p.id,m] { wS with tape:=t,drawn:=0 } fun e w'=>∃ v,e=.returned v∧R v w'
 osR:∀ v w',R v w'→w'.os=wS.os
 shape:∀ v w ρ v',R v w→@VR scopeW ρ v v'→IsAns v'
noncomputable def wfr (p:WI):Frame:=wf.at ⟨#[p.s,p.inn]++Array.replicate 34 undef,[]⟩ [.code (Tryz.f35.body.getD .skip)]
theorem unm2 (a b:Value) (ha:isMk a=false) (hb:isMk b=false) (n:Nat):∀ (i:Nat) v,(#[a,b]++Array.replicate n undef)[i]? = some v→isMk v=false:=by
 intro i v hv
 rw [Array.getElem?_append] at hv
 split at hv
 ·match i,hv with
  | 0,hv=>simp at hv;rw [←hv];exact ha
  | 1,hv=>simp at hv;rw [←hv];exact hb
  | i+2,hv=>simp at hv
 ·rw [Array.getElem?_replicate] at hv
  split at hv
  ·cases hv;rfl
  ·cases hv
theorem wfr_unm (p:WI):∀ (i:Nat) v,(wfr p).tmps[i]? = some v→isMk v=false:=unm2 p.s p.inn rfl rfl 34
theorem okWM:∀ f,scopeW.ok f=true→scopeM.ok f=true:=by
 intro f hf
 have h:(spokenW.all fun f=>spokenM.contains f)=true:=by kernel_rfl
 have:=List.all_eq_true.1 h f (List.contains_iff_mem.1 hf)
 exact this
theorem size1 {l:List Nat} (h:l.Nodup) (k:∀ i∈l,i < 1):l.length≤1:=by
 match l,h,k with
 | [],_,_=>simp
 | [a],_,_=>simp
 | a::b::r,h,k =>
  have ha:=k a (by simp)
  have hb:=k b (by simp)
  obtain rfl:a=0:=by omega
  obtain rfl:b=0:=by omega
  simp at h
theorem AR.self {SM:Scope} {S:Nat→Prop} {b o:Nat} (h:S b) (hb:SM.base≤b):@AR SM (idOn S) ⟨b,o,none⟩ ⟨b,o,none⟩:=⟨hb,⟨b,none⟩,idOn_some h,rfl,by simp [Place.shift],rfl⟩
set_option maxHeartbeats 4000000 in
theorem leap {p:WI} {m:Value} {T:Nat→Prop} {R:Value→World→Prop} {wS:World} (hI:WorkIn p m T R wS) {Post:Value→World→Prop}
  (htrans:∀ ρ1 v v' wE w',(idOn T).le ρ1→Whole scopeW.base ρ1→@HR scopeW ρ1 wE w'→@VR scopeW ρ1 v v'→R v wE→Post v' w')
  {cs x2:List Frame} {c bc:Frame} {ac:Act} {ops:Array Oper} {i:Nat} {l:List Nat} {kk:List Item} (hc:c=bc.at ac (.inRegion ops (i::l)::kk)) {Q:Frame→List Frame→World→Prop}
  (k:∀ w' RB sa sl sc sb (I:Nat→Prop),(∀ b,I b→∃ o,w'.heap[b]? = some o∧@OR scopeW (idOn I) o o)→(∀ b,T b→I b)→(∀ x∈wfr p::c::x2,∀ b,Nmd x b→¬ T b→¬ I b)→Post (.agg #[.slice sa sl sc, .bool sb]) w'→w'.heap[RB]? = some (.cells #[.slice sa sl sc, .bool sb] 140)→(∀ x∈wfr p::c::x2,∀ b,Nmd x b→¬ T b→w'.heap[b]? = wS.heap[b]?) →
   @GetsX Tryz.prog scopeM cs Q (c.finish (.slice (some ⟨RB,0,none⟩) 1 1)) x2 w') :
  @GetsX Tryz.prog scopeM cs Q (wfr p) (c::x2) wS:=by
 intro Shun ρ gs w sl t q hs
 obtain ⟨fr',ys,h0,hf,hx⟩:=@StandX.main scopeM _ _ _ _ _ _ _ _ _ _ _ hs
 have hr:=@StandX.hr scopeM _ _ _ _ _ _ _ _ _ _ _ hs
 have hleave:=@StandX.leave scopeM _ _ _ _ _ _ _ _ _ _ _ hs
 have hpast:=@StandX.past scopeM _ _ _ _ _ _ _ _ _ _ _ hs
 have haway:=@StandX.away scopeM _ _ _ _ _ _ _ _ _ _ _ hs
 obtain ⟨hsz,hid⟩:=@HR.sync scopeM _ _ _ hr rfl
 have hid:IsId ρ:=hid
 have hx0:=hx
 have hf0:=hf
 have hwm:=wfr_unm p
 obtain rfl:=@FrX.id scopeM _ _ _ hid _ _ hf hwm
 obtain ⟨c',x2',rfl,hcc,hxx⟩:∃ c' x2',ys=c'::x2'∧@FrX scopeM Shun ρ w c c'∧@FsX scopeM Shun ρ w x2 x2':=by
  cases hx with
  | cons a b=>exact ⟨_,_,rfl,a,b⟩
 have hD:∀ b,(∃ pl,ρ b=some pl)→ρ b=some ⟨b,none⟩:=fun b ⟨pl,hb⟩=>by rw [hb,hid b pl hb]
 have hsame:∀ b,(∃ pl,ρ b=some pl)→w.heap[b]? = wS.heap[b]?:=fun b ⟨pl,hb⟩=>@HR.same scopeM _ _ _ hr hid b pl hb
 have hwhole:∀ b pl,ρ b=some pl→pl.part=none:=fun b pl hb=>by rw [hid b pl hb]
 have hheld:∀ x∈wfr p::c::x2,∀ b,Nmd x b→∃ pl,ρ b=some pl:=fun x hx b hb=>by
  rcases List.mem_cons.1 hx with rfl | hx
  ·exact @FrX.named scopeM _ _ _ _ _ hf0 _ hb
  ·obtain ⟨y,hy⟩:=@FsX.mem scopeM _ _ _ _ _ hx0 _ hx
   exact @FrX.named scopeM _ _ _ _ _ hy _ hb
 have hargs:∀ b,Rch wS #[p.s,p.inn] b→∃ pl,ρ b=some pl:=fun b hb=>by
  have hA:@VsR scopeM ρ #[p.s,p.inn] #[p.s,p.inn]:=by
   have h1:=@FrX.tmps scopeM _ _ _ _ _ hf0
   refine @VsR.mk scopeM _ _ _ rfl fun i v v' a b=>?_
   have hi:i < 2:=(Array.getElem?_eq_some_iff.1 a).1
   have e:∀ (j:Nat),j < 2→(wfr p).tmps[j]? = (#[p.s,p.inn]:Array Value)[j]?:=fun j hj=>by
    show (#[p.s,p.inn]++Array.replicate 34 undef)[j]? = _
    rw [Array.getElem?_append_left hj]
   exact @VF.vr scopeM _ _ _ _ _ (@VsF.get scopeM _ _ _ _ _ h1 i v v' ((e i hi).trans a) ((e i hi).trans b)) (hwm i v ((e i hi).trans a))
  exact @HR.reached scopeM _ _ _ hr hwhole _ _ hA _ hb
 have dsp:∃ pl,ρ p.sp=some pl:=hargs _ (.arg (i:=0) rfl (.ptr _))
 have dnb:∃ pl,ρ p.nb=some pl:=hargs _ (.arg (i:=1) rfl (.slice _ _ _))
 have hDlt:∀ b,(∃ pl,ρ b=some pl)→b < w.heap.size∧∀ l,InBlock b l→¬ Shun l:=fun b ⟨pl,hb⟩=>by
  have hb':=hid b pl hb
  subst hb'
  refine ⟨(@HR.lt scopeM _ _ _ hr _ _ hb).2,fun l hl=>?_⟩
  cases l with
  | cell a=>exact @Away.cell _ _ _ haway b _ a hb hl
  | obj r=>obtain rfl:r=b:=hl;exact @Away.obj _ _ _ haway _ _ hb
  | _=>exact hl.elim
 have hTD:∀ b,T b→∃ pl,ρ b=some pl:=fun b hb=>hargs b (hI.reach b hb)
 let V0:Nat→Prop:=fun b=>b < w.heap.size∧¬ T b∧∀ l,InBlock b l→¬ Shun l
 let Shun1:Loc→Prop:=fun l=>Shun l∧l.isMemory=true
 let d:@JD:=⟨fun _=>m,fun _=>idOn T,fun _=>#[.pointer (some ⟨p.xb,p.xo,none⟩), .int .i64 p.id,m],fun _=>wS,fun _=>R⟩
 have hF:WIF p w:=⟨(cell_of_block (hsame _ dsp) _).trans hI.hF.hid,(cell_of_block (hsame _ dsp) _).trans hI.hF.hx,by rw [←hsz];exact hI.hF.ls,hI.hF.few⟩
 have hone:=hI.one
 have hbase:scopeM.base≤wS.heap.size:=@HR.base scopeM _ _ _ hr
 have hos:w.os=wS.os:=@HR.os scopeM _ _ _ hr
 have hP1:Past Shun1 w.heap.size t:=⟨hpast.clean,fun i a ha hm=>(hpast.known i a ha hm).imp id fun ⟨h1,h2⟩=>⟨⟨h1,hm⟩,h2⟩,hpast.over,hpast.hears,hpast.seen⟩
 have hO:@Olds scopeW p Shun1 V0 w:=@Olds.mk scopeW _ _ _ _ (fun b hb=>⟨hb.1,fun l hl k=>hb.2.2 l hl k.1⟩) ⟨(hDlt _ dsp).1,hI.apart.1,(hDlt _ dsp).2⟩ ⟨(hDlt _ dnb).1,hI.apart.2,(hDlt _ dnb).2⟩ (fun l hl=>hl.2)
  (fun l b hl hb=>by
   have:=@Away.low _ _ _ haway l hl.1
   cases l with
   | cell a=>obtain rfl:a.block=b:=hb;exact this
   | obj r=>obtain rfl:r=b:=hb;exact this
   | _=>exact hb.elim) (by rw [←hsz];exact hbase)
 have hHR:@HR scopeW (idOn T) wS w:=@HR.mk scopeW _ _ _ (fun b pl hb=>by
   obtain ⟨hT,rfl⟩:=@idOn_of scopeM _ _ _ hb
   obtain ⟨o,h1,h2⟩:=hI.closed b hT
   exact ⟨o,o,h1,(hsame b (hTD b hT)).trans h1,h2⟩) (fun b b' pl pl' h h' e=>by
   obtain ⟨_,rfl⟩:=@idOn_of scopeM _ _ _ h
   obtain ⟨_,rfl⟩:=@idOn_of scopeM _ _ _ h'
   exact e) hbase hos (fun e=>by cases e)
 have hJ:@Jobs scopeW p d Shun1 V0 w:=by
  refine @Jobs.mk scopeW _ _ _ _ _ (fun i hi B S=>?_) (fun i hi=>hHR) (fun i hi b pl hb=>?_) (fun i i' hi hi' hne=>by omega) (fun i hi=>?_)
  ·obtain rfl:i=0:=by omega
   exact @Work.Good.mk scopeW _ _ (by show scopeW.ok _=true;kernel_rfl) (by
    have:=hI.rel
    simp only [jobOf,Work.setS,Wk.job,wkOf,Nat.zero_mul,Nat.add_zero]
    exact this) hI.calls hI.shape
  ·obtain ⟨hT,rfl⟩:=@idOn_of scopeM _ _ _ hb
   have:=hDlt b (hTD b hT)
   exact ⟨this.1,fun hv=>hv.2.1 hT,fun l hl k=>this.2 l hl k.1⟩
  ·obtain rfl:i=0:=by omega
   exact (cell_of_block (hsame _ dnb) _).trans hI.hm
 obtain ⟨N0,pc,J,RB,us,s1,w1,s',wo,rep,b8,b15,b16,b17,b18,b19,b20,b21,b22,b23,b24,hrun0,hShun,hd,hU,hV1,hRV,hR1,hL1,hF1,hRn,hRV0,hRBb,hov⟩:=@to_over scopeW zerosW codesW rfl p d Shun1 V0 w (c'::(x2'++cs)) gs sl t q h0 hleave hP1 hF (by rw [hone];exact hI.nl) hO hJ
 obtain ⟨⟨N1,gs2,sl2,t2,q2,hrun2,hm2,hL2,hP2⟩,hdone,hnd,hrange,hback,hzone,hVe,hWe,hgot,hval,hheap,hbase2⟩:=hov
 obtain ⟨zlt,zapart,zshun,zv,zwv,zsj,zsc,znums,zold⟩:=hzone
 let B:WB:=WB.from w.heap.size
 let Nn:Nums:=⟨pc.B0,p.xl,w.heap.size+6,w.heap.size+2,w.heap.size+4,Tryz.link.tWg, .tuple #[]⟩
 have h01:0 < p.xl:=by omega
 let ρ1:Ren:=(s'.D 0).ρ
 have zlt':∀ b pl,ρ1 b=some pl→pl.block < wo.heap.size∧¬ s1.V pl.block∧pl.block≠w.heap.size+6∧pl.block≠w.heap.size+2∧pl.block≠w.heap.size+4:=fun b pl hb=>by
  have:=zlt 0 h01 b pl hb
  rw [hVe] at this
  exact this
 have eS:∀ l,pc.Shun l↔Shun1 l:=fun l=>by rw [hShun]
 have zsh':∀ b pl l,ρ1 b=some pl→InBlock pl.block l→¬ Shun1 l:=fun b pl l hb hl k=>zshun 0 h01 b pl l hb hl ((eS l).2 k)
 have zv':∀ b,s1.V b→b < wo.heap.size∧b≠w.heap.size+6∧b≠w.heap.size+2∧b≠w.heap.size+4∧∀ l,InBlock b l→¬ Shun1 l:=fun b hb=>by
  have:=zv b (by rw [hVe];exact hb)
  exact ⟨this.1,this.2.1,this.2.2.1,this.2.2.2.1,fun l hl k=>this.2.2.2.2 l hl ((eS l).2 k)⟩
 have znums':w.heap.size+6 < wo.heap.size:=znums.1
 have zold':∀ l b,Shun1 l→InBlock b l→b < wo.heap.size:=fun l b hl hb=>zold l b ((eS l).2 hl) hb
 let Shun2:Loc→Prop:=fun l=>pc.Shun l∨ShP Nn l
 have hP2':Past Shun2 wo.heap.size t2:=hP2
 have noSh:∀ b l,InBlock b l→b≠w.heap.size+6→b≠w.heap.size+2→b≠w.heap.size+4→¬ Shun1 l→¬ Shun2 l:=fun b l hb n1 n2 n3 hn k=>by
  rcases k with k | k
  ·exact hn ((eS l).1 k)
  ·rcases @ShP.block scopeW _ _ k with k | k | k
   ·exact n1 (hb.uniq k)
   ·exact n2 (hb.uniq k)
   ·exact n3 (hb.uniq k)
 let val:Nat→Value:=fun i=>(s'.D i).v
 have hRV':=zv' RB hRV
 let Q1:Goroutine→World→Prop:=fun g w2=>g=G (c'.finish (rslice p RB)) (x2'++cs)∧∃ rep',w2.heap[RB]? = some (.cells rep' 140)∧LaidV p rep' val (s'.got++s'.wait)∧OldW (w.heap.size+2) RB wo w2
 have hgets:GetsA Tryz.prog Any Shun2 Q1 _ wo:=@after_over scopeW p B Shun2 (fun b=>s1.V b∧b≠RB) us (x2'++cs) c' wo RB rep b8 b15 b16 b17 b18 b19 b20 b21 b22 b23 b24 Q1 (fun i=>(J i).msg (s'.D i).v) val _ _ _ s'.wait s'.got
  (fun b hb l hl=>by
   rcases hb with ⟨hb,_⟩ | rfl | hb
   ·have:=zv' b hb
    exact noSh b l hl this.2.1 this.2.2.1 this.2.2.2.1 (this.2.2.2.2 l hl)
   ·exact noSh _ l hl hRV'.2.1 hRV'.2.2.1 hRV'.2.2.2.1 (hRV'.2.2.2.2 l hl)
   ·exact noSh b l hl (by omega) (by omega) (by omega) fun k=>by have:=zold' l b k hl;omega)
  (fun b hb=>⟨(zv' b hb.1).1,(zv' b hb.1).2.2.1,hb.2⟩) hRV'.2.2.1
  (by
   have:=hF1.keep hheap
   exact ⟨this.s,this.n,this.c,this.g,this.id,this.x,⟨this.vs.1,Ne.symm hRn.1⟩,⟨this.vs.2.1,Ne.symm hRn.2.1⟩,⟨this.vs.2.2.1,Ne.symm hRn.2.2.1⟩,⟨this.vs.2.2.2.1,Ne.symm hRn.2.2.2.1⟩,⟨this.vs.2.2.2.2,Ne.symm hRn.2.2.2.2⟩⟩)
  hU hback ((hheap RB hRV).trans hR1)
  ⟨hL1.size,fun k hk=>by
   have hk1:k∈s1.got:=by rw [←hgot];exact hk
   obtain ⟨a1,a2,a3,a4,a5,a6,a7⟩:=hL1.at_ k hk1
   exact ⟨a1,a2,a3,a4,a5,(hval k hk1).trans a6,a7⟩⟩
  (by
   have:=size1 (l:=s'.wait) (List.nodup_append.1 hnd).2.1 fun i hi=>by have:=hrange i (List.mem_append_right _ hi);show i < 1;rw [←hone];exact this
   omega)
  (fun i hi=>by
   have hi':i < p.xl:=hrange i (List.mem_append_right _ hi)
   obtain ⟨S,eJ⟩:=hd i hi'
   have hok:=(hdone i hi').1.1
   refine ⟨hi',?_,?_⟩
   ·have hok:(J i).ok (s'.D i).v:=hok
    rw [eJ] at hok
    exact hok
   ·show (J i).msg _=_
    rw [eJ]
    rfl)
  (fun w' rep' e1 e2 e3=>GetsA.done ⟨rfl,rep',e1,e2,e3⟩)
 obtain ⟨N3,gs3,g3,w3,sl3,t3,q3,hrun3,_,hm3,hL3,hP3,_,rfl,rep',hR3,hLV,hO3⟩:=hgets gs2 sl2 t2 q2 hm2 hL2 hP2' (Clean.any _)
 obtain ⟨⟨hok,⟨hle,hgrow⟩,vS,wE,hHR1,hVR1,hRR⟩,hmem⟩:=hdone 0 h01
 obtain ⟨S0,eJ⟩:=hd 0 h01
 have eρ:((PX p B pc J).J 0).ρ=idOn T:=by show (J 0).ρ=_;rw [eJ];rfl
 have hle':(idOn T).le ρ1:=by rw [←eρ];exact hle
 have hRR':R vS wE:=by
  have h1:(J 0).R vS wE:=hRR
  rw [eJ] at h1
  exact h1
 have hwh:Whole scopeW.base ρ1:=fun b pl hb=>by
  rcases hgrow b pl hb with h | ⟨h1,h2⟩
  ·have h:((PX p B pc J).J 0).ρ b=some pl:=h
   rw [eρ] at h
   obtain ⟨_,rfl⟩:=@idOn_of scopeM _ _ _ h
   exact ⟨rfl, .inl rfl⟩
  ·exact ⟨h1, .inr h2⟩
 obtain ⟨_,sa,sl',sc,sb,hv0,hr0,hr1⟩:=hLV.at_ 0 hmem
 have hrep:rep'=#[.slice sa sl' sc, .bool sb]:=by
  have hs:rep'.size=2:=by rw [hLV.size,hone]
  apply Array.ext_getElem?
  intro j
  match j with
  | 0=>rw [show (0:Nat)=0 * 2 from rfl,hr0];rfl
  | 1=>rw [show (1:Nat)=0 * 2+1 from rfl,hr1];rfl
  | j+2=>rw [Array.getElem?_eq_none (by omega),Array.getElem?_eq_none (by simp)]
 subst hrep
 have hHR3:@HR scopeW ρ1 wE w3:=@HR.leaves scopeW _ _ _ _ rfl hHR1 (@Leaves.block scopeW ρ1 wo w3 fun b pl hb=>hO3.heap _ (zlt' b pl hb).1 (zlt' b pl hb).2.2.2.1 fun e=>(zlt' b pl hb).2.1 (e▸hRV)) hO3.os
 have hVR3:@VR scopeW ρ1 vS (.agg #[.slice sa sl' sc, .bool sb]):=by rw [←hv0];exact hVR1
 have hpost:=htrans ρ1 vS _ wE w3 hle' hwh hHR3 hVR3 hRR'
 have hIc:∀ b,Img ρ1 b→∃ o,w3.heap[b]? = some o∧@OR scopeW (idOn (Img ρ1)) o o:=fun b ⟨y,hy⟩=>by
  obtain ⟨o,o',h1,h2,h3⟩:=@HR.obj scopeW _ _ _ hHR3 y _ hy
  exact ⟨o',h2,@OR.img scopeW scopeW ρ1 rfl (fun _ h=>h) hwh _ _ h3⟩
 have hIn:∀ b,(∃ pl,ρ b=some pl)→¬ T b→¬ Img ρ1 b:=fun b hb hT ⟨y,hy⟩=>(zlt' y _ hy).2.1 (hV1 b ⟨(hDlt b hb).1,hT,(hDlt b hb).2⟩).1
 let S2:Nat→Prop:=fun b=>(∃ pl,ρ b=some pl)∨Img ρ1 b∨b=RB
 have hTimg:∀ b,T b→Img ρ1 b:=fun b hb=>⟨b,hle' _ _ (@idOn_some scopeM _ _ hb)⟩
 have hkeep:∀ b,(∃ pl,ρ b=some pl)→¬ T b→b≠RB∧w3.heap[b]? = wS.heap[b]?:=fun b hb hT=>by
  have hv:V0 b:=⟨(hDlt b hb).1,hT,(hDlt b hb).2⟩
  have hne:b≠RB:=fun e=>hRV0 (e▸hv)
  obtain ⟨k1,k2⟩:=hV1 b hv
  have k3:=zv' b k1
  exact ⟨hne,(hO3.heap b k3.1 k3.2.2.1 hne).trans ((hheap b k1).trans (k2.trans (hsame b hb)))⟩
 have hImgLe:(idOn (Img ρ1)).le (idOn S2):=@idOn_le scopeM _ _ fun b hb=>.inr (.inl hb)
 have hρS:ρ.le (idOn S2):=fun b pl hb=>by
  have e:=hid b pl hb
  subst e
  exact @idOn_some scopeM _ _ (.inl ⟨_,hb⟩)
 have hVM:@VR scopeM (idOn S2) (.agg #[.slice sa sl' sc, .bool sb]) (.agg #[.slice sa sl' sc, .bool sb]):=@VR.mono scopeM _ _ _ _ (@VR.img scopeW scopeM ρ1 rfl okWM hwh _ _ hVR3) hImgLe
 have hclosed:∀ b,S2 b→∃ o,w3.heap[b]? = some o∧@OR scopeM (idOn S2) o o:=fun b hb=>by
  by_cases hI1:Img ρ1 b
  ·obtain ⟨y,hy⟩:=hI1
   obtain ⟨o,o',h1,h2,h3⟩:=@HR.obj scopeW _ _ _ hHR3 y _ hy
   exact ⟨o',h2,@OR.mono scopeM _ _ _ _ (@OR.img scopeW scopeM ρ1 rfl okWM hwh _ _ h3) hImgLe⟩
  ·by_cases hRBe:b=RB
   ·subst hRBe
    refine ⟨_,hR3,@OR.cells scopeM _ _ _ _ _ (@VsR.diag scopeM _ _ fun j v hj=>?_)⟩
    cases hVM with
    | agg _ hg=>exact hg j v v hj hj
   ·have hbD:∃ pl,ρ b=some pl:=by
     rcases hb with hb | hb | hb
     ·exact hb
     ·exact absurd hb hI1
     ·exact absurd hb hRBe
    have hT:¬ T b:=fun hT=>hI1 (hTimg b hT)
    obtain ⟨pl,hpl⟩:=hbD
    obtain ⟨o,o',h1,h2,h3⟩:=@HR.obj scopeM _ _ _ hr b pl hpl
    have e:=hid b pl hpl
    subst e
    have h3':@OR scopeM ρ o o':=h3
    have eo:=@OR_id scopeM _ hid _ _ h3'
    subst eo
    exact ⟨o',(hkeep b ⟨_,hpl⟩ hT).2.trans h1,@OR.mono scopeM _ _ _ _ h3' hρS⟩
 have hbase3:scopeM.base≤w3.heap.size:=Nat.le_trans (show scopeM.base≤wo.heap.size from hbase2) hO3.size
 have hHR:@HR scopeM (idOn S2) w3 w3:=@HR_self scopeM S2 w3 hclosed hbase3
 have hSlt:∀ b,S2 b→∀ l,InBlock b l→¬ Shun2 l:=fun b hb l hl=>by
  rcases hb with hb | ⟨y,hy⟩ | rfl
  ·have:=(hDlt b hb).1
   exact noSh b l hl (by omega) (by omega) (by omega) fun k=>(hDlt b hb).2 l hl k.1
  ·have:=zlt' y _ hy
   exact noSh b l hl this.2.2.1 this.2.2.2.1 this.2.2.2.2 (zsh' y _ l hy hl)
  ·exact noSh _ l hl hRV'.2.1 hRV'.2.2.1 hRV'.2.2.2.1 (hRV'.2.2.2.2 l hl)
 have haway3:Away Shun2 (idOn S2) w3:=by
  refine ⟨fun b pl a hb ha=>?_,fun b pl hb=>?_,fun l hl=>?_,fun k=>?_⟩
  ·obtain ⟨hS,rfl⟩:=@idOn_of scopeM _ _ _ hb
   exact hSlt b hS _ ha
  ·obtain ⟨hS,rfl⟩:=@idOn_of scopeM _ _ _ hb
   exact hSlt b hS _ rfl
  ·have h3:=hO3.size
   rcases hl with k | k
   ·exact Loc.low_mono (by omega) (haway.low l ((eS l).1 k).1)
   ·rcases k with ⟨a,rfl,ha⟩ | rfl | rfl
    ·show a.block < _
     rw [ha];show w.heap.size+6 < _;omega
    ·show w.heap.size+2 < _;omega
    ·show w.heap.size+4 < _;omega
  ·rcases k with k | k
   ·exact absurd ((eS _).1 k).2 (by simp [Loc.isMemory])
   ·rcases k with ⟨a,k,_⟩ | k | k <;> cases k
 have eR:rslice p RB=.slice (some ⟨RB,0,none⟩) 1 1:=by unfold rslice;rw [hone]
 rw [eR] at hm3
 have hVRr:@VR scopeM (idOn S2) (.slice (some ⟨RB,0,none⟩) 1 1) (.slice (some ⟨RB,0,none⟩) 1 1):=@VR.slice scopeM _ _ _ _ _ (AR.self (.inr (.inr rfl)) hRBb)
 have hla:Lasts Shun ρ w Shun2 (idOn S2) w3:=by
  refine ⟨(@HR.os scopeW _ _ _ hHR3).trans ((hI.osR _ _ hRR').trans hos.symm),by have:=hO3.size;omega,fun b hb hn hsh=>?_⟩
  have hsh':∀ l,InBlock b l→¬ Shun l:=fun l hl=>by
   cases l with
   | cell a=>exact hsh.1 a hl
   | obj r=>obtain rfl:r=b:=hl;exact hsh.2
   | _=>exact hl.elim
  have hT:¬ T b:=fun hT=>by
   obtain ⟨pl,hpl⟩:=hTD b hT
   exact hn b pl hpl (by rw [hid b pl hpl])
  have hv:V0 b:=⟨hb,hT,hsh'⟩
  have hne:b≠RB:=fun e=>hRV0 (e▸hv)
  obtain ⟨k1,k2⟩:=hV1 b hv
  have k3:=zv' b k1
  have hs2:∀ l,InBlock b l→¬ Shun2 l:=fun l hl=>noSh b l hl (by omega) (by omega) (by omega) fun k=>hsh' l hl k.1
  refine ⟨(hO3.heap b k3.1 k3.2.2.1 hne).trans ((hheap b k1).trans k2),fun y pl hy=>?_,fun a ha=>hs2 (.cell a) ha,hs2 (.obj b) rfl⟩
  obtain ⟨hS,rfl⟩:=@idOn_of scopeM _ _ _ hy
  rintro rfl
  rcases hS with ⟨pl,hpl⟩ | ⟨z,hz⟩ | rfl
  ·exact hn y pl hpl (by rw [hid y pl hpl])
  ·exact (zlt' z _ hz).2.1 k1
  ·exact hne rfl
 have hstand:@StandX scopeM Tryz.prog Shun2 (idOn S2) cs (c.finish (.slice (some ⟨RB,0,none⟩) 1 1)) x2 w3 gs3 w3 t3 q3:=by
  refine @StandX.mk scopeM _ _ _ _ _ _ _ _ _ _ _ ⟨_,_,hm3,?_,@FsX.lasts scopeM _ _ _ _ _ _ _ _ hxx hρS hla⟩ hHR hL3 hP3 haway3
  have h1:=@FrX.lasts scopeM _ _ _ _ _ _ _ _ hcc hρS hla
  subst hc
  exact @FrX.finish scopeM _ _ _ _ _ _ _ _ _ _ h1 _ _ hVRr
 obtain ⟨N4,gs4,w4,sl4,t4,q4,Sh4,ρ4,fr4,xs4,wS4,hrun4,hle4,hst4,hQ4,hla4⟩:=k w3 RB sa sl' sc sb (Img ρ1) hIc hTimg (fun x hx b hb hT=>hIn b (hheld x hx b hb) hT) hpost hR3 (fun x hx b hb hT=>(hkeep b (hheld x hx b hb) hT).2) Shun2 (idOn S2) gs3 w3 sl3 t3 q3 hstand
 refine ⟨N0+(N1+(N3+N4)),gs4,w4,sl4,t4,q4,Sh4,ρ4,fr4,xs4,wS4,?_,@Ren.le_trans scopeM _ _ _ hρS hle4,hst4,hQ4,@Lasts.trans scopeM _ _ _ _ _ _ _ _ _ hla hla4⟩
 rw [runNT_add,hrun0]
 show runNT Tryz.prog (N1+(N3+N4)) pc.m0 pc.t0=_
 have hrun2':runNT Tryz.prog N1 pc.m0 pc.t0=(.next (crowd gs2 wo sl2),t2):=hrun2
 rw [runNT_add,hrun2']
 show runNT Tryz.prog (N3+N4) (crowd gs2 wo sl2) t2=_
 rw [runNT_add,hrun3]
 exact hrun4
end Go.Proofs.YtjnkcibpkkjniaaGreat.Pool
namespace Go.Proofs.YtjnkcibpkkjniaaGreat.Pool
open Go Go.Conc Go.RowKit Go.Proofs.YtjnkcibpkkjniaaGreat.Sim
set_option maxRecDepth 20000
set_option maxHeartbeats 2000000
structure Stnd (w:World) (sp xb xc:Nat) (Z:List Value) (now au id:Int) (p:Pz) (st hold heard spoke:Int) (pa:Option Addr) (pl pc:Nat):Prop where
 hsp:w.heap[sp]? = some (.cells #[.int .i64 now, .slice (some ⟨xb,0,none⟩) 1 xc] 91 (0,0))
 ss:Sess w xb Z au id p st hold heard spoke pa pl pc
 ne:sp≠xb
 nm:¬ Named3 p pa sp
def OutOk (w:World) (v:Value) (sent:List Int) (cl:Bool):Prop :=
 (sent=[]∧cl=false∧v=.slice none 0 0)∨(0 < sent.length∧∃ nb nc,v=.slice (some ⟨nb,0,none⟩) 1 nc∧w.cell? ⟨nb,0,none⟩=some (.int .i64 0)∧w.cell? ⟨nb,1,none⟩=some (.string (strOfNums sent))∧w.cell? ⟨nb,2,none⟩=some (.bool cl))
noncomputable def tn2ops:Array Oper:=match Tryz.f17.body with
 | some (.seq _ (.seq _ (.seq (.region _ ops _) _)))=>ops
 | _=>#[]
noncomputable def tframe (sp:Nat) (now t now2:Int) (vin v19:Value):Frame:=(base 17).at ⟨#[.pointer (some ⟨sp,0,none⟩), .int .i64 t,vin,undef,undef,undef, .slice none 0 0, .pointer (some ⟨sp,0,none⟩), .pointer (some ⟨sp,0,none⟩), .pointer (some ⟨sp,0,none⟩), .pointer (some ⟨sp,0,none⟩), .int .i64 now, .int .i64 t, .int .i64 now2, .pointer (some ⟨sp,0,none⟩), .pointer (some ⟨sp,0,none⟩), .pointer (some ⟨sp,0,none⟩), .pointer (some ⟨sp,0,none⟩),vin,v19,undef,undef],[]⟩ (.inRegion tn2ops [4,5,6]::[.code .ret])
theorem turn_to {cs:List Frame} {Q:Frame→List Frame→World→Prop} {xs:List Frame} {w:World} {sp:Nat} {xv:Value} {now t:Int} {vin:Value} {RS:Value→World→Prop} (h0:0≤now) (h1:0≤t) (h2:now+t≤1099511627776) (hs:w.heap[sp]? = some (.cells #[.int .i64 now,xv] 91 (0,0)))
  (HS:∀ w1,w1.heap=(w.setCell ⟨sp,0,none⟩ (.int .i64 (now+t))).heap→w1.os=w.os→Calls Tryz.prog 36 #[.pointer (some ⟨sp,0,none⟩),vin] w1 fun e w'=>∃ v,e=.returned v∧RS v w')
  (hk:∀ v w2,RS v w2→GX cs Q (tframe sp now t (now+t) vin v) xs w2) (hvin:isMk vin=false) :
  GX cs Q ((base 17).at { tmps:=#[.pointer (some ⟨sp,0,none⟩), .int .i64 t,vin]++Array.replicate 19 undef,defers:=[] } [.code (Tryz.f17.body.getD .skip)]) xs w:=by
 have c0:w.cell? ⟨sp,0,none⟩=some (.int .i64 now):=cell_blk hs 0
 have z0:=frozen_blk hs 0
 have HK:Hid (∀ v w2,RS v w2→GX cs Q (tframe sp now t (now+t) vin v) xs w2):=hk
 have HSS:Hid (∀ w1,w1.heap=(w.setCell ⟨sp,0,none⟩ (.int .i64 (now+t))).heap→w1.os=w.os→Calls Tryz.prog 36 #[.pointer (some ⟨sp,0,none⟩),vin] w1 fun e w'=>∃ v,e=.returned v∧RS v w'):=HS
 clear hk HS
 (have g_v:=valTo_ok;have g_s:=skpTo_ok;have g_e:=entTo_ok;have g_c:=cell_again;have g_f:=frozen_again;have g_h:=heap_again)
 simp only [Tryz.f17,Option.getD_some]
 walk_nrm
 refine GX.seq ?_
 (refine GX.region ?_;simp only [List.size_toArray,List.length_cons,List.length_nil,Nat.reduceAdd,Nat.zero_add,List.range,List.range.loop])
 ((refine GX.v rfl rfl (by kernel_rfl) (fun T K hK=>?_));unfold execOp;go_simp;(refine hK _ _ ?_);clear hK K;(refine GX.like (v:=w) ?_ rfl rfl);clear T;walk_nrm)
 refine GX.regionEnd ?_
 refine GX.seq ?_
 (refine GX.region ?_;simp only [List.size_toArray,List.length_cons,List.length_nil,Nat.reduceAdd,Nat.zero_add,List.range,List.range.loop])
 iterate 6 ((refine GX.v rfl rfl (by kernel_rfl) (fun T K hK=>?_));unfold execOp;go_simp;(refine hK _ _ ?_);clear hK K;(refine GX.like (v:=w) ?_ rfl rfl);clear T;walk_nrm)
 refine GX.c rfl rfl (by kernel_rfl) (fun T K hK=>?_)
 unfold execOp
 go_simp
 refine hK _ _ _ (fun T'=>?_)
 clear hK K
 refine Calls.mono (later_any now t h0 h1 h2 _) ?_
 rintro e w' ⟨rfl,rfl⟩
 refine ⟨_,rfl,GX.like (v:=w) ?_ rfl rfl⟩
 walk_nrm
 clear T'
 iterate 2 ((refine GX.v rfl rfl (by kernel_rfl) (fun T K hK=>?_));unfold execOp;go_simp;(refine hK _ _ ?_);clear hK K;(refine GX.like (v:=w) ?_ rfl rfl);clear T;walk_nrm)
 refine GX.u rfl rfl (by kernel_rfl) (fun T K hK=>?_)
 unfold execOp
 go_simp
 refine hK _ ?_
 clear hK K
 refine GX.like (v:=w.setCell ⟨sp,0,none⟩ (.int .i64 (now+t))) ?_ rfl rfl
 generalize hw1:w.setCell ⟨sp,0,none⟩ (.int .i64 (now+t))=w1
 walk_nrm
 refine GX.regionEnd ?_
 refine GX.seq ?_
 (refine GX.region ?_;simp only [List.size_toArray,List.length_cons,List.length_nil,Nat.reduceAdd,Nat.zero_add,List.range,List.range.loop])
 iterate 2 ((refine GX.v rfl rfl (by kernel_rfl) (fun T K hK=>?_));unfold execOp;go_simp;(refine hK _ _ ?_);clear hK K;(refine GX.like (v:=w1) ?_ rfl rfl);clear T;walk_nrm)
 ((refine GX.v (hu:=by simp [noMkL,Op.operands,Act.eval,hvin]) rfl rfl (by kernel_rfl) (fun T K hK=>?_));unfold execOp;go_simp;(refine hK _ _ ?_);clear hK K;(refine GX.like (v:=w1) ?_ rfl rfl);clear T;walk_nrm)
 refine GX.c (hu:=by simp [noMkL,Op.operands,Call.operands,Act.eval,hvin,show ∀ a,isMk (.pointer a)=false from fun _=>rfl,show ∀ f a b,isMk (.func f a b)=false from fun _ _ _=>rfl]) rfl rfl (by kernel_rfl) (fun T K hK=>?_)
 unfold execOp
 go_simp
 refine hK _ _ _ (fun T'=>?_)
 clear hK K
 refine Calls.mono (HSS.out _ (by rw [hw1];rfl) (by rw [←hw1];rfl)) ?_
 rintro e w2 ⟨v,rfl,hr⟩
 refine ⟨_,rfl,?_⟩
 walk_nrm
 have:=HK.out v w2 hr
 unfold tframe tn2ops at this
 simp only [Tryz.f17] at this
 exact this
end Go.Proofs.YtjnkcibpkkjniaaGreat.Pool
namespace Go.Proofs.YtjnkcibpkkjniaaGreat.Pool
open Go Go.Conc Go.RowKit Go.Proofs.YtjnkcibpkkjniaaGreat.Sim
set_option maxRecDepth 20000
set_option maxHeartbeats 2000000
theorem turn_leap {cs:List Frame} {Q:Frame→List Frame→World→Prop} {xs:List Frame} {w:World} {sp nb xb xc:Nat} {now t now2:Int} {vin:Value} {m:Value} {T:Nat→Prop} {R:Value→World→Prop}
  (hI:WorkIn ⟨sp,0,now2,xb,0,1,xc,nb,0,1,1⟩ m T R w) {Post:Value→World→Prop}
  (htrans:∀ ρ1 v v' wE w',(idOn T).le ρ1→Whole scopeW.base ρ1→@HR scopeW ρ1 wE w'→@VR scopeW ρ1 v v'→R v wE→Post v' w')
  (k:∀ w' RB sa sl sc sb (I:Nat→Prop),(∀ b,I b→∃ o,w'.heap[b]? = some o∧@OR scopeW (idOn I) o o)→(∀ b,T b→I b)→(∀ x∈wfr ⟨sp,0,now2,xb,0,1,xc,nb,0,1,1⟩::tframe sp now t now2 vin (.slice (some ⟨nb,0,none⟩) 1 1)::xs,∀ b,Nmd x b→¬ T b→¬ I b)→Post (.agg #[.slice sa sl sc, .bool sb]) w'→w'.heap[RB]? = some (.cells #[.slice sa sl sc, .bool sb] 140)→(∀ x∈wfr ⟨sp,0,now2,xb,0,1,xc,nb,0,1,1⟩::tframe sp now t now2 vin (.slice (some ⟨nb,0,none⟩) 1 1)::xs,∀ b,Nmd x b→¬ T b→w'.heap[b]? = w.heap[b]?) →
   GX cs Q ((tframe sp now t now2 vin (.slice (some ⟨nb,0,none⟩) 1 1)).finish (.slice (some ⟨RB,0,none⟩) 1 1)) xs w') :
  GX cs Q (tframe sp now t now2 vin (.slice (some ⟨nb,0,none⟩) 1 1)) xs w:=by
 have hgoal:GX cs Q (wfr ⟨sp,0,now2,xb,0,1,xc,nb,0,1,1⟩) (tframe sp now t now2 vin (.slice (some ⟨nb,0,none⟩) 1 1)::xs) w:=leap hI htrans rfl k
 unfold tframe tn2ops at hgoal ⊢
 simp only [Tryz.f17] at hgoal ⊢
 refine GX.callX (f:=35) rfl rfl rfl (by kernel_rfl) Tryz.func35 rfl rfl ?_
 have e:wfr ⟨sp,0,now2,xb,0,1,xc,nb,0,1,1⟩=(base 35).at { tmps:=#[.pointer (some ⟨sp,0,none⟩), .slice (some ⟨nb,0,none⟩) 1 1]++Array.replicate 34 undef,defers:=[] } [.code (Tryz.f35.body.getD .skip)]:=rfl
 rw [e] at hgoal
 revert hgoal
 simp only [Tryz.f35,Option.getD_some]
 walk_nrm
 intro hgoal
 exact hgoal
end Go.Proofs.YtjnkcibpkkjniaaGreat.Pool
namespace Go.Proofs.YtjnkcibpkkjniaaGreat.Pool
open Go Go.Conc Go.RowKit Go.Proofs.YtjnkcibpkkjniaaGreat.Sim
set_option maxRecDepth 20000
set_option maxHeartbeats 2000000
structure Old (w w':World):Prop where
 os:w'.os=w.os
 size:w.heap.size≤w'.heap.size
 block:∀ b,b < w.heap.size→w'.heap[b]? = w.heap[b]?
theorem Old.refl (w:World):Old w w:=⟨rfl,Nat.le_refl _,fun _ _=>rfl⟩
theorem Old.of {w w1 w':World} (h:Below w1.heap.size w1 w') (e1:w1.heap=w.heap) (e2:w1.os=w.os):Old w w':=⟨h.os.trans e2,by rw [←e1];exact h.size,fun b hb=>by rw [←e1];exact h.block b (by rw [e1];exact hb)⟩
theorem Old.trans {a b c:World} (h:Old a b) (k:Old b c):Old a c:=⟨k.os.trans h.os,Nat.le_trans h.size k.size,fun x hx=>(k.block x (Nat.lt_of_lt_of_le hx h.size)).trans (h.block x hx)⟩
theorem out_any {w:World} {rb:Nat} {sv:Value} {sent:List Int} {cl:Bool} (h:w.heap[rb]? = some (.cells #[sv, .bool cl] 140 (0,0))) (hr:RowAt w sv sent) (hsc:(sent=[]∧cl=false)∨0 < sent.length) :
  Calls Tryz.prog 34 #[.slice (some ⟨rb,0,none⟩) 1 1] w fun e w'=>∃ v,e=.returned v∧OutOk w' v sent cl∧Below w.heap.size w w':=by
 rcases hsc with ⟨rfl,rfl⟩ | hp
 ·obtain ⟨c,⟨_,ao,rfl⟩ | ⟨g,rfl,_⟩⟩:=hr
  ·refine (out_none h).mono ?_
   rintro e w' ⟨rfl,hB⟩
   exact ⟨_,rfl, .inl ⟨rfl,rfl,rfl⟩,hB⟩
  ·refine (out_none h).mono ?_
   rintro e w' ⟨rfl,hB⟩
   exact ⟨_,rfl, .inl ⟨rfl,rfl,rfl⟩,hB⟩
 ·obtain ⟨c,⟨rfl,_⟩ | ⟨g,rfl,_,hc⟩⟩:=hr
  ·exact absurd hp (Nat.lt_irrefl _)
  ·refine (out_one h hp hc).mono ?_
   rintro e w' ⟨nb,nc,rfl,_,hB,k0,k1,k2⟩
   exact ⟨_,rfl, .inr ⟨hp,nb,nc,rfl,k0,k1,k2⟩,hB⟩
theorem turn_end {cs:List Frame} {Q:Frame→List Frame→World→Prop} {c:Frame} {x2:List Frame} {bc:Frame} {ac:Act} {ops:Array Oper} {i:Nat} {l:List Nat} {kk:List Item} (hcf:c=bc.at ac (.inRegion ops (i::l)::kk)) {w:World} {sp rb:Nat} {now t now2:Int} {vin v19:Value}
  {RO:Value→World→Prop} (HO:∀ w1,w1.heap=w.heap→w1.os=w.os→Calls Tryz.prog 34 #[.slice (some ⟨rb,0,none⟩) 1 1] w1 fun e w'=>∃ v,e=.returned v∧RO v w')
  (k:∀ v w',RO v w'→GX cs Q (c.finish v) x2 w') (hRO:∀ v w',RO v w'→isMk v=false) :
  GX cs Q ((tframe sp now t now2 vin v19).finish (.slice (some ⟨rb,0,none⟩) 1 1)) (c::x2) w:=by
 have HK:Hid (∀ v w',RO v w'→GX cs Q (c.finish v) x2 w'):=k
 have HOO:Hid (∀ w1,w1.heap=w.heap→w1.os=w.os→Calls Tryz.prog 34 #[.slice (some ⟨rb,0,none⟩) 1 1] w1 fun e w'=>∃ v,e=.returned v∧RO v w'):=HO
 have HC:Hid (c=bc.at ac (.inRegion ops (i::l)::kk)):=hcf
 clear k HO hcf
 (have g_v:=valTo_ok;have g_s:=skpTo_ok;have g_e:=entTo_ok;have g_c:=cell_again;have g_f:=frozen_again;have g_h:=heap_again)
 have e0:(tframe sp now t now2 vin v19).finish (.slice (some ⟨rb,0,none⟩) 1 1)=(base 17).at ⟨#[.pointer (some ⟨sp,0,none⟩), .int .i64 t,vin,undef,undef,undef, .slice none 0 0, .pointer (some ⟨sp,0,none⟩), .pointer (some ⟨sp,0,none⟩), .pointer (some ⟨sp,0,none⟩), .pointer (some ⟨sp,0,none⟩), .int .i64 now, .int .i64 t, .int .i64 now2, .pointer (some ⟨sp,0,none⟩), .pointer (some ⟨sp,0,none⟩), .pointer (some ⟨sp,0,none⟩), .pointer (some ⟨sp,0,none⟩),vin,v19, .slice (some ⟨rb,0,none⟩) 1 1,undef],[]⟩ (.inRegion tn2ops [5,6]::[.code .ret]):=by rfl
 rw [e0]
 clear e0
 unfold tn2ops
 simp only [Tryz.f17]
 refine GX.c rfl rfl (by kernel_rfl) (fun T K hK=>?_)
 unfold execOp
 go_simp
 refine hK _ _ _ (fun T'=>?_)
 clear hK K
 refine Calls.mono (HOO.out _ rfl rfl) ?_
 rintro e w2 ⟨v,rfl,hr⟩
 have HR:Hid (RO v w2):=hr
 have hmv:=hRO v w2 hr
 clear hr
 refine ⟨_,rfl,?_⟩
 walk_nrm
 refine GX.v rfl rfl (by kernel_rfl) (fun T K hK=>?_)
 unfold execOp
 go_simp
 refine hK _ _ ?_
 clear hK K
 refine GX.like (v:=w2) ?_ rfl rfl
 clear T
 walk_nrm
 refine GX.regionEnd ?_
 refine GX.ret ?_
 refine GX.leave (tr:=6) rfl Tryz.func17 (by rfl) HC.out ?_
 exact HK.out v w2 HR.out
end Go.Proofs.YtjnkcibpkkjniaaGreat.Pool
namespace Go.Proofs.YtjnkcibpkkjniaaGreat.Pool
open Go Go.Conc Go.RowKit Go.Proofs.YtjnkcibpkkjniaaGreat.Sim
set_option maxRecDepth 20000
set_option maxHeartbeats 2000000
theorem tframe_tmps (sp:Nat) (now t now2:Int) (vin v19:Value):(tframe sp now t now2 vin v19).tmps=#[.pointer (some ⟨sp,0,none⟩), .int .i64 t,vin,undef,undef,undef, .slice none 0 0, .pointer (some ⟨sp,0,none⟩), .pointer (some ⟨sp,0,none⟩), .pointer (some ⟨sp,0,none⟩), .pointer (some ⟨sp,0,none⟩), .int .i64 now, .int .i64 t, .int .i64 now2, .pointer (some ⟨sp,0,none⟩), .pointer (some ⟨sp,0,none⟩), .pointer (some ⟨sp,0,none⟩), .pointer (some ⟨sp,0,none⟩),vin,v19,undef,undef]:=rfl
def TS3 (xb:Nat) (p:Pz) (pa:Option Addr) (E:Nat→Prop) (b:Nat):Prop:=b=xb∨Named3 p pa b∨E b
theorem ts3_closed {w:World} {xb:Nat} {Z:List Value} {au id:Int} {p:Pz} {st hold heard spoke:Int} {pa:Option Addr} {pl pc:Nat} (h:Sess w xb Z au id p st hold heard spoke pa pl pc) {E:Nat→Prop} (hE:∀ b,E b→PlBlk w b) :
  ∀ b,TS3 xb p pa E b→∃ o,w.heap[b]? = some o∧@OR scopeW (idOn (TS3 xb p pa E)) o o:=by
 have hpl:∀ b,PlBlk w b→∃ o,w.heap[b]? = some o∧@OR scopeW (idOn (TS3 xb p pa E)) o o:=fun b ⟨cur,ty,fr,h1,h2⟩ =>
  ⟨_,h1,@OR.cells scopeW _ _ _ _ _ (@VsR.diag scopeW _ _ fun i v hv=>@VR.pl scopeW _ _ (h2 v (by have:=Array.mem_of_getElem? hv;simpa using this)))⟩
 rintro b (rfl | hN | hN)
 ·refine ⟨_,h.blk,@OR.cells scopeW _ _ _ _ _ ?_⟩
  have hs:=@sessA_self scopeW (idOn (TS3 b p pa E)) au id p st hold heard spoke pa pl pc baseW (fun ad hd=>@idOn_some scopeW _ _ (.inr (.inl (by
   rcases hd with e | e | e
   ·exact .inl ⟨ad,e,rfl⟩
   ·exact .inr (.inl ⟨ad,e,rfl⟩)
   ·exact .inr (.inr ⟨ad,e,rfl⟩)))))
  exact @VsR.append scopeW _ _ _ _ _ hs (@VsR.diag scopeW _ _ fun i v hv=>@VR.pl scopeW _ _ (h.spare v (by have:=Array.mem_of_getElem? hv;simpa using this)))
 ·exact hpl b (h.rows b hN).2
 ·exact hpl b (hE b hN)
theorem sessA_names {au id:Int} {p:Pz} {st hold heard spoke:Int} {pa:Option Addr} {pl pc:Nat} {b:Nat} (h:Named3 p pa b):∃ (i:Nat) (v:Value),(sessA au id p st hold heard spoke (.slice pa pl pc))[i]? = some v∧Nm v b:=by
 rcases h with ⟨ad,e,rfl⟩ | ⟨ad,e,rfl⟩ | ⟨ad,e,rfl⟩
 ·exact ⟨7, .slice p.ia p.il p.ic,rfl,by rw [e];exact .slice _ _ _⟩
 ·exact ⟨8, .slice p.ea p.el p.ec,rfl,by rw [e];exact .slice _ _ _⟩
 ·exact ⟨13, .slice pa pl pc,rfl,by rw [e];exact .slice _ _ _⟩
structure SpOut (w1:World) (X:World→Value→Prop) (v:Value) (w':World) (nb:Nat) (m:Value) (E:Nat→Prop):Prop where
 v:v=.slice (some ⟨nb,0,none⟩) 1 1
 new:w1.heap.size≤nb
 old:Old w1 w'
 blk:w'.heap[nb]? = some (.cells #[m] 44 (0,0))
 inm:InM w' m E
 far:∀ b,E b→w1.heap.size≤b∧b≠nb
 x:X w' m
theorem turn_gx {cs:List Frame} {Q:Frame→List Frame→World→Prop} {c:Frame} {x2:List Frame} {bc:Frame} {ac:Act} {ops:Array Oper} {i:Nat} {l:List Nat} {kk:List Item} (hcf:c=bc.at ac (.inRegion ops (i::l)::kk)) {w:World} {sp xb xc:Nat} {Z:List Value} {now au id:Int} {p:Pz} {st hold heard spoke:Int} {pa:Option Addr} {pl pc:Nat}
  (hS:Stnd w sp xb xc Z now au id p st hold heard spoke pa pl pc) {t:Int} (h0:0≤now) (h1:0≤t) (h2:now+t≤1099511627776) {vin:Value} {X:World→Value→Prop}
  (HS:∀ w1,w1.heap=(w.setCell ⟨sp,0,none⟩ (.int .i64 (now+t))).heap→w1.os=w.os→Calls Tryz.prog 36 #[.pointer (some ⟨sp,0,none⟩),vin] w1 fun e w'=>∃ v,e=.returned v∧∃ nb m E,SpOut w1 X v w' nb m E)
  {st1 hold1 heard1 spoke1:Int} {sent:List Int} {cl:Bool}
  (HT:∀ w2 m E,InM w2 m E→(∀ b,E b→b≠xb)→X w2 m→Sess w2 xb Z au id p st hold heard spoke pa pl pc→∀ T,Calls Tryz.prog 60 #[.pointer (some ⟨xb,0,none⟩), .int .i64 (now+t),m] { Sim.small w2 xb (sessA au id p st hold heard spoke (.slice pa pl pc)) with tape:=T,drawn:=0 } fun e w'=>∃ v,e=.returned v∧TurnR xb [] au id p.au p.hold st1 hold1 heard1 spoke1 sent cl v w')
  (hsc:(sent=[]∧cl=false)∨0 < sent.length)
  (k:∀ w' outv Z' p' pa' pl' pc',Stnd w' sp xb xc Z' (now+t) au id p' st1 hold1 heard1 spoke1 pa' pl' pc'→p'.au=p.au→p'.hold=p.hold→OutOk w' outv sent cl→(∀ x∈c::x2,∀ (j:Nat) v b,x.tmps[j]? = some v→isMk v=false→Nm v b→b < w.heap.size→b≠sp→b≠xb→¬ Named3 p pa b→w'.heap[b]? = w.heap[b]?∧¬ Named3 p' pa' b)→GX cs Q (c.finish outv) x2 w') (hvin:isMk vin=false:=by rfl) :
  GX cs Q ((base 17).at { tmps:=#[.pointer (some ⟨sp,0,none⟩), .int .i64 t,vin]++Array.replicate 19 undef,defers:=[] } [.code (Tryz.f17.body.getD .skip)]) (c::x2) w:=by
 have hspl:sp < w.heap.size:=(Array.getElem?_eq_some_iff.1 hS.hsp).1
 have hxbl:xb < w.heap.size:=(Array.getElem?_eq_some_iff.1 hS.ss.blk).1
 have hnml:∀ b,Named3 p pa b→b < w.heap.size:=fun b hb=>by obtain ⟨cur,ty,fr,q,_⟩:=(hS.ss.rows b hb).2;exact (Array.getElem?_eq_some_iff.1 q).1
 refine turn_to (RS:=fun v w'=>∃ w1 nb m E,w1.heap=(w.setCell ⟨sp,0,none⟩ (.int .i64 (now+t))).heap∧w1.os=w.os∧SpOut w1 X v w' nb m E) h0 h1 h2 hS.hsp (fun w1 e1 e2=>(HS w1 e1 e2).mono fun e w' ⟨v,k1,nb,m,E,k2⟩=>⟨v,k1,w1,nb,m,E,e1,e2,k2⟩) ?_ hvin
 rintro v w2 ⟨w1,nb,m,E,e1,e2,hO⟩
 obtain ⟨rfl,hnew,hold2,hblk,hinm,hfar,hx⟩:=hO
 have hsz1:w1.heap.size=w.heap.size:=by rw [e1];simp [World.setCell]
 have hne1:∀ b,b≠sp→w1.heap[b]? = w.heap[b]?:=fun b hb=>by rw [e1];exact set_oth (Ne.symm hb) 0 _
 have hk2:∀ b,b < w.heap.size→b≠sp→w2.heap[b]? = w.heap[b]?:=fun b hb hs=>(hold2.block b (by omega)).trans (hne1 b hs)
 have hsp2:w2.heap[sp]? = some (.cells #[.int .i64 (now+t), .slice (some ⟨xb,0,none⟩) 1 xc] 91 (0,0)):=by
  rw [hold2.block sp (by omega),e1,set_blk hS.hsp]
  rfl
 have hss2:Sess w2 xb Z au id p st hold heard spoke pa pl pc:=hS.ss.keep fun b hb=>by
  rcases hb with rfl | hb
  ·exact hk2 b hxbl (Ne.symm hS.ne)
  ·exact hk2 b (hnml b hb) fun e=>hS.nm (e▸hb)
 have hEx:∀ b,E b→b≠xb:=fun b hb e=>by have:=(hfar b hb).1;omega
 have hTlt:∀ b,TS3 xb p pa E b→b≠sp∧b≠nb:=fun b hb=>by
  rcases hb with rfl | hb | hb
  ·exact ⟨Ne.symm hS.ne,by omega⟩
  ·exact ⟨fun e=>hS.nm (e▸hb),by have:=hnml b hb;omega⟩
  ·exact ⟨by have:=(hfar b hb).1;omega,(hfar b hb).2⟩
 have hI:WorkIn ⟨sp,0,now+t,xb,0,1,xc,nb,0,1,1⟩ m (TS3 xb p pa E) (fun v w'=>TurnR xb Z au id p.au p.hold st1 hold1 heard1 spoke1 sent cl v w'∧w'.os=w2.os) w2 :=
  {hF:=⟨cell_blk hsp2 0,cell_blk hsp2 1,(Array.getElem?_eq_some_iff.1 hsp2).1,by show (1:Nat) < _;decide⟩
   one:=rfl
   nl:=Nat.le_refl _
   hm:=cell_blk hblk 0
   closed:=ts3_closed hss2 hinm.plain
   reach:=fun b hb=>by
    have hxr:Rch w2 #[WI.s ⟨sp,0,now+t,xb,0,1,xc,nb,0,1,1⟩,WI.inn ⟨sp,0,now+t,xb,0,1,xc,nb,0,1,1⟩] xb:=.cell (i:=1) (.arg (i:=0) rfl (.ptr _)) hsp2 rfl (.slice _ _ _)
    rcases hb with rfl | hb | hb
    ·exact hxr
    ·obtain ⟨j,v,q1,q2⟩:=sessA_names (au:=au) (id:=id) (st:=st) (hold:=hold) (heard:=heard) (spoke:=spoke) (pl:=pl) (pc:=pc) hb
     refine .cell (i:=j) hxr hss2.blk ?_ q2
     rw [Array.getElem?_append_left (Array.getElem?_eq_some_iff.1 q1).1]
     exact q1
    ·exact .cell (i:=0) (.arg (i:=1) rfl (.slice _ _ _)) hblk rfl (hinm.reach b hb)
   apart:=⟨fun h=>(hTlt sp h).1 rfl,fun h=>(hTlt nb h).2 rfl⟩
   rel:=by
    refine @VsR.diag scopeW _ _ fun j v hv=>?_
    match j,hv with
    | 0,hv=>simp at hv;subst hv;exact @VR.ptr scopeW _ _ _ ⟨by rw [baseW];exact Nat.zero_le _,_,@idOn_some scopeW _ _ (.inl rfl),rfl,by simp [Place.shift],rfl⟩
    | 1,hv=>simp at hv;subst hv;exact @VR.int scopeW _ _ _
    | 2,hv=>simp at hv;subst hv;exact hinm.rel scopeW _ baseW fun b hb=>@idOn_some scopeW _ _ (.inr (.inr hb))
    | j+3,hv=>simp at hv
   calls:=fun T=>great_turn hss2 hinm hEx (HT w2 m E hinm hEx hx hss2) _ rfl rfl
   osR:=fun v w' hR=>hR.2
   shape:=fun v w' ρ v' hR hv=>by
    obtain ⟨⟨_,_,_,_,_,_,_,sv,rfl,_,⟨a,l,c,rfl⟩,_⟩,_⟩:=hR
    cases hv with
    | @agg _ ys hs hget =>
     obtain ⟨a',q0⟩:=@VR.slice_ scopeW _ _ _ _ _ (hget 0 _ _ rfl (Array.getElem?_eq_getElem (by simp at hs;omega)))
     have q1:=@VR.bool_ scopeW _ _ _ (hget 1 (.bool cl) _ rfl (Array.getElem?_eq_getElem (by simp at hs;omega)))
     refine ⟨a',l,c,cl,?_⟩
     congr 1
     apply Array.ext_getElem?
     intro j
     match j with
     | 0=>rw [Array.getElem?_eq_getElem (by simp at hs;omega),q0];rfl
     | 1=>rw [Array.getElem?_eq_getElem (by simp at hs;omega),q1];rfl
     | j+2=>rw [Array.getElem?_eq_none (by simp at hs;omega),Array.getElem?_eq_none (by simp)] }
 refine turn_leap hI (Post:=TurnR xb Z au id p.au p.hold st1 hold1 heard1 spoke1 sent cl) (fun ρ1 v v' wE w' hle hwh hh hv hR=>?_) (fun w3 RB sa sl sc sb I hIc hTI hnI hpost hRB hkeep=>?_)
 ·obtain ⟨⟨p1,pa1,pl1,pc1,hS1,hA,hH,sv,rfl,hrow,⟨a,l,c,rfl⟩,hne⟩,_⟩:=hR
  have hxx:ρ1 xb=some ⟨xb,none⟩:=hle _ _ (@idOn_some scopeW _ _ (.inl rfl))
  have hnp:∀ b q,ρ1 b=some q→q.part=none:=fun b q hq=>(hwh b q hq).1
  obtain ⟨p2,pa2,hS2,hA2,hH2,_⟩:=@Sess.over scopeW ρ1 wE w' xb Z au id p1 st1 hold1 heard1 spoke1 pa1 pl1 pc1 hh hnp hxx hS1
  cases hv with
  | @agg _ ys hs hget =>
   have g0:=hget 0 _ _ rfl (Array.getElem?_eq_getElem (by simp at hs;omega))
   have g1:=@VR.bool_ scopeW _ _ _ (hget 1 (.bool cl) _ rfl (Array.getElem?_eq_getElem (by simp at hs;omega)))
   obtain ⟨a',q0⟩:=@VR.slice_ scopeW _ _ _ _ _ g0
   have hys:ys=#[.slice a' l c, .bool cl]:=by
    apply Array.ext_getElem?
    intro j
    match j with
    | 0=>rw [Array.getElem?_eq_getElem (by simp at hs;omega),q0];rfl
    | 1=>rw [Array.getElem?_eq_getElem (by simp at hs;omega),g1];rfl
    | j+2=>rw [Array.getElem?_eq_none (by simp at hs;omega),Array.getElem?_eq_none (by simp)]
   subst hys
   have g0':@VR scopeW ρ1 (.slice a l c) (.slice a' l c):=g0
   refine ⟨p2,pa2,pl1,pc1,hS2,hA2.trans hA,hH2.trans hH,_,rfl,@RowAt.over2 scopeW _ _ _ hh _ _ _ (fun k q _ hq=>hnp k q hq) g0' hrow,⟨a',l,c,rfl⟩,fun kb hk e=>?_⟩
   rw [e] at hk
   cases a' with
   | none=>cases hk
   | some ad' =>
    obtain ⟨ad,q,q1,q2,q3⟩:=@slice_block scopeW _ _ _ _ _ _ g0' rfl
    subst q1
    have hb:ad'.block=xb:=by simpa [Value.ownBlock] using hk
    exact hne ad.block rfl (@HR.inj scopeW _ _ _ hh ad.block xb q _ q2 hxx (q3.trans hb))
 ·
  obtain ⟨p2,pa2,pl2,pc2,hS2,hA2,hH2,sv,hv,hrow,_,_⟩:=hpost
  simp only [Value.agg.injEq,Array.mk.injEq,List.cons.injEq,Value.bool.injEq,and_true] at hv
  obtain ⟨hv1,hv2⟩:=hv
  subst hv1
  subst hv2
  have hsp3:w3.heap[sp]? = some (.cells #[.int .i64 (now+t), .slice (some ⟨xb,0,none⟩) 1 xc] 91 (0,0)) :=
   (hkeep _ (List.mem_cons_of_mem _ (List.mem_cons_self ..)) sp ⟨0,_,by rw [tframe_tmps];rfl,rfl, .ptr _⟩ fun h=>(hTlt sp h).1 rfl).trans hsp2
  have hnI2:¬ I sp:=hnI _ (List.mem_cons_of_mem _ (List.mem_cons_self ..)) sp ⟨0,_,by rw [tframe_tmps];rfl,rfl, .ptr _⟩ fun h=>(hTlt sp h).1 rfl
  have hnmI:∀ b,¬ I b→¬ Named3 p2 pa2 b:=fun b hnI2 hn=>by
   obtain ⟨j,v,q1,q2⟩:=sessA_names (au:=au) (id:=id) (st:=st1) (hold:=hold1) (heard:=heard1) (spoke:=spoke1) (pl:=pl2) (pc:=pc2) hn
   have hclo:@Clo scopeW w3 I:=hIc
   refine hnI2 (@Clo.named scopeW w3 I hclo #[.pointer (some ⟨xb,0,none⟩)] (fun j v b hv hn=>?_) b (.cell (i:=j) (.arg (i:=0) rfl (.ptr _)) hS2.blk ?_ q2))
   ·match j,hv with
    | 0,hv=>simp at hv;subst hv;cases hn;exact hTI _ (.inl rfl)
    | j+1,hv=>simp at hv
   ·rw [Array.getElem?_append_left (Array.getElem?_eq_some_iff.1 q1).1]
    exact q1
  have hnm3:¬ Named3 p2 pa2 sp:=hnmI sp hnI2
  refine turn_end hcf (RO:=fun v w'=>OutOk w' v sent sb∧Old w3 w') (fun w4 e3 e4=>(out_any (by rw [e3];exact hRB) (hrow.keep fun b v j hc=>by simpa [World.cell?,e3] using hc) hsc).mono fun e w' ⟨v,k1,k2,k3⟩=>⟨v,k1,k2,Old.of k3 e3 e4⟩) ?_ (fun v w' h=>by rcases h.1 with ⟨_,_,rfl⟩ | ⟨_,nb,nc,rfl,_⟩ <;> rfl)
  rintro v w' ⟨hout,hold3⟩
  refine k w' v Z p2 pa2 pl2 pc2 ⟨(hold3.block sp (Array.getElem?_eq_some_iff.1 hsp3).1).trans hsp3,hS2.keep fun b hb=>?_,hS.ne,hnm3⟩ hA2 hH2 hout (fun x hx j u b hu hm hn hb n1 n2 n3=>?_)
  ·rcases hb with rfl | hb
   ·exact hold3.block _ (Array.getElem?_eq_some_iff.1 hS2.blk).1
   ·obtain ⟨cur,ty,fr,q,_⟩:=(hS2.rows b hb).2
    exact hold3.block _ (Array.getElem?_eq_some_iff.1 q).1
  ·have hnT:¬ TS3 xb p pa E b:=fun h=>by
    rcases h with h | h | h
    ·exact n2 h
    ·exact n3 h
    ·have:=(hfar b h).1;omega
   have:=hkeep x (List.mem_cons_of_mem _ (List.mem_cons_of_mem _ hx)) b ⟨j,u,hu,hm,hn⟩ hnT
   have h3:=this.trans (hk2 b hb n1)
   exact ⟨(hold3.block b (Array.getElem?_eq_some_iff.1 (h3.trans (Array.getElem?_eq_getElem hb))).1).trans h3,hnmI b (hnI x (List.mem_cons_of_mem _ (List.mem_cons_of_mem _ hx)) b ⟨j,u,hu,hm,hn⟩ hnT)⟩
end Go.Proofs.YtjnkcibpkkjniaaGreat.Pool
