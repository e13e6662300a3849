import Derived.Test.YtjnkcibpkkjniaaGreatA29
import Derived.Conc.AppendWalk
import Derived.Laws.MakeOwn
import Derived.Test.YtjnkcibpkkjniaaGreatA14
set_option linter.unusedVariables false
set_option linter.unusedSimpArgs false
set_option linter.unusedSectionVars false
namespace Go.Proofs.YtjnkcibpkkjniaaGreat.Pool
open Go.Conc Go.ConcN Go.Conc.Lib Go.ConcR.Gen Go.ConcN.Gen Go.Proofs.YtjnkcibpkkjniaaGreat.Sim
open Go.ConcR (KK wgBlock WgAt stA smA rd wr mk DC0)
variable [Scope]
section
variable {p:WI} {B:WB} {c:PC} {cs:List Frame} {J:Nat→Work} {s:St} {w:World}
set_option maxHeartbeats 4000000 in
theorem toGather [Zeros Tryz.prog] [Codes Tryz.prog] (hX:(PX p B c J).Good) (hSc:c.Sc=ScB B.bG) (hAn:c.Anch=CAnch B.Wg B.bG B.CF) {v8 v22 v23 v24 v25 v26:Value}
  (h:At (PX p B c J) s w (head p B p.xl v8 v22 v23 v24 v25 v26 cs)) (hsp:s.tag=.sp) (hp:s.p=0) (hd:s.d0=0) (hj:s.j=p.xl) (hF:MF p B s.V w) :
  ∃ s' w' a',At (PX p B c J) s' w' a'∧AtGather p B s'.V cs a' w'∧s'.j=p.xl∧s'.d0=0∧s'.tag≠.sp∧s'.got=s.got∧Far s s' w w':=by
 obtain ⟨s1,w1,a1,h1,q1,r1⟩:=h.walk hX (fun g w k=>by rw [k.2];rfl) (m_exit (W:=s.W) (cs:=cs) (v8:=v8) (v22:=v22) (v23:=v23) (v24:=v24) (v25:=v25) (v26:=v26) hF)
 obtain ⟨f1,rfl⟩:=q1 w1 (RK.refl _)
 have k1:=(Far.refl s w).same r1.V r1.W r1.heap
 rw [←r1.V] at f1
 obtain ⟨s2,w2,a2,h2,q2,r2⟩:=h1.walk hX (fun g w k=>by rw [k.2];rfl) (m_toGoC (W:=s1.W) (cs:=cs) f1)
 obtain ⟨f2,rfl⟩:=q2 w2 (RK.refl _)
 have k2:=k1.same r2.V r2.W r2.heap
 rw [←r2.V] at f2
 have hne:B.bG≠B.Wg:=(h2.facts.2 _ f2.vs.2.2.2.1).2.1
 obtain ⟨s3,w3,a3,h3,q3,r3j,r3p,r3d,r3V,r3W,r3t,r3g,r3h⟩:=h2.forkC hX rfl ((r2.sp.trans r1.sp).2 hsp) (r2.p.trans (r1.p.trans hp)) (r2.d0.trans (r1.d0.trans hd)) (r2.j.trans (r1.j.trans hj)) (fun b hb=>by
   have hb':c.Sc b:=hb
   rw [hSc] at hb'
   obtain rfl:b=B.bG:=hb'
   exact f2.vs.2.2.2.1)
  (Post:=fun g w=>g=G (wf.at ⟨(LT p B (.int .i64 p.xl) v8 (.bool false) v23 v24 v25 v26).setIfInBounds 27 (clos 61 #[box B.Wg,box B.bG]),[]⟩ [.inRegion r9ops [], .code r10]) cs)
  (fun w₁ h₁=>⟨_,_,goop_spawn (b:=wf) (ops:=r9ops) (i:=1) (f:=61) (caps:=#[box B.Wg,box B.bG]) (x:=.tmp 27) rfl rfl (by decide) rfl rfl,⟨7,by
   show Goes Tryz.prog false (RK Tryz.link.tWg B.Wg c.Sc) (DQ c.Sc) (Says Tryz.prog false (RK Tryz.link.tWg B.Wg c.Sc) (mk .disable) c.Anch) 7 _ w₁
   rw [hSc,hAn]
   exact close_script hne (f2.keep h₁.keep).g (h₁.live h2.facts.1)⟩,rfl⟩)
 subst q3
 have e3:s3.V=s2.V:=r3V
 have k3:Far s s3 w w3:=⟨fun b k=>by rw [e3];exact k2.V b k,fun b k k'=>by rw [r3W] at k';exact k2.W b k k'.1,fun b k k'=>(r3h b (k2.V b k)).trans (k2.heap b k k')⟩
 have f3:MF p B s3.V w3:=by rw [e3];exact f2.keep r3h
 obtain ⟨s4,w4,a4,h4,q4,r4⟩:=h3.walk hX (fun g w k=>by obtain ⟨_,a,l,fu,t,_,_,_,_,e⟩:=k;rw [e];rfl) (m_toGather (W:=s3.W) (cs:=cs) f3 rfl (by simp [LT]) rfl rfl rfl)
 refine ⟨s4,w4,a4,h4,?_,r4.j.trans r3j,r4.d0.trans r3d,fun e=>r3t (r4.sp.1 e),r4.got.trans (r3g.trans (r2.got.trans r1.got)),k3.same r4.V r4.W r4.heap⟩
 rw [r4.V]
 exact q4 w4 (RK.refl _)
end
end Go.Proofs.YtjnkcibpkkjniaaGreat.Pool
namespace Go.Proofs.YtjnkcibpkkjniaaGreat.Pool
open Go.Conc Go.ConcN Go.Conc.Lib Go.ConcR.Gen Go.ConcN.Gen Go.Proofs.YtjnkcibpkkjniaaGreat.Sim
open Go.ConcR (KK wgBlock WgAt stA smA rd wr mk DC0)
section
variable {P:Program} {main:Bool} {b:Frame} {a:Act} {kk:List Item} {cs:List Frame} {w:World} {ops:Array Oper} {i:Nat} {rest:List Nat} {o:Oper}
theorem stepG_makeSlice {t e:TypeId} {ti:TypeInfo} {z:Value} {x:Operand} {n:Nat} (ho:ops[i]? = some o) (hw:Region.wanted o (yielded ops a.tmps)=true) (hk:b.kind≠.early) (hop:o.op=.makeSlice t x x) (hx:a.eval x=.int .i64 n)
  (ht:P.underlying t=some (.slice e)) (hti:P.info? e=some ti) (hz:ti.zero=some z) (hn:ti.bytes * n≤140737488355328) (hn2:n < 9223372036854775808) :
  stepG P main (G (b.at a (.inRegion ops (i::rest)::kk)) cs) w=.go (G (b.at (a.put o.dst (.slice (some ⟨w.heap.size,0,none⟩) n n)) (.inRegion ops rest::kk)) cs) (w.alloc (.cells (madeCells z.cells (n * ti.size)) e)) #[]:=by
 simp only [Act.eval,Array.getD_eq_getD_getElem?] at hx
 have h3:(ti.bytes:Int) * (n:Int)≤140737488355328:=by
  have e:((ti.bytes:Int) * (n:Int))=((ti.bytes * n:Nat):Int):=by simp
  rw [e]
  omega
 have hr:(execOp a.eval o).run P w=.ok (.value (.slice (some ⟨w.heap.size,0,none⟩) n n)) (w.alloc (.cells (madeCells z.cells (n * ti.size)) e)):=by
  have:=run_make w t e ti z ht hti hz .i64 .i64 n n (by omega) (Int.le_refl _) (by omega) (by omega)
  simp only [Int.toNat_natCast] at this
  unfold execOp
  simp only [hop]
  simp [go_sem,hx,this]
 have he:(execOp a.eval o).events P w #[]=#[]:=by
  have wl:IntKind.i64.wrap (n:Int)=n:=by rw [IntKind.wrap_i64];omega
  have n1:¬ ((n:Int) < 0):=by omega
  have n2:¬ (281474976710656 < (ti.bytes:Int) * (n:Int)):=by omega
  have n3:¬ (140737488355328 < n * ti.bytes):=by rw [Nat.mul_comm];omega
  unfold execOp
  simp only [hop]
  by_cases hn0:n * ti.size=0
  ·simp [go_sem,hx,Instr.makeSlice,run_underlying ht,asInt,asIntOf,typeInfo,hti,sizeOf,wl,n1,n2,n3,hn0,newRow,askRoom,roomBytes]
  ·simp [go_sem,hx,Instr.makeSlice,run_underlying ht,asInt,asIntOf,typeInfo,hti,sizeOf,zeroValue,hz,wl,n1,n2,n3,hn0,newRow,askRoom,roomBytes]
 rw [stepG_value ho hw hk hr,listed_none he]
end
end Go.Proofs.YtjnkcibpkkjniaaGreat.Pool
namespace Go.Proofs.YtjnkcibpkkjniaaGreat.Pool
open Go.Conc Go.ConcN Go.Conc.Lib Go.ConcR.Gen Go.ConcN.Gen Go.Proofs.YtjnkcibpkkjniaaGreat.Sim
open Go.ConcR (KK wgBlock WgAt stA smA rd wr mk DC0)
noncomputable def gabody:Code:=Tryz.f63.body.getD .skip
noncomputable def ga1ops:Array Oper:=match gabody with
 | .seq _ (.seq (.region _ ops _) _)=>ops
 | _=>#[]
noncomputable def galoop:Code:=match gabody with
 | .seq _ (.seq _ c)=>c
 | _=>.skip
noncomputable abbrev gaf:Frame:=base 63
noncomputable def gunder (a:Act) (l:List Nat) (cs:List Frame):List Frame:=wf.at a (.inRegion r10ops (7::l)::[.code .ret])::cs
theorem r10_7:∃ o ats,r10ops[7]? = some o∧o.dst=some 35∧o.op=.call { callee:=.value (.func 63),args:=#[.tmp 28, .tmp 29, .tmp 34],argTypes:=ats }∧o.guard=none:=⟨_,_,rfl,rfl,rfl,rfl⟩
theorem ready7 {p:WI} {B:WB} {ret:Value} {listed:Array Bool} {a:Act} (ht:Tab r10ops (v10 p B ret) (fix10 B) 36 listed a) (hr:7∈Region.ready .any r10ops listed) :
  a.tmps[28]? = some (.chan (some B.CB))∧a.tmps[29]? = some (.chan (some B.CF))∧a.tmps[34]? = some (.int .i64 p.xl):=by
 obtain ⟨o,ats,ho,h1,h2,h3⟩:=r10_7
 have hd:=dep ht ho hr
 have e:r10ops[7]? = some o:=ho
 simp only [r10ops,r10,wlast,wrest,Tryz.f35,List.getElem?_toArray,List.getElem?_cons_succ,List.getElem?_cons_zero,Option.some.injEq] at e
 subst e
 exact ⟨hd ⟨0, .data⟩ (by simp) (by rw [size_10];decide) rfl _ 28 (by rfl) rfl,hd ⟨1, .data⟩ (by simp) (by rw [size_10];decide) rfl _ 29 (by rfl) rfl,hd ⟨6, .data⟩ (by simp) (by rw [size_10];decide) rfl _ 34 (by rfl) rfl⟩
section
variable {p:WI} {B:WB} {V W:Nat→Prop} {cs:List Frame} {w:World}
set_option maxRecDepth 100000 in
set_option maxHeartbeats 4000000 in
theorem g_toMake {g:Goroutine} (h:AtGather p B V cs g w) :
  Goes Tryz.prog true (RK Tryz.link.tWg B.Wg V) (DM V W) (fun g w=>MF p B V w∧∃ a listed fuel t,Tab r10ops (v10 p B undef) (fix10 B) 36 listed a∧7∈Region.ready .any r10ops listed∧listed.getD 8 false=false∧unl r10ops listed≤fuel+1 ∧
   g=G (gaf.at ⟨#[.chan (some B.CB), .chan (some B.CF), .int .i64 p.xl,undef,undef,undef, .slice none 0 0,undef,undef,undef, .int .i64 p.xl]++Array.replicate 28 undef,[]⟩ (.inRegion ga1ops [1,2]::[.code galoop])) (gunder a (Region.linearise.go .any r10ops fuel t (listed.setIfInBounds 7 true) []) cs)) 12 g w:=by
 obtain ⟨hF,a,listed,fuel,t,ht,hr,h8,hu,rfl⟩:=h
 obtain ⟨e28,e29,e34⟩:=ready7 ht hr
 obtain ⟨o,ats,ho,od,oop,og⟩:=r10_7
 (refine Goes.step rfl (fun _ h₁=>?_);replace hF:=MF.keep hF (RK.keep h₁);clear h₁)
 refine goes_call (c:=gabody) ho (by simp [Region.wanted,og]) (by decide) oop Tryz.func63 rfl rfl ⟨DM.nil,?_⟩
 have hargs:#[Operand.tmp 28,Operand.tmp 29,Operand.tmp 34].map a.eval=#[.chan (some B.CB), .chan (some B.CF), .int .i64 p.xl]:=by
  simp [Act.eval,Array.getD_eq_getD_getElem?,e28,e29,e34]
 rw [hargs]
 simp only [gabody,Tryz.f63,Option.getD_some]
 walk_nrm
 ((refine Goes.step rfl (fun _ h₁=>?_);replace hF:=MF.keep hF (RK.keep h₁);clear h₁);rw [stepG_seq];simp only [goes_go];refine ⟨DM.nil,?_⟩)
 ((refine Goes.step rfl (fun _ h₁=>?_);replace hF:=MF.keep hF (RK.keep h₁);clear h₁);rw [stepG_region];simp only [goes_go,List.size_toArray,List.length_cons,List.length_nil,Nat.reduceAdd,Nat.zero_add,List.range,List.range.loop];refine ⟨DM.nil,?_⟩)
 ((refine Goes.step rfl (fun _ h₁=>?_);replace hF:=MF.keep hF (RK.keep h₁);clear h₁);refine goes_oper_k rfl rfl (by decide) (fun K hK=>?_);have e1:=MF.s hF;have e2:=MF.x hF;have hV:=MF.vs hF;(try simp only [ptr] at *);go_simp;refine hK _ _ ⟨⟨fun _ _=>rfl,rfl,rfl,fun e he=>?_⟩,?_⟩;(focus (clear hK;have hm:=mem_listed he;simp [go_sem, *] at hm;(try (subst hm;exact ⟨_,_,rfl,by simp [hV],by simp⟩))));clear hK K e1 e2 hV)
 ((refine Goes.step rfl (fun _ h₁=>?_);replace hF:=MF.keep hF (RK.keep h₁);clear h₁);rw [stepG_region_end];simp only [goes_go];refine ⟨DM.nil,?_⟩)
 ((refine Goes.step rfl (fun _ h₁=>?_);replace hF:=MF.keep hF (RK.keep h₁);clear h₁);rw [stepG_seq];simp only [goes_go];refine ⟨DM.nil,?_⟩)
 ((refine Goes.step rfl (fun _ h₁=>?_);replace hF:=MF.keep hF (RK.keep h₁);clear h₁);rw [stepG_region];simp only [goes_go,List.size_toArray,List.length_cons,List.length_nil,Nat.reduceAdd,Nat.zero_add,List.range,List.range.loop];refine ⟨DM.nil,?_⟩)
 ((refine Goes.step rfl (fun _ h₁=>?_);replace hF:=MF.keep hF (RK.keep h₁);clear h₁);refine goes_oper_k rfl rfl (by decide) (fun K hK=>?_);have e1:=MF.s hF;have e2:=MF.x hF;have hV:=MF.vs hF;(try simp only [ptr] at *);go_simp;refine hK _ _ ⟨⟨fun _ _=>rfl,rfl,rfl,fun e he=>?_⟩,?_⟩;(focus (clear hK;have hm:=mem_listed he;simp [go_sem, *] at hm;(try (subst hm;exact ⟨_,_,rfl,by simp [hV],by simp⟩))));clear hK K e1 e2 hV)
 exact Goes.stop fun w₁ h₁=>⟨hF.keep h₁.keep,a,listed,fuel,t,ht,hr,by simpa [Array.getD_eq_getD_getElem?] using h8,hu,rfl⟩
end
end Go.Proofs.YtjnkcibpkkjniaaGreat.Pool
namespace Go.Proofs.YtjnkcibpkkjniaaGreat.Pool
open Go.Conc Go.ConcN Go.Conc.Lib Go.ConcR.Gen Go.ConcN.Gen Go.Proofs.YtjnkcibpkkjniaaGreat.Sim
open Go.ConcR (KK wgBlock WgAt stA smA rd wr mk DC0)
noncomputable def labody:Code:=match galoop with
 | .block _ (.loop c)=>c
 | _=>.skip
noncomputable def s4ops:Array Oper:=match labody with
 | .block _ (.seq _ (.seq (.region _ ops _) _))=>ops
 | _=>#[]
noncomputable def s4rest:Code:=match labody with
 | .block _ (.seq _ (.seq _ c))=>c
 | _=>.skip
def rslice (p:WI) (RB:Nat):Value:=.slice (some ⟨RB,0,none⟩) p.xl p.xl
def GT (p:WI) (B:WB) (RB:Nat) (v8 v12 v13 v14 v15 v16 v17 v18 v19 v20 v21 v22 v23 v24:Value):Array Value :=
 #[.chan (some B.CB), .chan (some B.CF), .int .i64 p.xl,undef,undef,undef, .slice none 0 0,rslice p RB,v8,undef, .int .i64 p.xl,rslice p RB,v12,v13,v14,v15,v16,v17,v18,v19,v20,v21,v22,v23,v24,undef,undef,undef,undef,undef,undef,undef,undef,undef,undef,undef,undef,undef,undef]
noncomputable def ghead (p:WI) (B:WB) (RB:Nat) (v8 v12 v13 v14 v15 v16 v17 v18 v19 v20 v21 v22 v23 v24:Value) (us:List Frame):Goroutine:=G (gaf.at ⟨GT p B RB v8 v12 v13 v14 v15 v16 v17 v18 v19 v20 v21 v22 v23 v24,[]⟩ [.code labody, .inLoop labody, .inBlock 0]) us
noncomputable def gsel (p:WI) (B:WB) (RB:Nat) (v8 v14 v15 v16 v17 v18 v19 v20 v21 v22 v23 v24:Value) (us:List Frame):Goroutine:=G (gaf.at ⟨GT p B RB v8 (.chan (some B.CB)) (.chan (some B.CF)) v14 v15 v16 v17 v18 v19 v20 v21 v22 v23 v24,[]⟩ [.inRegion s4ops [0,1,2,3], .code s4rest, .inBlock 1, .inLoop labody, .inBlock 0]) us
section
variable {p:WI} {B:WB} {V W:Nat→Prop} {us:List Frame} {w:World}
set_option maxRecDepth 100000 in
set_option maxHeartbeats 4000000 in
theorem g_enter {RB:Nat} (hF:MF p B V w) :
  Goes Tryz.prog true (RK Tryz.link.tWg B.Wg V) (DM V W) (fun g w=>MF p B V w∧g=ghead p B RB undef undef undef undef undef undef undef undef undef undef undef undef undef undef us) 12
   (G (gaf.at ⟨#[.chan (some B.CB), .chan (some B.CF), .int .i64 p.xl,undef,undef,undef, .slice none 0 0,undef,undef,undef, .int .i64 p.xl,rslice p RB,undef,undef,undef,undef,undef,undef,undef,undef,undef,undef,undef,undef,undef,undef,undef,undef,undef,undef,undef,undef,undef,undef,undef,undef,undef,undef,undef],[]⟩ (.inRegion ga1ops [2]::[.code galoop])) us) w:=by
 simp only [ga1ops,galoop,gabody,Tryz.f63,Option.getD_some]
 ((refine Goes.step rfl (fun _ h₁=>?_);replace hF:=MF.keep hF (RK.keep h₁);clear h₁);refine goes_oper_k rfl rfl (by decide) (fun K hK=>?_);have e1:=MF.s hF;have e2:=MF.x hF;have hV:=MF.vs hF;(try simp only [ptr] at *);go_simp;refine hK _ _ ⟨⟨fun _ _=>rfl,rfl,rfl,fun e he=>?_⟩,?_⟩;(focus (clear hK;have hm:=mem_listed he;simp [go_sem, *] at hm;(try (subst hm;exact ⟨_,_,rfl,by simp [hV],by simp⟩))));clear hK K e1 e2 hV)
 ((refine Goes.step rfl (fun _ h₁=>?_);replace hF:=MF.keep hF (RK.keep h₁);clear h₁);rw [stepG_region_end];simp only [goes_go];refine ⟨DM.nil,?_⟩)
 ((refine Goes.step rfl (fun _ h₁=>?_);replace hF:=MF.keep hF (RK.keep h₁);clear h₁);rw [stepG_block];simp only [goes_go];refine ⟨DM.nil,?_⟩)
 ((refine Goes.step rfl (fun _ h₁=>?_);replace hF:=MF.keep hF (RK.keep h₁);clear h₁);rw [stepG_loop];simp only [goes_go];refine ⟨DM.nil,?_⟩)
 exact Goes.stop fun w₁ h₁=>⟨hF.keep h₁.keep,rfl⟩
set_option maxRecDepth 100000 in
set_option maxHeartbeats 4000000 in
theorem g_toSel {RB:Nat} {v8 v12 v13 v14 v15 v16 v17 v18 v19 v20 v21 v22 v23 v24:Value} (hF:MF p B V w) :
  Goes Tryz.prog true (RK Tryz.link.tWg B.Wg V) (DM V W) (fun g w=>MF p B V w∧g=gsel p B RB v8 v14 v15 v16 v17 v18 v19 v20 v21 v22 v23 v24 us) 14
   (ghead p B RB v8 v12 v13 v14 v15 v16 v17 v18 v19 v20 v21 v22 v23 v24 us) w:=by
 simp only [ghead,GT,labody,galoop,gabody,Tryz.f63,Option.getD_some]
 ((refine Goes.step rfl (fun _ h₁=>?_);replace hF:=MF.keep hF (RK.keep h₁);clear h₁);rw [stepG_block];simp only [goes_go];refine ⟨DM.nil,?_⟩)
 ((refine Goes.step rfl (fun _ h₁=>?_);replace hF:=MF.keep hF (RK.keep h₁);clear h₁);rw [stepG_seq];simp only [goes_go];refine ⟨DM.nil,?_⟩)
 ((refine Goes.step rfl (fun _ h₁=>?_);replace hF:=MF.keep hF (RK.keep h₁);clear h₁);rw [stepG_seq];simp only [goes_go];refine ⟨DM.nil,?_⟩)
 ((refine Goes.step rfl (fun _ h₁=>?_);replace hF:=MF.keep hF (RK.keep h₁);clear h₁);rw [stepG_region];simp only [goes_go,List.size_toArray,List.length_cons,List.length_nil,Nat.reduceAdd,Nat.zero_add,List.range,List.range.loop];refine ⟨DM.nil,?_⟩)
 ((refine Goes.step rfl (fun _ h₁=>?_);replace hF:=MF.keep hF (RK.keep h₁);clear h₁);refine goes_oper_k rfl rfl (by decide) (fun K hK=>?_);have e1:=MF.s hF;have e2:=MF.x hF;have hV:=MF.vs hF;(try simp only [ptr] at *);go_simp;refine hK _ _ ⟨⟨fun _ _=>rfl,rfl,rfl,fun e he=>?_⟩,?_⟩;(focus (clear hK;have hm:=mem_listed he;simp [go_sem, *] at hm;(try (subst hm;exact ⟨_,_,rfl,by simp [hV],by simp⟩))));clear hK K e1 e2 hV)
 ((refine Goes.step rfl (fun _ h₁=>?_);replace hF:=MF.keep hF (RK.keep h₁);clear h₁);rw [stepG_region_end];simp only [goes_go];refine ⟨DM.nil,?_⟩)
 ((refine Goes.step rfl (fun _ h₁=>?_);replace hF:=MF.keep hF (RK.keep h₁);clear h₁);rw [stepG_region];simp only [goes_go,List.size_toArray,List.length_cons,List.length_nil,Nat.reduceAdd,Nat.zero_add,List.range,List.range.loop];refine ⟨DM.nil,?_⟩)
 ((refine Goes.step rfl (fun _ h₁=>?_);replace hF:=MF.keep hF (RK.keep h₁);clear h₁);refine goes_oper_k rfl rfl (by decide) (fun K hK=>?_);have e1:=MF.s hF;have e2:=MF.x hF;have hV:=MF.vs hF;(try simp only [ptr] at *);go_simp;refine hK _ _ ⟨⟨fun _ _=>rfl,rfl,rfl,fun e he=>?_⟩,?_⟩;(focus (clear hK;have hm:=mem_listed he;simp [go_sem, *] at hm;(try (subst hm;exact ⟨_,_,rfl,by simp [hV],by simp⟩))));clear hK K e1 e2 hV)
 ((refine Goes.step rfl (fun _ h₁=>?_);replace hF:=MF.keep hF (RK.keep h₁);clear h₁);rw [stepG_region_end];simp only [goes_go];refine ⟨DM.nil,?_⟩)
 ((refine Goes.step rfl (fun _ h₁=>?_);replace hF:=MF.keep hF (RK.keep h₁);clear h₁);rw [stepG_seq];simp only [goes_go];refine ⟨DM.nil,?_⟩)
 ((refine Goes.step rfl (fun _ h₁=>?_);replace hF:=MF.keep hF (RK.keep h₁);clear h₁);rw [stepG_region];simp only [goes_go,List.size_toArray,List.length_cons,List.length_nil,Nat.reduceAdd,Nat.zero_add,List.range,List.range.loop];refine ⟨DM.nil,?_⟩)
 exact Goes.stop fun w₁ h₁=>⟨hF.keep h₁.keep,rfl⟩
theorem s4_0:∃ o,s4ops[0]? = some o∧o.dst=some 14∧o.op=.select #[{ chan:=.tmp 12,send:=none,elem:=155 },{ chan:=.tmp 13,send:=none,elem:=143 }] true∧o.guard=none:=⟨_,rfl,rfl,rfl,rfl⟩
end
end Go.Proofs.YtjnkcibpkkjniaaGreat.Pool
namespace Go.Proofs.YtjnkcibpkkjniaaGreat.Pool
open Go.Conc Go.ConcN Go.Conc.Lib Go.ConcR.Gen Go.ConcN.Gen Go.Proofs.YtjnkcibpkkjniaaGreat.Sim
open Go.ConcR (KK wgBlock WgAt stA smA rd wr mk DC0)
def zdone:Value:=.agg #[.int .i64 0, .slice none 0 0, .bool false]
def zfin:Value:=.agg #[]
theorem g_select {p:WI} {B:WB} {RB:Nat} {v8 v14 v15 v16 v17 v18 v19 v20 v21 v22 v23 v24:Value} {us:List Frame} (w:World) :
  stepG Tryz.prog true (gsel p B RB v8 v14 v15 v16 v17 v18 v19 v20 v21 v22 v23 v24 us) w=.comm (gsel p B RB v8 v14 v15 v16 v17 v18 v19 v20 v21 v22 v23 v24 us) #[rcase B.CB zdone,rcase B.CF zfin] true .select w #[]:=by
 obtain ⟨o,ho,od,oop,og⟩:=s4_0
 have hz1:=Tryz.zeroValue155
 have hz2:=Tryz.zeroValue143
 have he1:=fun w es=>ev_zero (P:=Tryz.prog) (t:=155) (by kernel_rfl) w es
 have he2:=fun w es=>ev_zero (P:=Tryz.prog) (t:=143) (by kernel_rfl) w es
 unfold gsel
 have hr:(execOp (Act.eval ⟨GT p B RB v8 (.chan (some B.CB)) (.chan (some B.CF)) v14 v15 v16 v17 v18 v19 v20 v21 v22 v23 v24,[]⟩) o).run Tryz.prog w=.ok (.comm #[rcase B.CB zdone,rcase B.CF zfin] true .select) w:=by
  unfold execOp
  simp [oop,hz1,hz2,Act.eval,GT,rcase,zdone,zfin]
 have he:(execOp (Act.eval ⟨GT p B RB v8 (.chan (some B.CB)) (.chan (some B.CF)) v14 v15 v16 v17 v18 v19 v20 v21 v22 v23 v24,[]⟩) o).events Tryz.prog w #[]=#[]:=by
  unfold execOp
  simp [oop,hz1,hz2,he1,he2,Act.eval,GT]
 rw [stepG_comm ho (by simp [Region.wanted,og]) (by decide) hr,listed_none he]
theorem finish_sel {P:Program} {p:WI} {B:WB} {RB:Nat} {v8 v14 v15 v16 v17 v18 v19 v20 v21 v22 v23 v24:Value} {us:List Frame} (k:Nat) (v:Value) (ok:Bool) :
  (gsel p B RB v8 v14 v15 v16 v17 v18 v19 v20 v21 v22 v23 v24 us).finishComm P #[rcase B.CB zdone,rcase B.CF zfin] .select (k:Nat) v ok =
   G (gaf.at ⟨GT p B RB v8 (.chan (some B.CB)) (.chan (some B.CF)) (commResult #[rcase B.CB zdone,rcase B.CF zfin] .select (k:Nat) v ok) v15 v16 v17 v18 v19 v20 v21 v22 v23 v24,[]⟩ [.inRegion s4ops [1,2,3], .code s4rest, .inBlock 1, .inLoop labody, .inBlock 0]) us:=by
 obtain ⟨o,ho,od,oop,og⟩:=s4_0
 unfold Goroutine.finishComm gsel
 simp only [G]
 rw [Frame.finish_at,ho]
 simp only [Option.bind_some,od]
 rfl
theorem res0 {B:WB} (v:Value):commResult #[rcase B.CB zdone,rcase B.CF zfin] .select ((0:Nat):Int) v true=.tuple #[.int .i64 0, .bool true,v,zfin]:=by
 simp [commResult,rcase,goInt,Array.zipIdx,Array.filter,zfin]
 try rfl
theorem res1 {B:WB} (v:Value):commResult #[rcase B.CB zdone,rcase B.CF zfin] .select ((1:Nat):Int) v false=.tuple #[.int .i64 1, .bool false,zdone,v]:=by
 simp [commResult,rcase,goInt,Array.zipIdx,Array.filter,zdone]
 try rfl
noncomputable def s5ops:Array Oper:=match s4rest with
 | .block _ (.cond _ (.seq (.region _ ops _) _) _)=>ops
 | _=>#[]
noncomputable def s6ops:Array Oper:=match s4rest with
 | .block _ (.cond _ (.seq _ (.region _ ops _)) _)=>ops
 | _=>#[]
noncomputable def skk:List Item:=[.inBlock 2, .inBlock 1, .inLoop labody, .inBlock 0]
section
variable {p:WI} {B:WB} {V W:Nat→Prop} {us:List Frame} {w:World}
set_option maxRecDepth 100000 in
set_option maxHeartbeats 4000000 in
theorem g_took {RB:Nat} {v v8 v15 v16 v17 v18 v19 v20 v21 v22 v23 v24:Value} (hF:MF p B V w) :
  Goes Tryz.prog true (RK Tryz.link.tWg B.Wg V) (DM V W) (fun g w=>MF p B V w∧g=G (gaf.at ⟨GT p B RB v8 (.chan (some B.CB)) (.chan (some B.CF)) (.tuple #[.int .i64 0, .bool true,v,zfin]) (.int .i64 0) (.bool true) (.bool false) v v19 v20 v21 v22 v23 v24,[]⟩ (.inRegion s5ops [1,2]::.code (.region 6 s6ops false)::skk)) us) 14
   (G (gaf.at ⟨GT p B RB v8 (.chan (some B.CB)) (.chan (some B.CF)) (.tuple #[.int .i64 0, .bool true,v,zfin]) v15 v16 v17 v18 v19 v20 v21 v22 v23 v24,[]⟩ [.inRegion s4ops [1,2,3], .code s4rest, .inBlock 1, .inLoop labody, .inBlock 0]) us) w:=by
 simp only [GT,s4ops,s4rest,s5ops,s6ops,skk,labody,galoop,gabody,Tryz.f63,Option.getD_some]
 ((refine Goes.step rfl (fun _ h₁=>?_);replace hF:=MF.keep hF (RK.keep h₁);clear h₁);refine goes_oper_k rfl rfl (by decide) (fun K hK=>?_);have e1:=MF.s hF;have e2:=MF.x hF;have hV:=MF.vs hF;(try simp only [ptr] at *);go_simp;refine hK _ _ ⟨⟨fun _ _=>rfl,rfl,rfl,fun e he=>?_⟩,?_⟩;(focus (clear hK;have hm:=mem_listed he;simp [go_sem, *] at hm;(try (subst hm;exact ⟨_,_,rfl,by simp [hV],by simp⟩))));clear hK K e1 e2 hV)
 ((refine Goes.step rfl (fun _ h₁=>?_);replace hF:=MF.keep hF (RK.keep h₁);clear h₁);refine goes_oper_k rfl rfl (by decide) (fun K hK=>?_);have e1:=MF.s hF;have e2:=MF.x hF;have hV:=MF.vs hF;(try simp only [ptr] at *);go_simp;refine hK _ _ ⟨⟨fun _ _=>rfl,rfl,rfl,fun e he=>?_⟩,?_⟩;(focus (clear hK;have hm:=mem_listed he;simp [go_sem, *] at hm;(try (subst hm;exact ⟨_,_,rfl,by simp [hV],by simp⟩))));clear hK K e1 e2 hV)
 ((refine Goes.step rfl (fun _ h₁=>?_);replace hF:=MF.keep hF (RK.keep h₁);clear h₁);refine goes_oper_k rfl rfl (by decide) (fun K hK=>?_);have e1:=MF.s hF;have e2:=MF.x hF;have hV:=MF.vs hF;(try simp only [ptr] at *);go_simp;refine hK _ _ ⟨⟨fun _ _=>rfl,rfl,rfl,fun e he=>?_⟩,?_⟩;(focus (clear hK;have hm:=mem_listed he;simp [go_sem, *] at hm;(try (subst hm;exact ⟨_,_,rfl,by simp [hV],by simp⟩))));clear hK K e1 e2 hV)
 ((refine Goes.step rfl (fun _ h₁=>?_);replace hF:=MF.keep hF (RK.keep h₁);clear h₁);rw [stepG_region_end];simp only [goes_go];refine ⟨DM.nil,?_⟩)
 ((refine Goes.step rfl (fun _ h₁=>?_);replace hF:=MF.keep hF (RK.keep h₁);clear h₁);rw [stepG_block];simp only [goes_go];refine ⟨DM.nil,?_⟩)
 (refine Goes.step rfl (fun _ h₁=>?_);replace hF:=MF.keep hF (RK.keep h₁);clear h₁)
 rw [stepG_cond (t:=true) rfl]
 simp only [goes_go,if_true]
 refine ⟨DM.nil,?_⟩
 ((refine Goes.step rfl (fun _ h₁=>?_);replace hF:=MF.keep hF (RK.keep h₁);clear h₁);rw [stepG_seq];simp only [goes_go];refine ⟨DM.nil,?_⟩)
 ((refine Goes.step rfl (fun _ h₁=>?_);replace hF:=MF.keep hF (RK.keep h₁);clear h₁);rw [stepG_region];simp only [goes_go,List.size_toArray,List.length_cons,List.length_nil,Nat.reduceAdd,Nat.zero_add,List.range,List.range.loop];refine ⟨DM.nil,?_⟩)
 ((refine Goes.step rfl (fun _ h₁=>?_);replace hF:=MF.keep hF (RK.keep h₁);clear h₁);refine goes_oper_k rfl rfl (by decide) (fun K hK=>?_);have e1:=MF.s hF;have e2:=MF.x hF;have hV:=MF.vs hF;(try simp only [ptr] at *);go_simp;refine hK _ _ ⟨⟨fun _ _=>rfl,rfl,rfl,fun e he=>?_⟩,?_⟩;(focus (clear hK;have hm:=mem_listed he;simp [go_sem, *] at hm;(try (subst hm;exact ⟨_,_,rfl,by simp [hV],by simp⟩))));clear hK K e1 e2 hV)
 exact Goes.stop fun w₁ h₁=>⟨hF.keep h₁.keep,rfl⟩
end
end Go.Proofs.YtjnkcibpkkjniaaGreat.Pool
namespace Go.Proofs.YtjnkcibpkkjniaaGreat.Pool
open Go.Conc Go.ConcN Go.Conc.Lib Go.ConcR.Gen Go.ConcN.Gen Go.Proofs.YtjnkcibpkkjniaaGreat.Sim
open Go.ConcR (KK wgBlock WgAt stA smA rd wr mk DC0)
theorem evs_slice (P:Program) (w:World) (es:Array Event) (a:Addr) (m:Go.Mode) (b:Option Addr) (l c:Nat):(store a (.slice b l c) m).events P w es=storedEv P w es a (.slice b l c) m:=events_store P w es a _ m rfl
theorem evs_bool (P:Program) (w:World) (es:Array Event) (a:Addr) (m:Go.Mode) (b:Bool):(store a (.bool b) m).events P w es=storedEv P w es a (.bool b) m:=events_store P w es a _ m rfl
section
variable {p:WI} {B:WB} {V W:Nat→Prop} {us:List Frame} {w:World}
set_option maxRecDepth 100000 in
set_option maxHeartbeats 4000000 in
theorem g_store {RB DB:Nat} {i:Nat} (hi:i < p.xl) (hn:DB≠B.bS∧DB≠B.bN∧DB≠B.bC∧DB≠B.bG∧DB≠p.sp) {sa:Option Addr} {sl sc:Nat} {sb:Bool} {v14 v15 v16 v17 v19 v20 v21 v22 v23 v24:Value} (hW:W DB) (hF:MFI p B V DB (.cells zdone.cells 155) w) :
  Goes Tryz.prog true (RK Tryz.link.tWg B.Wg V) (DM V W) (fun g w=>MFI p B V DB (.cells #[.int .i64 i, .slice sa sl sc, .bool sb] 155) w∧g=G (gaf.at ⟨GT p B RB (ptr DB) (.chan (some B.CB)) (.chan (some B.CF)) v14 v15 v16 v17 (.agg #[.int .i64 i, .slice sa sl sc, .bool sb]) (rslice p RB) (ptr DB) (.int .i64 i) (.pointer (some ⟨DB,1,none⟩)) (.agg #[.slice sa sl sc, .bool sb]) (.pointer (some ⟨RB,i * 2,none⟩)),[]⟩ (.inRegion s6ops [6]::skk)) us) 14
   (G (gaf.at ⟨GT p B RB (ptr DB) (.chan (some B.CB)) (.chan (some B.CF)) v14 v15 v16 v17 (.agg #[.int .i64 i, .slice sa sl sc, .bool sb]) v19 v20 v21 v22 v23 v24,[]⟩ (.inRegion s5ops [2]::.code (.region 6 s6ops false)::skk)) us) w:=by
 simp only [GT,s4ops,s4rest,s5ops,s6ops,skk,labody,galoop,gabody,Tryz.f63,Option.getD_some]
 (refine Goes.step rfl (fun _ h₁=>?_);replace hF:=MFI.keep hF (RK.keep h₁);clear h₁)
 refine goes_oper_k rfl rfl (by decide) (fun K hK=>?_)
 have e0:=cell_of hF.o 0
 have e1:=cell_of hF.o 1
 have e2:=cell_of hF.o 2
 have z0:=frozen_of hF.o 0
 have z1:=frozen_of hF.o 1
 have z2:=frozen_of hF.o 2
 simp [zdone,Value.cells] at e0 e1 e2
 simp only [ptr]
 go_simp
 refine hK _ _ ⟨⟨fun b hb=>?_,by simp [World.setCell],rfl,fun e he=>?_⟩,?_⟩
 ·have hne:DB≠b:=fun e=>hb (e▸hW)
  rw [set_other hne,set_other hne,set_other hne]
 ·clear hK
  have hm:=mem_listed he
  simp [go_sem,ptr,evs_slice,evs_bool,storedEv, *] at hm
  rcases hm with rfl | rfl | rfl <;> exact ⟨_,_,rfl,hF.v,fun _=>hW⟩
 clear hK K e0 e1 e2 z0 z1 z2
 have hF:=(⟨hF.f.keepBut (b:=DB) hn (fun x hx=>by
   have hne:DB≠x:=Ne.symm hx
   rw [set_other hne,set_other hne,set_other hne]),hF.v,set_block (set_block (set_block hF.o 0 (.int .i64 i)) 1 (.slice sa sl sc)) 2 (.bool sb)⟩:MFI p B V DB _ _)
 simp only [zdone,Value.cells,List.setIfInBounds_toArray,List.set_cons_zero,List.set_cons_succ] at hF
 ((refine Goes.step rfl (fun _ h₁=>?_);replace hF:=MFI.keep hF (RK.keep h₁);clear h₁);rw [stepG_region_end];simp only [goes_go];refine ⟨DM.nil,?_⟩)
 ((refine Goes.step rfl (fun _ h₁=>?_);replace hF:=MFI.keep hF (RK.keep h₁);clear h₁);rw [stepG_region];simp only [goes_go,List.size_toArray,List.length_cons,List.length_nil,Nat.reduceAdd,Nat.zero_add,List.range,List.range.loop];refine ⟨DM.nil,?_⟩)
 have hlt:(i:Int) < (p.xl:Int):=by omega
 ((refine Goes.step rfl (fun _ h₁=>?_);replace hF:=MFI.keep hF (RK.keep h₁);clear h₁);refine goes_oper_k rfl rfl (by decide) (fun K hK=>?_);have e0:=cell_of (MFI.o hF) 0;have e1:=cell_of (MFI.o hF) 1;have e2:=cell_of (MFI.o hF) 2;have e3:=cell_of (MFI.o hF) 3;simp at e0 e1 e2;(try simp only [ptr,rslice]);go_simp;refine hK _ _ ⟨⟨fun _ _=>rfl,rfl,rfl,fun e he=>?_⟩,?_⟩;(focus (clear hK;have hm:=mem_listed he;simp [go_sem,ptr,rslice, *] at hm;(try (subst hm;exact ⟨_,_,rfl,MFI.v hF,by simp⟩));(try (rcases hm with rfl | rfl | rfl <;> exact ⟨_,_,rfl,MFI.v hF,by simp⟩))));clear hK K e0 e1 e2 e3)
 ((refine Goes.step rfl (fun _ h₁=>?_);replace hF:=MFI.keep hF (RK.keep h₁);clear h₁);refine goes_oper_k rfl rfl (by decide) (fun K hK=>?_);have e0:=cell_of (MFI.o hF) 0;have e1:=cell_of (MFI.o hF) 1;have e2:=cell_of (MFI.o hF) 2;have e3:=cell_of (MFI.o hF) 3;simp at e0 e1 e2;(try simp only [ptr,rslice]);go_simp;refine hK _ _ ⟨⟨fun _ _=>rfl,rfl,rfl,fun e he=>?_⟩,?_⟩;(focus (clear hK;have hm:=mem_listed he;simp [go_sem,ptr,rslice, *] at hm;(try (subst hm;exact ⟨_,_,rfl,MFI.v hF,by simp⟩));(try (rcases hm with rfl | rfl | rfl <;> exact ⟨_,_,rfl,MFI.v hF,by simp⟩))));clear hK K e0 e1 e2 e3)
 ((refine Goes.step rfl (fun _ h₁=>?_);replace hF:=MFI.keep hF (RK.keep h₁);clear h₁);refine goes_oper_k rfl rfl (by decide) (fun K hK=>?_);have e0:=cell_of (MFI.o hF) 0;have e1:=cell_of (MFI.o hF) 1;have e2:=cell_of (MFI.o hF) 2;have e3:=cell_of (MFI.o hF) 3;simp at e0 e1 e2;(try simp only [ptr,rslice]);go_simp;refine hK _ _ ⟨⟨fun _ _=>rfl,rfl,rfl,fun e he=>?_⟩,?_⟩;(focus (clear hK;have hm:=mem_listed he;simp [go_sem,ptr,rslice, *] at hm;(try (subst hm;exact ⟨_,_,rfl,MFI.v hF,by simp⟩));(try (rcases hm with rfl | rfl | rfl <;> exact ⟨_,_,rfl,MFI.v hF,by simp⟩))));clear hK K e0 e1 e2 e3)
 ((refine Goes.step rfl (fun _ h₁=>?_);replace hF:=MFI.keep hF (RK.keep h₁);clear h₁);refine goes_oper_k rfl rfl (by decide) (fun K hK=>?_);have e0:=cell_of (MFI.o hF) 0;have e1:=cell_of (MFI.o hF) 1;have e2:=cell_of (MFI.o hF) 2;have e3:=cell_of (MFI.o hF) 3;simp at e0 e1 e2;(try simp only [ptr,rslice]);go_simp;refine hK _ _ ⟨⟨fun _ _=>rfl,rfl,rfl,fun e he=>?_⟩,?_⟩;(focus (clear hK;have hm:=mem_listed he;simp [go_sem,ptr,rslice, *] at hm;(try (subst hm;exact ⟨_,_,rfl,MFI.v hF,by simp⟩));(try (rcases hm with rfl | rfl | rfl <;> exact ⟨_,_,rfl,MFI.v hF,by simp⟩))));clear hK K e0 e1 e2 e3)
 ((refine Goes.step rfl (fun _ h₁=>?_);replace hF:=MFI.keep hF (RK.keep h₁);clear h₁);refine goes_oper_k rfl rfl (by decide) (fun K hK=>?_);have e0:=cell_of (MFI.o hF) 0;have e1:=cell_of (MFI.o hF) 1;have e2:=cell_of (MFI.o hF) 2;have e3:=cell_of (MFI.o hF) 3;simp at e0 e1 e2;(try simp only [ptr,rslice]);go_simp;refine hK _ _ ⟨⟨fun _ _=>rfl,rfl,rfl,fun e he=>?_⟩,?_⟩;(focus (clear hK;have hm:=mem_listed he;simp [go_sem,ptr,rslice, *] at hm;(try (subst hm;exact ⟨_,_,rfl,MFI.v hF,by simp⟩));(try (rcases hm with rfl | rfl | rfl <;> exact ⟨_,_,rfl,MFI.v hF,by simp⟩))));clear hK K e0 e1 e2 e3)
 ((refine Goes.step rfl (fun _ h₁=>?_);replace hF:=MFI.keep hF (RK.keep h₁);clear h₁);refine goes_oper_k rfl rfl (by decide) (fun K hK=>?_);have e0:=cell_of (MFI.o hF) 0;have e1:=cell_of (MFI.o hF) 1;have e2:=cell_of (MFI.o hF) 2;have e3:=cell_of (MFI.o hF) 3;simp at e0 e1 e2;(try simp only [ptr,rslice]);go_simp;refine hK _ _ ⟨⟨fun _ _=>rfl,rfl,rfl,fun e he=>?_⟩,?_⟩;(focus (clear hK;have hm:=mem_listed he;simp [go_sem,ptr,rslice, *] at hm;(try (subst hm;exact ⟨_,_,rfl,MFI.v hF,by simp⟩));(try (rcases hm with rfl | rfl | rfl <;> exact ⟨_,_,rfl,MFI.v hF,by simp⟩))));clear hK K e0 e1 e2 e3)
 exact Goes.stop fun w₁ h₁=>⟨hF.keep h₁.keep,rfl⟩
end
end Go.Proofs.YtjnkcibpkkjniaaGreat.Pool
namespace Go.Proofs.YtjnkcibpkkjniaaGreat.Pool
open Go.Conc Go.ConcN Go.Conc.Lib Go.ConcR.Gen Go.ConcN.Gen Go.Proofs.YtjnkcibpkkjniaaGreat.Sim
open Go.ConcR (KK wgBlock WgAt stA smA rd wr mk DC0)
section
variable {p:WI} {B:WB} {V W:Nat→Prop} {us:List Frame} {w:World}
set_option maxRecDepth 100000 in
set_option maxHeartbeats 4000000 in
theorem g_lay {RB DB:Nat} {i:Nat} {rep:Array Value} (hi:i < p.xl) (hsz:rep.size=p.xl * 2) (hn:RB≠B.bS∧RB≠B.bN∧RB≠B.bC∧RB≠B.bG∧RB≠p.sp) {sa:Option Addr} {sl sc:Nat} {sb:Bool} {v14 v15 v16 v17 v18 v19 v20 v21 v22:Value} (hW:W RB) (hF:MFI p B V RB (.cells rep 140) w) :
  Goes Tryz.prog true (RK Tryz.link.tWg B.Wg V) (DM V W) (fun g w=>MFI p B V RB (.cells ((rep.setIfInBounds (i * 2) (.slice sa sl sc)).setIfInBounds (i * 2+1) (.bool sb)) 140) w ∧
    g=ghead p B RB (ptr DB) (.chan (some B.CB)) (.chan (some B.CF)) v14 v15 v16 v17 v18 v19 v20 v21 v22 (.agg #[.slice sa sl sc, .bool sb]) (.pointer (some ⟨RB,i * 2,none⟩)) us) 14
   (G (gaf.at ⟨GT p B RB (ptr DB) (.chan (some B.CB)) (.chan (some B.CF)) v14 v15 v16 v17 v18 v19 v20 v21 v22 (.agg #[.slice sa sl sc, .bool sb]) (.pointer (some ⟨RB,i * 2,none⟩)),[]⟩ (.inRegion s6ops [6]::skk)) us) w:=by
 simp only [ghead,GT,s4ops,s4rest,s5ops,s6ops,skk,labody,galoop,gabody,Tryz.f63,Option.getD_some]
 (refine Goes.step rfl (fun _ h₁=>?_);replace hF:=MFI.keep hF (RK.keep h₁);clear h₁)
 refine goes_oper_k rfl rfl (by decide) (fun K hK=>?_)
 have e0:=(cell_of hF.o (i * 2)).trans (Array.getElem?_eq_getElem (by omega))
 have e1:=(cell_of hF.o (i * 2+1)).trans (Array.getElem?_eq_getElem (by omega))
 have z0:=frozen_of hF.o (i * 2)
 have z1:=frozen_of hF.o (i * 2+1)
 go_simp
 refine hK _ _ ⟨⟨fun b hb=>?_,by simp [World.setCell],rfl,fun e he=>?_⟩,?_⟩
 ·have hne:RB≠b:=fun e=>hb (e▸hW)
  rw [set_other hne,set_other hne]
 ·clear hK
  have hm:=mem_listed he
  simp [go_sem,ptr,evs_slice,evs_bool,storedEv, *] at hm
  rcases hm with rfl | rfl <;> exact ⟨_,_,rfl,hF.v,fun _=>hW⟩
 clear hK K e0 e1 z0 z1
 have hF:=(⟨hF.f.keepBut (b:=RB) hn (fun x hx=>by
   have hne:RB≠x:=Ne.symm hx
   rw [set_other hne,set_other hne]),hF.v,set_block (set_block hF.o (i * 2) (.slice sa sl sc)) (i * 2+1) (.bool sb)⟩:MFI p B V RB _ _)
 ((refine Goes.step rfl (fun _ h₁=>?_);replace hF:=MFI.keep hF (RK.keep h₁);clear h₁);rw [stepG_region_end];simp only [goes_go];refine ⟨DM.nil,?_⟩)
 ((refine Goes.step rfl (fun _ h₁=>?_);replace hF:=MFI.keep hF (RK.keep h₁);clear h₁);rw [stepG_inBlock];simp only [goes_go];refine ⟨DM.nil,?_⟩)
 ((refine Goes.step rfl (fun _ h₁=>?_);replace hF:=MFI.keep hF (RK.keep h₁);clear h₁);rw [stepG_inBlock];simp only [goes_go];refine ⟨DM.nil,?_⟩)
 ((refine Goes.step rfl (fun _ h₁=>?_);replace hF:=MFI.keep hF (RK.keep h₁);clear h₁);rw [stepG_inLoop];simp only [goes_go];refine ⟨DM.nil,?_⟩)
 exact Goes.stop fun w₁ h₁=>⟨hF.keep h₁.keep,rfl⟩
end
end Go.Proofs.YtjnkcibpkkjniaaGreat.Pool
namespace Go.Proofs.YtjnkcibpkkjniaaGreat.Pool
open Go.Conc Go.ConcN Go.Proofs.YtjnkcibpkkjniaaGreat.Sim
variable [Scope]
theorem At.okv {X:Ctx} {s:St} {w:World} {a:Goroutine} (h:At X s w a) {i:Nat} (hi:i∈s.got):(X.J i).ok (s.D i).v:=by
 obtain ⟨n,gs,sl,t,hn⟩:=h
 have hl:=(hn.crew.list i).1 (List.mem_append_left _ hi)
 obtain ⟨g,_,hw,_⟩:=hn.crew.wk i hl.1
 have hs:=hl.2
 generalize s.D i=d at hw hs
 cases hw with
 | pre _ _=>simp at hs
 | ride _ _ _ _ _ _ _ _=>simp at hs
 | post _ _=>simp at hs
 | r0 _ h=>exact h.1
 | k1 _ h=>exact h.1
 | d1 _ h=>exact h.1
 | d2 _ h=>exact h.1
 | d3 _ h=>exact h.1
 | d4 _ h=>exact h.1
 | quit _ h=>exact h.1
end Go.Proofs.YtjnkcibpkkjniaaGreat.Pool
namespace Go.Proofs.YtjnkcibpkkjniaaGreat.Pool
open Go.Conc Go.ConcN Go.Conc.Lib Go.ConcR.Gen Go.ConcN.Gen Go.Proofs.YtjnkcibpkkjniaaGreat.Sim
open Go.ConcR (KK wgBlock WgAt stA smA rd wr mk DC0)
theorem Goes.carry {P:Program} {ty:TypeId} {Wg:Nat} {V W W':Nat→Prop} {Stop:Goroutine→World→Prop} {b:Nat} {o:Obj} (hV:V b) (hb:¬ W b) (hWW:∀ x,W x→W' x):∀ {m:Nat} {g:Goroutine} {w:World},w.heap[b]? = some o→Goes P true (RK ty Wg V) (DM V W) Stop m g w →
  Goes P true (RK ty Wg V) (DM V W') (fun g w=>Stop g w∧w.heap[b]? = some o) m g w:=by
 intro m
 induction m with
 | zero=>intro g w ho h;exact fun w₁ h₁=>⟨h w₁ h₁,(h₁.keep b hV).trans ho⟩
 | succ m ih =>
  intro g w ho h
  rcases h with h | ⟨hs,h⟩
  ·exact .inl fun w₁ h₁=>⟨h w₁ h₁,(h₁.keep b hV).trans ho⟩
  ·refine .inr ⟨hs,fun w₁ h₁=>?_⟩
   have:=h w₁ h₁
   revert this
   cases stepG P true g w₁ <;> simp only [GStep.goes,imp_self]
   rintro ⟨⟨d1,d2,d3,d4⟩,x⟩
   refine ⟨⟨fun y hy=>d1 y fun k=>hy (hWW y k),d2,d3,fun e he=>?_⟩,ih ((d1 b hb).trans ((h₁.keep b hV).trans ho)) x⟩
   obtain ⟨ad,wr,e1,e2,e3⟩:=d4 e he
   exact ⟨ad,wr,e1,e2,fun k=>hWW _ (e3 k)⟩
def lay (rep:Array Value) (i:Nat) (sa:Option Addr) (sl sc:Nat) (sb:Bool) :Array Value:=(rep.setIfInBounds (i * 2) (.slice sa sl sc)).setIfInBounds (i * 2+1) (.bool sb)
section
variable [Scope] {p:WI} {B:WB} {c:PC} {us:List Frame} {J:Nat→Work} {s:St} {w:World} {d:JD}
set_option maxHeartbeats 4000000 in
theorem gturn [Zeros Tryz.prog] [Codes Tryz.prog] (hX:(PX p B c J).Good) (hJ:d.is p B J) {RB:Nat} {rep:Array Value} {v8 v12 v13 v14 v15 v16 v17 v18 v19 v20 v21 v22 v23 v24:Value}
  (h:At (PX p B c J) s w (ghead p B RB v8 v12 v13 v14 v15 v16 v17 v18 v19 v20 v21 v22 v23 v24 us)) (ht:s.tag≠.sp) (hd:s.d0=0) (hF:MF p B s.V w) (hR:w.heap[RB]? = some (.cells rep 140)) (hRV:s.V RB) (hRW:s.W RB)
  (hRn:RB≠B.bS∧RB≠B.bN∧RB≠B.bC∧RB≠B.bG∧RB≠p.sp) (hsz:rep.size=p.xl * 2) :
  (∃ i sa sl sc sb s' w' v8 v12 v13 v14 v15 v16 v17 v18 v19 v20 v21 v22 v23 v24,At (PX p B c J) s' w' (ghead p B RB v8 v12 v13 v14 v15 v16 v17 v18 v19 v20 v21 v22 v23 v24 us)∧i < p.xl∧i ∉ s.got∧s'.got=s.got++[i]∧(s'.D i).v=.agg #[.slice sa sl sc, .bool sb] ∧
    w'.heap[RB]? = some (.cells (lay rep i sa sl sc sb) 140)∧s'.V RB∧s'.W RB∧s'.tag≠.sp∧s'.d0=0∧MF p B s'.V w'∧(∀ k∈s.got,(s'.D k).v=(s.D k).v)∧Far s s' w w') ∨
   ∃ s1 w1 s' w' v8 v15 v16 v17 v18 v19 v20 v21 v22 v23 v24,Same s s1 w w1∧MF p B s1.V w1∧w1.heap[RB]? = some (.cells rep 140) ∧
    Over (PX p B c J) s1 s' w1 (G (gaf.at ⟨GT p B RB v8 (.chan (some B.CB)) (.chan (some B.CF)) (.tuple #[.int .i64 1, .bool false,zdone,zfin]) v15 v16 v17 v18 v19 v20 v21 v22 v23 v24,[]⟩ [.inRegion s4ops [1,2,3], .code s4rest, .inBlock 1, .inLoop labody, .inBlock 0]) us) w':=by
 obtain ⟨s1,w1,a1,h1,q1,r1⟩:=h.walk hX (fun g w k=>by rw [k.1.2];rfl) (Goes.carry (W:=fun x=>s.W x∧x≠RB) (b:=RB) hRV (fun k=>k.2 rfl) (fun x k=>k.1) hR (g_toSel (us:=us) hF))
 obtain ⟨⟨f1,rfl⟩,R1⟩:=q1 w1 (RK.refl _)
 rw [←r1.V] at f1
 have hsel:=h1.select hX rfl (fun e=>ht (r1.sp.1 e)) (r1.d0.trans hd) (z1:=zdone) (z2:=zfin) (fun w₁ _=>g_select w₁)
 rcases hsel with ⟨i,s2,w2,h2,hi,k2⟩ | ⟨s2,w2,ho⟩
 ·refine .inl ?_
  have k1:=(Far.refl s w).same r1.V r1.W r1.heap
  have k3:Far s s2 w w2:=k1.same k2.V k2.W fun b hb _=>k2.heap b hb
  have hok:=h2.okv (i:=i) (by rw [k2.got];simp)
  obtain ⟨S0,eJ⟩:=hJ i hi
  have hok':(jobOf p B i (d.m i) (d.ρ i) (d.args i) (d.wS i) (d.R i) S0).ok (s2.D i).v:=by rw [←eJ];exact hok
  obtain ⟨sa,sl,sc,sb,hv⟩:∃ sa sl sc sb,(s2.D i).v=.agg #[.slice sa sl sc, .bool sb]:=hok'
  have hmsg:((PX p B c J).J i).msg (s2.D i).v=.agg #[.int .i64 i, .slice sa sl sc, .bool sb]:=by
   show (J i).msg (s2.D i).v=_
   rw [eJ,hv]
   rfl
  have e:=finish_sel (P:=Tryz.prog) (p:=p) (B:=B) (RB:=RB) (v8:=v8) (v14:=v14) (v15:=v15) (v16:=v16) (v17:=v17) (v18:=v18) (v19:=v19) (v20:=v20) (v21:=v21) (v22:=v22) (v23:=v23) (v24:=v24) (us:=us) 0 (.agg #[.int .i64 i, .slice sa sl sc, .bool sb]) true
  rw [res0] at e
  rw [hmsg] at h2
  have h2:At (PX p B c J) s2 w2 _:=e▸h2
  have hRV1:s1.V RB:=by rw [r1.V];exact hRV
  have hRV2:s2.V RB:=by rw [k2.V];exact hRV1
  have R2:=(k2.heap RB hRV1).trans R1
  have f2:MF p B s2.V w2:=by rw [k2.V];exact f1.keep k2.heap
  obtain ⟨s3,w3,a3,h3,q3,r3⟩:=h2.walk hX (fun g w k=>by rw [k.1.2];rfl) (Goes.carry (W:=fun x=>s2.W x∧x≠RB) (b:=RB) hRV2 (fun k=>k.2 rfl) (fun x k=>k.1) R2 (g_took (us:=us) f2))
  obtain ⟨⟨f3,rfl⟩,R3⟩:=q3 w3 (RK.refl _)
  have k4:=k3.same r3.V r3.W r3.heap
  have hRV3:s3.V RB:=by rw [r3.V];exact hRV2
  obtain ⟨s4,w4,DB,h4,r4⟩:=h3.new hX rfl (o:=.cells zdone.cells 155) (a':=fun b=>G (gaf.at ⟨GT p B RB (ptr b) (.chan (some B.CB)) (.chan (some B.CF)) (.tuple #[.int .i64 0, .bool true, .agg #[.int .i64 i, .slice sa sl sc, .bool sb],zfin]) (.int .i64 0) (.bool true) (.bool false) (.agg #[.int .i64 i, .slice sa sl sc, .bool sb]) v19 v20 v21 v22 v23 v24,[]⟩ (.inRegion s5ops [2]::.code (.region 6 s6ops false)::skk)) us) (fun w₁=>by
   rw [stepG_alloc (b:=gaf) (ops:=s5ops) (i:=1) (elem:=155) rfl rfl (by decide) rfl Tryz.zeroValue155 (ev_zero (by kernel_rfl))]
   rfl)
  have k5:=k4.new r4
  have hout:∀ b,s3.V b→DB≠b:=fun b hb e=>r4.out (e▸hb)
  rw [←r3.V] at f3
  have f4:MF p B s4.V w4:=by
   have:=f3.keep (w₁:=w4) r4.heap
   have v:∀ b,s3.V b→s4.V b:=fun b hb=>by rw [r4.V];exact .inl hb
   exact ⟨this.s,this.n,this.c,this.g,this.id,this.x,v _ f3.vs.1,v _ f3.vs.2.1,v _ f3.vs.2.2.1,v _ f3.vs.2.2.2.1,v _ f3.vs.2.2.2.2⟩
  have R4:=(r4.heap RB hRV3).trans R3
  have hRV4:s4.V RB:=by rw [r4.V];exact .inl hRV3
  have hDV:s4.V DB:=by rw [r4.V];exact .inr rfl
  have hDW:s4.W DB:=by rw [r4.W];exact .inr rfl
  obtain ⟨s5,w5,a5,h5,q5,r5⟩:=h4.walk hX (fun g w k=>by rw [k.1.2];rfl) (Goes.carry (W:=fun x=>s4.W x∧x≠RB) (b:=RB) hRV4 (fun k=>k.2 rfl) (fun x k=>k.1) R4 (g_store (us:=us) (RB:=RB) hi ⟨hout _ f3.vs.1,hout _ f3.vs.2.1,hout _ f3.vs.2.2.1,hout _ f3.vs.2.2.2.1,hout _ f3.vs.2.2.2.2⟩ ⟨hDW,hout _ hRV3⟩ ⟨f4,hDV,r4.new⟩))
  obtain ⟨⟨f5,rfl⟩,R5⟩:=q5 w5 (RK.refl _)
  have k6:=k5.same r5.V r5.W r5.heap
  have hRV5:s5.V RB:=by rw [r5.V];exact hRV4
  have hRW5:s5.W RB:=by rw [r5.W,r4.W,r3.W,k2.W,r1.W];exact .inl hRW
  have f5':MF p B s5.V w5:=by rw [r5.V];exact f5.f
  obtain ⟨s6,w6,a6,h6,q6,r6⟩:=h5.walk hX (fun g w k=>by rw [k.2];rfl) (g_lay (us:=us) (DB:=DB) (W:=s5.W) hi hsz hRn hRW5 ⟨f5',hRV5,R5⟩)
  obtain ⟨f6,rfl⟩:=q6 w6 (RK.refl _)
  have k7:=k6.same r6.V r6.W r6.heap
  have hg:∀ k∈s2.got,(s6.D k).v=(s2.D k).v:=fun k hk=>(r6.val k (by rw [r5.got,r4.got,r3.got];exact hk)).trans ((r5.val k (by rw [r4.got,r3.got];exact hk)).trans ((r4.val k (by rw [r3.got];exact hk)).trans (r3.val k hk)))
  refine ⟨i,sa,sl,sc,sb,s6,w6,_,_,_,_,_,_,_,_,_,_,_,_,_,_,h6,hi,by have:=k2.new;rw [r1.got] at this;exact this,by rw [r6.got,r5.got,r4.got,r3.got,k2.got,r1.got],by rw [hg i (by rw [k2.got];simp)];exact hv,f6.o,by rw [r6.V];exact hRV5,by rw [r6.W];exact hRW5,fun e=>ht ((r6.sp.trans (r5.sp.trans (r4.sp.trans (r3.sp.trans (k2.sp.trans r1.sp))))).1 e),r6.d0.trans (r5.d0.trans (r4.d0.trans (r3.d0.trans (k2.d0.trans (r1.d0.trans hd))))),by rw [r6.V];exact f6.f,fun k hk=>?_,k7⟩
  have hk1:k∈s1.got:=by rw [r1.got];exact hk
  exact (hg k (by rw [k2.got];exact List.mem_append_left _ hk1)).trans ((k2.val k hk1).trans (r1.val k hk))
 ·refine .inr ⟨s1,w1,s2,w2,v8,v15,v16,v17,v18,v19,v20,v21,v22,v23,v24,r1,f1,R1,?_⟩
  have e:=finish_sel (P:=Tryz.prog) (p:=p) (B:=B) (RB:=RB) (v8:=v8) (v14:=v14) (v15:=v15) (v16:=v16) (v17:=v17) (v18:=v18) (v19:=v19) (v20:=v20) (v21:=v21) (v22:=v22) (v23:=v23) (v24:=v24) (us:=us) 1 zfin false
  rw [res1] at e
  rw [←e]
  exact ho
end
end Go.Proofs.YtjnkcibpkkjniaaGreat.Pool
namespace Go.Proofs.YtjnkcibpkkjniaaGreat.Pool
open Go.Conc Go.ConcN Go.Conc.Lib Go.ConcR.Gen Go.ConcN.Gen Go.Proofs.YtjnkcibpkkjniaaGreat.Sim
open Go.ConcR (KK wgBlock WgAt stA smA rd wr mk DC0)
def left (n:Nat) (l:List Nat):Nat:=((List.range n).filter fun i=>!l.contains i).length
theorem left_lt {n i:Nat} {l:List Nat} (hi:i < n) (hn:i ∉ l):left n (l++[i]) < left n l:=by
 unfold left
 have hsub:((List.range n).filter fun j=>!(l++[i]).contains j)=((List.range n).filter fun j=>!l.contains j).filter (fun j=>decide (j≠i)):=by
  rw [List.filter_filter]
  refine List.filter_congr fun j _=>?_
  by_cases e:j=i <;> simp [e]
 rw [hsub]
 have hmem:i∈(List.range n).filter fun j=>!l.contains j:=List.mem_filter.2 ⟨List.mem_range.2 hi,by simpa using hn⟩
 refine Nat.lt_of_le_of_ne (List.length_filter_le _ _) fun e=>?_
 have:=List.length_filter_eq_length_iff.1 e i hmem
 simp at this
structure Laid (p:WI) (rep:Array Value) (s:St):Prop where
 size:rep.size=p.xl * 2
 at_:∀ k∈s.got,k < p.xl∧∃ sa sl sc sb,(s.D k).v=.agg #[.slice sa sl sc, .bool sb]∧rep[k * 2]? = some (.slice sa sl sc)∧rep[k * 2+1]? = some (.bool sb)
theorem lay_size {rep:Array Value} {i:Nat} {sa:Option Addr} {sl sc:Nat} {sb:Bool}:(lay rep i sa sl sc sb).size=rep.size:=by simp [lay]
theorem lay_own {rep:Array Value} {i:Nat} {sa:Option Addr} {sl sc:Nat} {sb:Bool} (h:i * 2+1 < rep.size):(lay rep i sa sl sc sb)[i * 2]? = some (.slice sa sl sc)∧(lay rep i sa sl sc sb)[i * 2+1]? = some (.bool sb):=by
 unfold lay
 refine ⟨?_,?_⟩
 ·rw [Array.getElem?_setIfInBounds_ne (by omega),Array.getElem?_setIfInBounds_self_of_lt (by omega)]
 ·rw [Array.getElem?_setIfInBounds_self_of_lt (by simp;omega)]
theorem lay_other {rep:Array Value} {i x:Nat} {sa:Option Addr} {sl sc:Nat} {sb:Bool} (h:x < i * 2∨i * 2+1 < x):(lay rep i sa sl sc sb)[x]? = rep[x]?:=by
 unfold lay
 rw [Array.getElem?_setIfInBounds_ne (by omega),Array.getElem?_setIfInBounds_ne (by omega)]
section
variable [Scope] {p:WI} {B:WB} {c:PC} {us:List Frame} {J:Nat→Work} {d:JD}
set_option maxHeartbeats 2000000 in
theorem gloop [Zeros Tryz.prog] [Codes Tryz.prog] (hX:(PX p B c J).Good) (hJ:d.is p B J) {RB:Nat} (hRn:RB≠B.bS∧RB≠B.bN∧RB≠B.bC∧RB≠B.bG∧RB≠p.sp):∀ (μ:Nat) {s:St} {w:World} {rep:Array Value} {v8 v12 v13 v14 v15 v16 v17 v18 v19 v20 v21 v22 v23 v24:Value},left p.xl s.got=μ →
  At (PX p B c J) s w (ghead p B RB v8 v12 v13 v14 v15 v16 v17 v18 v19 v20 v21 v22 v23 v24 us)→s.tag≠.sp→s.d0=0→MF p B s.V w→w.heap[RB]? = some (.cells rep 140)→s.V RB→s.W RB→Laid p rep s →
  ∃ s1 w1 s' w' rep' v8 v15 v16 v17 v18 v19 v20 v21 v22 v23 v24,Far s s1 w w1∧s1.V RB∧s1.W RB∧MF p B s1.V w1∧w1.heap[RB]? = some (.cells rep' 140)∧Laid p rep' s1 ∧
    Over (PX p B c J) s1 s' w1 (G (gaf.at ⟨GT p B RB v8 (.chan (some B.CB)) (.chan (some B.CF)) (.tuple #[.int .i64 1, .bool false,zdone,zfin]) v15 v16 v17 v18 v19 v20 v21 v22 v23 v24,[]⟩ [.inRegion s4ops [1,2,3], .code s4rest, .inBlock 1, .inLoop labody, .inBlock 0]) us) w':=by
 intro μ
 induction μ using Nat.strongRecOn with
 | _ μ ih =>
  intro s w rep v8 v12 v13 v14 v15 v16 v17 v18 v19 v20 v21 v22 v23 v24 hμ h ht hd hF hR hRV hRW hL
  rcases gturn hX hJ h ht hd hF hR hRV hRW hRn hL.size with ⟨i,sa,sl,sc,sb,s2,w2,_,_,_,_,_,_,_,_,_,_,_,_,_,_,h2,hi,hni,hg,hv,hR2,hRV2,hRW2,ht2,hd2,hF2,hval,hfar⟩ | ⟨s1,w1,s2,w2,_,_,_,_,_,_,_,_,_,_,_,r1,f1,R1,ho⟩
  ·have hsz:=hL.size
   have hL2:Laid p (lay rep i sa sl sc sb) s2:=⟨lay_size.trans hL.size,fun k hk=>by
    rw [hg,List.mem_append,List.mem_singleton] at hk
    by_cases e:k=i
    ·subst e
     obtain ⟨l1,l2⟩:=lay_own (rep:=rep) (i:=k) (sa:=sa) (sl:=sl) (sc:=sc) (sb:=sb) (by omega)
     exact ⟨hi,sa,sl,sc,sb,hv,l1,l2⟩
    ·have hk':=hk.resolve_right e
     obtain ⟨b1,xa,xl,xc,xb,b2,b3,b4⟩:=hL.at_ k hk'
     exact ⟨b1,xa,xl,xc,xb,(hval k hk').trans b2,(lay_other (by omega)).trans b3,(lay_other (by omega)).trans b4⟩⟩
   obtain ⟨s3,w3,s4,w4,rep',a1,a2,a3,a4,a5,a6,a7,a8,a9,a10,a11,k1,k2,k3,k4,k5,k6,k7⟩:=ih (left p.xl s2.got) (by rw [←hμ,hg];exact left_lt hi hni) rfl h2 ht2 hd2 hF2 hR2 hRV2 hRW2 hL2
   exact ⟨s3,w3,s4,w4,rep',a1,a2,a3,a4,a5,a6,a7,a8,a9,a10,a11,⟨fun b hb=>k1.V b (hfar.V b hb),fun b hb x=>hfar.W b hb (k1.W b (hfar.V b hb) x),fun b hb hw=>(k1.heap b (hfar.V b hb) fun x=>hw (hfar.W b hb x)).trans (hfar.heap b hb hw)⟩,k2,k3,k4,k5,k6,k7⟩
  ·refine ⟨s1,w1,s2,w2,rep,_,_,_,_,_,_,_,_,_,_,_,(Far.refl s w).same r1.V r1.W r1.heap,by rw [r1.V];exact hRV,by rw [r1.W];exact hRW,f1,R1,⟨hL.size,fun k hk=>?_⟩,ho⟩
   rw [r1.got] at hk
   obtain ⟨b1,xa,xl,xc,xb,b2,b3⟩:=hL.at_ k hk
   exact ⟨b1,xa,xl,xc,xb,(r1.val k hk).trans b2,b3⟩
end
end Go.Proofs.YtjnkcibpkkjniaaGreat.Pool
namespace Go.Proofs.YtjnkcibpkkjniaaGreat.Pool
open Go.Conc Go.ConcN Go.Conc.Lib Go.ConcR.Gen Go.ConcN.Gen Go.Proofs.YtjnkcibpkkjniaaGreat.Sim
open Go.ConcR (KK wgBlock WgAt stA smA rd wr mk DC0)
def Under (p:WI) (B:WB) (cs:List Frame) (us:List Frame):Prop:=∃ a listed fuel t,Tab r10ops (v10 p B undef) (fix10 B) 36 listed a∧7∈Region.ready .any r10ops listed∧listed.getD 8 false=false∧unl r10ops listed≤fuel+1 ∧
 us=gunder a (Region.linearise.go .any r10ops fuel t (listed.setIfInBounds 7 true) []) cs
section
variable [Scope] {p:WI} {B:WB} {c:PC} {cs:List Frame} {J:Nat→Work} {s:St} {w:World} {a:Goroutine} {d:JD}
set_option maxHeartbeats 600000 in
theorem gstart [Zeros Tryz.prog] [Codes Tryz.prog] (hX:(PX p B c J).Good) (hfew:p.xl < 2147483647) (h:At (PX p B c J) s w a) (hg:AtGather p B s.V cs a w) (ht:s.tag≠.sp) (hd:s.d0=0) :
  ∃ RB us s' w' rep,Under p B cs us∧At (PX p B c J) s' w' (ghead p B RB undef undef undef undef undef undef undef undef undef undef undef undef undef undef us)∧MF p B s'.V w'∧w'.heap[RB]? = some (.cells rep 140)∧rep.size=p.xl * 2∧s'.V RB∧s'.W RB ∧
   (RB≠B.bS∧RB≠B.bN∧RB≠B.bC∧RB≠B.bG∧RB≠p.sp)∧s'.tag≠.sp∧s'.d0=0∧s'.got=s.got∧Far s s' w w'∧¬ s.V RB∧Scope.base≤RB:=by
 obtain ⟨s1,w1,a1,h1,q1,r1⟩:=h.walk hX (fun g w k=>by obtain ⟨_,a,l,f,t,_,_,_,_,e⟩:=k;rw [e];rfl) (g_toMake (W:=s.W) hg)
 obtain ⟨f1,aa,listed,fuel,t,e1,e2,e3,e4,rfl⟩:=q1 w1 (RK.refl _)
 have k1:=(Far.refl s w).same r1.V r1.W r1.heap
 obtain ⟨ti,hti,hbytes⟩:=bytes_of (P:=Tryz.prog) (t:=140) (n:=32) (by kernel_rfl)
 have hsz:((Tryz.prog.info? 140).map (·.size))=some 2:=by kernel_rfl
 have hzz:(((Tryz.prog.info? 140).bind (·.zero)).isSome)=true:=by kernel_rfl
 rw [hti] at hsz hzz
 simp only [Option.map_some,Option.some.injEq,Option.bind_some] at hsz hzz
 obtain ⟨z,hz⟩:=Option.isSome_iff_exists.1 hzz
 obtain ⟨s2,w2,RB,h2,r2⟩:=h1.new hX rfl (o:=.cells (madeCells z.cells (p.xl * ti.size)) 140) (a':=fun b=>G (gaf.at ⟨#[.chan (some B.CB), .chan (some B.CF), .int .i64 p.xl,undef,undef,undef, .slice none 0 0,undef,undef,undef, .int .i64 p.xl,rslice p b,undef,undef,undef,undef,undef,undef,undef,undef,undef,undef,undef,undef,undef,undef,undef,undef,undef,undef,undef,undef,undef,undef,undef,undef,undef,undef,undef],[]⟩ (.inRegion ga1ops [2]::[.code galoop])) (gunder aa (Region.linearise.go .any r10ops fuel t (listed.setIfInBounds 7 true) []) cs)) (fun w₁=>by
  rw [stepG_makeSlice (b:=gaf) (ops:=ga1ops) (i:=1) (t:=93) (e:=140) (x:=.tmp 10) (n:=p.xl) (a:=⟨#[.chan (some B.CB), .chan (some B.CF), .int .i64 p.xl,undef,undef,undef, .slice none 0 0,undef,undef,undef, .int .i64 p.xl]++Array.replicate 28 undef,[]⟩) rfl rfl (by decide) rfl (by simp [Act.eval]) Tryz.underlying93 hti hz (by rw [hbytes];omega) (by omega)]
  walk_nrm
  rfl)
 have k2:=k1.new r2
 have v2:∀ b,s.V b→s2.V b:=k2.V
 have hout:∀ b,s.V b→RB≠b:=fun b hb e=>r2.out (by rw [r1.V,e];exact hb)
 have f2:MF p B s2.V w2:=by
  have:=f1.keep (w₁:=w2) fun b hb=>r2.heap b (by rw [r1.V];exact hb)
  exact ⟨this.s,this.n,this.c,this.g,this.id,this.x,v2 _ f1.vs.1,v2 _ f1.vs.2.1,v2 _ f1.vs.2.2.1,v2 _ f1.vs.2.2.2.1,v2 _ f1.vs.2.2.2.2⟩
 have hV2:s2.V RB:=by rw [r2.V];exact .inr rfl
 have hW2:s2.W RB:=by rw [r2.W];exact .inr rfl
 obtain ⟨s3,w3,a3,h3,q3,r3⟩:=h2.walk hX (fun g w k=>by rw [k.1.2];rfl) (Goes.carry (W:=fun x=>s2.W x∧x≠RB) (b:=RB) hV2 (fun k=>k.2 rfl) (fun x k=>k.1) r2.new (g_enter (RB:=RB) f2))
 obtain ⟨⟨f3,rfl⟩,R3⟩:=q3 w3 (RK.refl _)
 have k3:=k2.same r3.V r3.W r3.heap
 exact ⟨RB,_,s3,w3,_,⟨aa,listed,fuel,t,e1,e2,e3,e4,rfl⟩,h3,by rw [r3.V];exact f3,R3,by rw [size_madeCells,hsz],by rw [r3.V];exact hV2,by rw [r3.W];exact hW2,
  ⟨hout _ f1.vs.1,hout _ f1.vs.2.1,hout _ f1.vs.2.2.1,hout _ f1.vs.2.2.2.1,hout _ f1.vs.2.2.2.2⟩,fun e=>ht (r1.sp.1 (r2.sp.1 (r3.sp.1 e))),r3.d0.trans (r2.d0.trans (r1.d0.trans hd)),r3.got.trans (r2.got.trans r1.got),k3,fun e=>hout _ e rfl,r2.base⟩
end
end Go.Proofs.YtjnkcibpkkjniaaGreat.Pool
namespace Go.Proofs.YtjnkcibpkkjniaaGreat.Pool
open Go.Conc Go.ConcN Go.Conc.Lib Go.ConcR.Gen Go.ConcN.Gen Go.Proofs.YtjnkcibpkkjniaaGreat.Sim
open Go.ConcR (KK wgBlock WgAt stA smA rd wr mk DC0)
variable [Scope]
theorem glues (P:Program) (pk:Machine→Nat×Nat×Option (Nat×Nat)) (m0:Machine) (t0:Trace) (B:Nat):∃ Gt:Nat→Tape,∀ i n j q,(segOf P pk (B+i) m0 t0 n).1+j < (segOf P pk (B+i) m0 t0 n).2 →
  Gt i (sums (segOf P pk (B+i) m0 t0) n+j) q=tapeOf P m0 t0 n ((segOf P pk (B+i) m0 t0 n).1+j) q:=by
 have h:=fun i=>glue (tapeOf P m0 t0) (segOf P pk (B+i) m0 t0)
 exact ⟨fun i=>(h i).choose,fun i=>(h i).choose_spec⟩
structure Jobs (p:WI) (d:JD) (Shun:Loc→Prop) (V0:Nat→Prop) (w0:World):Prop where
 good:∀ i,i < p.xl→∀ B S,(jobOf p B i (d.m i) (d.ρ i) (d.args i) (d.wS i) (d.R i) S).Good Tryz.prog
 rel:∀ i,i < p.xl→HR (d.ρ i) (d.wS i) w0
 lt:∀ i,i < p.xl→∀ b pl,d.ρ i b=some pl→pl.block < w0.heap.size∧¬ V0 pl.block∧∀ l,InBlock pl.block l→¬ Shun l
 apart:∀ i i',i < p.xl→i' < p.xl→i≠i'→Apart2 (d.ρ i) (d.ρ i')
 m:∀ i,i < p.xl→w0.cell? ⟨p.nb,p.no+i,none⟩=some (d.m i)
structure Olds (p:WI) (Shun:Loc→Prop) (V0:Nat→Prop) (w0:World):Prop where
 v:∀ b,V0 b→b < w0.heap.size∧∀ l,InBlock b l→¬ Shun l
 sp:V0 p.sp
 nb:V0 p.nb
 mem:∀ l,Shun l→l.isMemory=true
 low:∀ l b,Shun l→InBlock b l→b < w0.heap.size
 base:Scope.base≤w0.heap.size
theorem CAnch.running {Wg bG CF:Nat} {g:Goroutine} {w:World} (h:CAnch Wg bG CF g w):g.status=.running:=by
 obtain ⟨_,e,_⟩:=h
 rw [e];rfl
set_option maxHeartbeats 4000000 in
theorem to_over [Zeros Tryz.prog] [Codes Tryz.prog] (hsy:Scope.sync=false) {p:WI} {d:JD} {Shun:Loc→Prop} {V0:Nat→Prop} {w0:World} {cs:List Frame} {gs:Array Goroutine} {sl:Option (Nat×Nat)} {t:Trace} {q:Nat→Nat}
  (h0:gs[0]? = some (G (wf.at ⟨#[p.s,p.inn]++Array.replicate 34 undef,[]⟩ [.code (Tryz.f35.body.getD .skip)]) cs)) (hL:Leavers Tryz.prog t gs q) (hP:Past Shun w0.heap.size t)
  (hF:WIF p w0) (hln:p.xl≤p.nl) (hO:Olds p Shun V0 w0) (hJ:Jobs p d Shun V0 w0) :
  ∃ N0 c J RB us s1 w1 s' w' rep v8 v15 v16 v17 v18 v19 v20 v21 v22 v23 v24,let B:=WB.from w0.heap.size
   runNT Tryz.prog N0 (crowd gs w0 sl) t=(.next c.m0,c.t0)∧c.Shun=Shun∧d.is p B J∧Under p B cs us ∧
   (∀ b,V0 b→s1.V b∧w1.heap[b]? = w0.heap[b]?)∧s1.V RB∧w1.heap[RB]? = some (.cells rep 140)∧Laid p rep s1∧MF p B s1.V w1 ∧
   (RB≠B.bS∧RB≠B.bN∧RB≠B.bC∧RB≠B.bG∧RB≠p.sp)∧¬ V0 RB∧Scope.base≤RB ∧
   Over (PX p B c J) s1 s' w1 (G (gaf.at ⟨GT p B RB v8 (.chan (some B.CB)) (.chan (some B.CF)) (.tuple #[.int .i64 1, .bool false,zdone,zfin]) v15 v16 v17 v18 v19 v20 v21 v22 v23 v24,[]⟩ [.inRegion s4ops [1,2,3], .code s4rest, .inBlock 1, .inLoop labody, .inBlock 0]) us) w':=by
 obtain ⟨bS,h1⟩:∃ x,EqN x (w0.heap.size+0):=⟨_,rfl⟩
 obtain ⟨bN,h2⟩:∃ x,EqN x (w0.heap.size+1):=⟨_,rfl⟩
 obtain ⟨CB,h3⟩:∃ x,EqN x (w0.heap.size+2):=⟨_,rfl⟩
 obtain ⟨bC,h4⟩:∃ x,EqN x (w0.heap.size+3):=⟨_,rfl⟩
 obtain ⟨CF,h5⟩:∃ x,EqN x (w0.heap.size+4):=⟨_,rfl⟩
 obtain ⟨bG,h6⟩:∃ x,EqN x (w0.heap.size+5):=⟨_,rfl⟩
 obtain ⟨Wg,h7⟩:∃ x,EqN x (w0.heap.size+6):=⟨_,rfl⟩
 have eB:WB.from w0.heap.size=⟨bS,bN,CB,bC,CF,bG,Wg⟩:=by
  unfold WB.from
  have a1:w0.heap.size=bS:=h1.eq.symm
  rw [←h2.eq,←h3.eq,←h4.eq,←h5.eq,←h6.eq,←h7.eq,a1]
 simp only [eB]
 have g1:=h1.eq;have g2:=h2.eq;have g3:=h3.eq;have g4:=h4.eq;have g5:=h5.eq;have g6:=h6.eq;have g7:=h7.eq
 have hpos:0 < gs.size:=(Array.getElem?_eq_some_iff.1 h0).1
 have hC0:Clean (Fresh ⟨gs.size,p.xl,Wg,CB,CF,Tryz.link.tWg, .tuple #[]⟩) t:=fun op hop=>Fresh.of_low (hP.seen op hop) (by show w0.heap.size≤Wg;omega) (by show w0.heap.size≤CB;omega) (by show w0.heap.size≤CF;omega)
 have hSn:∀ b,w0.heap.size≤b→∀ l,InBlock b l→¬ Shun l:=fun b hb l hl hs=>by have:=hO.low l b hs hl;omega
 obtain ⟨N0,gs1,g1',w1,sl1,t1,q1,r1,r2,r3,r4,r5,r6,rfl,hE⟩:=pre_work (p:=p) (N:=⟨gs.size,p.xl,Wg,CB,CF,Tryz.link.tWg, .tuple #[]⟩) (Shun:=Shun) (cs:=cs) (Q:=fun g w=>g=G (wf.at ⟨#[p.s,p.inn,ptr bS,ptr bN, .slice none 0 0,ptr bC,ptr bG,ptr Wg,undef,p.s,p.s, .pointer (some ⟨p.sp,p.so+1,none⟩), .slice (some ⟨p.xb,p.xo,none⟩) p.xl p.xc, .int .i64 p.xl, .chan (some CB), .chan (some CF),undef,undef,undef,undef,undef,undef,undef,undef,undef,undef,undef,undef,undef,undef,undef,undef,undef,undef,undef,undef],[]⟩ [.code wrest]) cs∧Ext w0 #[.cells #[p.s] 33, .cells #[p.inn] 47, .chan p.xl #[] false 0 0 false, .cells #[.chan (some CB)] 141, .chan 0 #[] false 0 0 false, .cells #[.chan (some CF)] 142,wgBlock Tryz.link.tWg 0 0] w) hF h1 h2 h3 h4 h5 h6 h7 rfl hSn (hO.v _ hO.sp).2
  (fun w' hE=>GetsA.done ⟨rfl,hE⟩) gs sl t q h0 hL hP hC0
 have hsz1:w1.heap.size=w0.heap.size+7:=by rw [hE.size];rfl
 obtain ⟨pk,hpk⟩:=picks Tryz.prog
 obtain ⟨Gt,hGt⟩:=glues Tryz.prog pk (crowd gs1 w1 sl1) t1 gs1.size
 have hold:∀ b,b < w0.heap.size→w1.heap[b]? = w0.heap[b]?:=fun b hb=>hE.old hb
 let B:WB:=⟨bS,bN,CB,bC,CF,bG,Wg⟩
 let c:PC:=⟨gs1.size,pk,crowd gs1 w1 sl1,t1,Gt,ScB bG,CAnch Wg bG CF,5,Shun⟩
 let J:Nat→Work:=fun i=>jobOf p B i (d.m i) (d.ρ i) (d.args i) (d.wS i) (d.R i) (fun _=>False)
 have hX:(PX p B c J).Good :=
  {sync:=hsy
   pos:=by show 0 < gs1.size;omega
   jobs:=fun i hi=>hJ.good i hi B _
   anch:=c_anch ⟨rfl,rfl,rfl⟩ (by show bG≠Wg;omega)
   anchR:=fun g w h=>h.running
   glue:=fun i n j q h=>hGt i n j q h
   few:=hF.few
   pks:=hpk
   nums:=⟨by show Wg≠CB;omega,by show Wg≠CF;omega,by show CB≠CF;omega⟩
   shun:=fun l hl=>⟨hO.mem l hl,fun hs=>by
    rcases hs.block with k | k | k
    ·exact hSn Wg (by omega) l k hl
    ·exact hSn CB (by omega) l k hl
    ·exact hSn CF (by omega) l k hl,fun k=>hSn Wg (by omega) l k hl,fun k=>hSn CB (by omega) l k hl,fun k=>hSn CF (by omega) l k hl⟩ }
 let V1:Nat→Prop:=fun b=>V0 b∨b=bS∨b=bN∨b=bC∨b=bG
 have hV1:∀ b,V1 b→b < w1.heap.size∧b≠Wg∧b≠CB∧b≠CF∧∀ l,InBlock b l→¬ Shun l:=fun b hb=>by
  rcases hb with k | k | k | k | k
  ·have:=hO.v b k
   exact ⟨by omega,by omega,by omega,by omega,this.2⟩
  all_goals exact ⟨by omega,by omega,by omega,by omega,hSn b (by omega)⟩
 have hZ:Zone (PX p B c J) (St.start (PX p B c J) q1 V1 fun _=>False) w1 :=
  {lt:=fun i hi b pl hb=>by
    have hb:d.ρ i b=some pl:=hb
    have k:=hJ.lt i hi b pl hb
    refine ⟨by omega,fun hv=>?_,by show pl.block≠Wg;omega,by show pl.block≠CB;omega,by show pl.block≠CF;omega⟩
    rcases hv with hv | hv | hv | hv | hv
    ·exact k.2.1 hv
    all_goals omega
   apart:=fun i i' hi hi' hne=>hJ.apart i i' hi hi' hne
   shun:=fun i hi b pl l hb hl=>(hJ.lt i hi b pl hb).2.2 l hl
   v:=fun b hb=>hV1 b hb
   wv:=fun b hb=>hb.elim
   sj:=fun i hi=>absurd hi (Nat.not_lt_zero i)
   sc:=fun e=>absurd rfl e
   nums:=⟨by show Wg < _;omega,by show CB < _;omega,by show CF < _;omega⟩
   old:=fun l b hs hl=>by have:=hO.low l b hs hl;omega }
 have hget:∀ i,w1.heap[w0.heap.size+i]? = (#[.cells #[p.s] 33, .cells #[p.inn] 47, .chan p.xl #[] false 0 0 false, .cells #[.chan (some CB)] 141, .chan 0 #[] false 0 0 false, .cells #[.chan (some CF)] 142,wgBlock Tryz.link.tWg 0 0]:Array Obj)[i]?:=hE.get
 have hCrew:Crew (PX p B c J) (St.start (PX p B c J) q1 V1 fun _=>False) 0 gs1 w1 t1:=by
  refine Crew.start hX rfl r4 r5 r6 ?_ ?_ ?_ (fun i hi=>?_) hZ ?_
  ·show WgAt Tryz.link.tWg Wg w1 0 0
   have:=hget 6
   rw [←g7] at this
   exact this
  ·show w1.heap[CB]? = _
   rw [g3];exact hget 2
  ·show w1.heap[CF]? = _
   rw [g5];exact hget 4
  ·exact HR.leaves hsy (hJ.rel i hi) (Leaves.block fun b pl hb=>hold _ (hJ.lt i hi b pl hb).1) hE.os
  ·have:=hO.base;show Scope.base≤w1.heap.size;omega
 have hAt:At (PX p B c J) (St.start (PX p B c J) q1 V1 fun _=>False) w1 _:=hCrew.at_ hX (show runNT Tryz.prog 0 _ _=_ from rfl) r3
 have hMF:MF p B V1 w1:=by
  have hsp:=hO.sp
  have hlt:=(hO.v _ hsp).1
  refine ⟨?_,?_,?_,?_,(hE.cellOld hlt _).trans hF.hid,(hE.cellOld hlt _).trans hF.hx, .inr (.inl rfl), .inr (.inr (.inl rfl)), .inr (.inr (.inr (.inl rfl))), .inr (.inr (.inr (.inr rfl))), .inl hsp⟩
  ·exact hE.cellAt (B:=bS) (i:=0) (o:=0) g1 rfl rfl
  ·exact hE.cellAt (B:=bN) (i:=1) (o:=0) g2 rfl rfl
  ·exact hE.cellAt (B:=bC) (i:=3) (o:=0) g4 rfl rfl
  ·exact hE.cellAt (B:=bG) (i:=5) (o:=0) g6 rfl rfl
 obtain ⟨s2,w2,a2,hA2,q2,k2⟩:=hAt.walk hX (fun g w k=>by rw [k.2];rfl) (m_enter (V:=V1) (W:=fun _=>False) (cs:=cs) hMF)
 obtain ⟨f2,rfl⟩:=q2 w2 (RK.refl _)
 have eV2:s2.V=V1:=k2.V
 have eW2:s2.W=fun _=>False:=k2.W
 have hh2:∀ b,V1 b→w2.heap[b]? = w1.heap[b]?:=fun b hb=>k2.heap b hb id
 have hd:d.is p B J:=fun i hi=>⟨_,rfl⟩
 obtain ⟨J3,s3,w3,v8,v22,v23,v24,v25,v26,hX3,hd3,hA3,ht3,hp3,hd03,hj3,hg3,hF3,hFar3⟩:=rounds hF.few hln p.xl 0 (Nat.zero_add _) hX hd hA2 (k2.sp.2 rfl) (k2.p.trans rfl) (k2.d0.trans rfl) (k2.j.trans rfl) (by rw [eV2];exact f2) (by rw [eV2];exact .inl hO.nb) (by rw [eW2];exact ⟨id,id,id,id,id,id⟩)
  (fun i hi=>(cell_of_block (hh2 _ (.inl hO.nb)) _).trans ((cell_of_block (hold _ (hO.v _ hO.nb).1) _).trans (hJ.m i hi)))
 obtain ⟨s4,w4,a4,hA4,hG4,hj4,hd4,ht4,hg4,hFar4⟩:=toGather hX3 rfl rfl hA3 ht3 hp3 hd03 hj3 hF3
 obtain ⟨RB,us,s5,w5,rep,hU,hA5,hF5,hR5,hsz5,hRV5,hRW5,hRn,ht5,hd5,hg5,hFar5,hout,hRB5⟩:=gstart hX3 hF.few hA4 hG4 ht4 hd4
 have hgot5:s5.got=[]:=hg5.trans (hg4.trans (hg3.trans k2.got))
 obtain ⟨s6,w6,s7,w7,rep',b8,b15,b16,b17,b18,b19,b20,b21,b22,b23,b24,hFar6,hRV6,hRW6,hF6,hR6,hL6,hOver⟩:=gloop hX3 hd3 hRn (left p.xl s5.got) rfl hA5 ht5 hd5 hF5 hR5 hRV5 hRW5 ⟨hsz5,fun k hk=>by rw [hgot5] at hk;cases hk⟩
 refine ⟨N0,c,J3,RB,us,s6,w6,s7,w7,rep',b8,b15,b16,b17,b18,b19,b20,b21,b22,b23,b24,r1,rfl,hd3,hU,fun b hb=>?_,hRV6,hR6,hL6,hF6,hRn,fun hv=>?_,hRB5,hOver⟩
 ·have v2:s2.V b:=by rw [eV2];exact .inl hb
  have n2:¬ s2.W b:=by rw [eW2];exact id
  have v3:=hFar3.V b v2
  have n3:¬ s3.W b:=fun k=>n2 (hFar3.W b v2 k)
  have v4:=hFar4.V b v3
  have n4:¬ s4.W b:=fun k=>n3 (hFar4.W b v3 k)
  have v5:=hFar5.V b v4
  have n5:¬ s5.W b:=fun k=>n4 (hFar5.W b v4 k)
  exact ⟨hFar6.V b v5,(hFar6.heap b v5 n5).trans ((hFar5.heap b v4 n4).trans ((hFar4.heap b v3 n3).trans ((hFar3.heap b v2 n2).trans ((hh2 b (.inl hb)).trans (hold b (hO.v b hb).1)))))⟩
 ·exact hout (hFar4.V _ (hFar3.V _ (by rw [eV2];exact .inl hv)))
end Go.Proofs.YtjnkcibpkkjniaaGreat.Pool
namespace Go.Proofs.YtjnkcibpkkjniaaGreat.Pool
open Go.Conc Go.ConcN Go.Proofs.YtjnkcibpkkjniaaGreat.Sim
open Go.ConcR (KK wgBlock WgAt stA smA rd wr DC0)
section
variable {P:Program} {m0:Machine} {t0:Trace} {Shun:Loc→Prop}
theorem turnO {n:Nat} {gs:Array Goroutine} {w:World} {sl:Option (Nat×Nat)} {t:Trace} {q:Nat→Nat} {g:Goroutine} (h:Beside P m0 t0 Shun n gs w sl t q g) (hg:g.status=.running) :
  ∃ d sl',(∃ gs' t' q',Beside P m0 t0 Shun (n+1) gs' (w.at d) sl' t' q' g∧gs'.size=gs.size∧sumTo gs.size q' < sumTo gs.size q) ∨
   stepT P (crowd gs w sl)=runT P (crowd gs (w.at d) sl') 0:=by
 have haw:∀ x∈gs,awake x:=by
  intro x hx
  obtain ⟨i,hi,rfl⟩:=Array.mem_iff_getElem.1 hx
  rcases Nat.eq_zero_or_pos i with rfl | hpos
  ·have:gs[0]=g:=by simpa [Array.getElem?_eq_getElem hi] using h.main
   rw [this];exact awake_of (.inl hg)
  ·exact awake_of ((h.leave.old i _ hpos (Array.getElem?_eq_getElem hi)).status.elim .inl fun x=>.inr (.inr x))
 obtain ⟨i,x,d,sl',hx,hxr,hst⟩:=crowd_pick (P:=P) (w:=w) (sl:=sl) haw ⟨0,g,h.main,hg⟩
 refine ⟨d,sl',?_⟩
 rcases Nat.eq_zero_or_pos i with rfl | hpos
 ·exact .inr hst
 ·refine .inl ?_
  have hq:=h.leave.old i x hpos hx
  have hlt:i < gs.size:=(Array.getElem?_eq_some_iff.1 hx).1
  have hi0:(i == 0)=false:=by simp;omega
  cases hqi:q i with
  | zero=>rw [hqi] at hq;rw [hq.1] at hxr;cases hxr
  | succ k =>
   rw [hqi] at hq
   rcases hq with ⟨hf,_⟩ | ⟨_,g',es,hm,hstp,hq'⟩
   ·rw [hf] at hxr;cases hxr
   have hrun:=runT_crowd_go (P:=P) (sl:=sl') (i:=i) hx (by rw [hi0];exact hstp (w.at d))
   have hsum:sumTo gs.size (upd q i k)+(k+1)=sumTo gs.size q+k:=by
    have:=sumTo_upd q k id hlt
    simpa [hqi] using this
   refine ⟨_,_,upd q i k,⟨run_next h.run (hst.trans hrun),?_,⟨fun j z hj hz=>?_,fun j hj=>?_⟩,h.past.mute (show i≠0 by omega) hm⟩,by simp,by omega⟩
   ·rw [Array.getElem?_setIfInBounds_ne (show i≠0 by omega),Array.getElem?_map,h.main]
    simp [woken_run hg]
   ·by_cases hji:i=j
    ·subst hji
     rw [Array.getElem?_setIfInBounds_self_of_lt (by simpa using hlt)] at hz
     obtain rfl:=Option.some.inj hz
     rw [upd_same,Deaf_own]
     exact hq'
    ·rw [Array.getElem?_setIfInBounds_ne hji,Array.getElem?_map] at hz
     obtain ⟨y,hy,rfl⟩:=Option.map_eq_some_iff.1 hz
     have hqj:=h.leave.old j y hj hy
     rw [woken_quitsD hqj,upd_ne q k (Ne.symm hji),Deaf_other t hji _ (fun op hop=>by obtain ⟨e,_,rfl⟩:=Go.Conc.mem_ofEvents hop;rfl)]
     exact hqj
   ·have hj':gs.size≤j:=by simpa using hj
    rw [Deaf_other t (g':=i) (show i≠j by omega) _ (fun op hop=>by obtain ⟨e,_,rfl⟩:=Go.Conc.mem_ofEvents hop;rfl)]
    exact h.leave.above j hj'
def Any:MemAct→Prop:=fun _=>True
theorem Clean.any (t:Trace):Clean Any t:=fun _ _=>trivial
theorem GetsA.recv {Q:Goroutine→World→Prop} {g g₂:Goroutine} {w:World} {c cap s r:Nat} {buf:Array Value} {closed tm blocking:Bool} {z:Value} {sh:CommShape} (hg:g.status=.running)
  (hstep:∀ d,stepG P true g (w.at d)=.comm g₂ #[rcase c z] blocking sh (w.at d) #[]) (hc:w.heap[c]? = some (.chan cap buf closed s r tm)) (hsome:0 < buf.size)
  (k:∀ d,GetsA P Any Shun Q (g₂.finishComm P #[rcase c z] sh 0 (buf.getD 0 undef) true) ((w.at d).setChan c cap (buf.extract 1 buf.size) closed s (r+1) tm)):GetsA P Any Shun Q g w:=by
 intro gs sl t q h0 hL hP _
 suffices key:∀ (μ:Nat) (d0:Nat) (gs:Array Goroutine) (sl:Option (Nat×Nat)) (t:Trace) (q:Nat→Nat),sumTo gs.size q=μ→gs[0]? = some g→Leavers P t gs q→Past Shun w.heap.size t →
   ∃ N gs' g' w' sl' t' q',runNT P N (crowd gs (w.at d0) sl) t=(.next (crowd gs' w' sl'),t')∧gs'.size=gs.size∧gs'[0]? = some g'∧Leavers P t' gs' q'∧Past Shun w'.heap.size t'∧Q g' w' by
  obtain ⟨N,gs',g',w',sl',t',q',r1,r2,r3,r4,r5,r6⟩:=key _ w.drawn gs sl t q rfl h0 hL hP
  exact ⟨N,gs',g',w',sl',t',q',r1,r2,r3,r4,r5,Clean.any _,r6⟩
 clear h0 hL hP
 intro μ
 induction μ using Nat.strongRecOn with
 | _ μ ih =>
  intro d0 gs sl t q hμ h0 hL hP
  have hb:Beside P (crowd gs (w.at d0) sl) t Shun 0 gs (w.at d0) sl t q g:=⟨rfl,h0,hL,hP⟩
  obtain ⟨d,sl',⟨gs2,t2,q2,hb2,hs2,hlt⟩ | hst⟩:=turnO hb hg
  ·obtain ⟨N,gs',g',w',sl2,t',q',r1,r2,r3⟩:=ih (sumTo gs2.size q2) (by rw [hs2,←hμ];exact hlt) d gs2 sl' t2 q2 rfl hb2.main hb2.leave hb2.past
   refine ⟨1+N,gs',g',w',sl2,t',q',?_,r2.trans hs2,r3⟩
   rw [runNT_add,show runNT P 1 (crowd gs (w.at d0) sl) t=_ from hb2.run]
   exact r1
  ·have hlt0:0 < gs.size:=(Array.getElem?_eq_some_iff.1 h0).1
   have hp:partners (gs.setIfInBounds 0 ph) c true=[]:=partners_nil fun j x hx=>by
    rcases getElem?_stand gs 0 j x hx with ⟨_,rfl⟩ | ⟨hj,hx⟩
    ·exact offersAt_ph _ _
    ·exact offersAt_of_not_blocked (by
      rcases (hL.old j x (by omega) hx).status with k | k <;> rw [k] <;> simp) _ _
   have hT:=crowd_recv_buf (P:=P) (sl:=sl') (i:=0) h0 (show stepG P (0 == 0) g (w.at d)=_ from hstep d) hc hsome hp
   rw [show ((w.at d0).at d)=w.at d from rfl] at hst
   generalize hgen:(MemOp.ofEvents 0 g.frame.fn g.frame.place #[]++#[({ g:=0,fn:=g₂.frame.fn,pos:=g₂.frame.place,act:=.recv c r cap }:MemOp),{ g:=0,fn:=g₂.frame.fn,pos:=g₂.frame.place,act:=.recvDone c r }])=u at hT
   have hu:∀ op∈u,op.g=0∧op.act.touch? = none∧(op.act≠.mark .disable∧op.act≠.mark .enable)∧op.act.low w.heap.size:=by
    intro op hop
    have hcl:c < w.heap.size:=(Array.getElem?_eq_some_iff.1 hc).1
    rw [←hgen] at hop
    have:op=({ g:=0,fn:=g₂.frame.fn,pos:=g₂.frame.place,act:=.recv c r cap }:MemOp)∨op={ g:=0,fn:=g₂.frame.fn,pos:=g₂.frame.place,act:=.recvDone c r }:=by simpa [ofEvents_eq] using hop
    rcases this with rfl | rfl
    ·exact ⟨rfl,rfl,⟨by simp,by simp⟩,hcl⟩
    ·exact ⟨rfl,rfl,⟨by simp,by simp⟩,hcl⟩
   have hD:∀ j,Deaf (t++u) j=Deaf t j:=fun j=>Deaf_still t j u fun op hop=>(hu op hop).2.2.1
   have hsz:((w.at d).setChan c cap (buf.extract 1 buf.size) closed s (r+1) tm).heap.size=w.heap.size:=by simp [World.setChan,World.at]
   have hP':Past Shun w.heap.size (t++u):=hP.app0 (fun op hop=>(hu op hop).1) (fun op hop b hb=>by rw [(hu op hop).2.1] at hb;cases hb) (hD 0) fun op hop=>(hu op hop).2.2.2
   have hL':Leavers P (t++u) (gs.setIfInBounds 0 (g₂.finishComm P #[rcase c z] sh 0 (buf.getD 0 undef) true)) q:=⟨fun j x hj hx=>by
    rw [Array.getElem?_setIfInBounds_ne (by omega)] at hx
    rw [hD]
    exact hL.old j x hj hx,fun j hj=>by
    rw [hD]
    exact hL.above j (by simpa using hj)⟩
   obtain ⟨N,gs',g',w',sl2,t',q',r1,r2,r3,r4,r5,_,r6⟩:=k d (gs.setIfInBounds 0 (g₂.finishComm P #[rcase c z] sh 0 (buf.getD 0 undef) true)) sl' (t++u) q (by rw [Array.getElem?_setIfInBounds_self_of_lt hlt0]) hL' (by rw [hsz];exact hP') (Clean.any _)
   refine ⟨1+N,gs',g',w',sl2,t',q',?_,by rw [r2];simp,r3,r4,r5,r6⟩
   have h1:runNT P 1 (crowd gs (w.at d0) sl) t=(.next (crowd (gs.setIfInBounds 0 (g₂.finishComm P #[rcase c z] sh 0 (buf.getD 0 undef) true)) ((w.at d).setChan c cap (buf.extract 1 buf.size) closed s (r+1) tm) sl'),t++u) :=
    run_next (t:=t) (n:=0) rfl (hst.trans hT)
   rw [runNT_add,h1]
   exact r1
end
end Go.Proofs.YtjnkcibpkkjniaaGreat.Pool
namespace Go.Proofs.YtjnkcibpkkjniaaGreat.Pool
open Go.Conc Go.ConcN Go.Conc.Lib Go.ConcR.Gen Go.ConcN.Gen Go.Proofs.YtjnkcibpkkjniaaGreat.Sim
open Go.ConcR (KK wgBlock WgAt stA smA rd wr mk DC0)
section
variable {P:Program} {Shun:Loc→Prop} {Q:Goroutine→World→Prop} {g:Goroutine} {w:World}
theorem GetsA.goes {ty:TypeId} {Wg:Nat} {V W:Nat→Prop} {Stop:Goroutine→World→Prop} (hV:∀ b,V b→∀ l,InBlock b l→¬ Shun l):∀ {m:Nat} {g:Goroutine} {w:World},(∀ b,V b→b < w.heap.size)→Goes P true (RK ty Wg V) (DM V W) Stop m g w →
  (∀ g' w',Stop g' w'→w'.heap.size=w.heap.size→w'.os=w.os→(∀ b,¬ W b→w'.heap[b]? = w.heap[b]?)→GetsA P Any Shun Q g' w')→GetsA P Any Shun Q g w:=by
 intro m
 induction m with
 | zero=>intro g w _ h k;exact k g w (h w (RK.refl w)) rfl rfl fun _ _=>rfl
 | succ m ih =>
  intro g w hB h k
  rcases h with h | ⟨hs,h⟩
  ·exact k g w (h w (RK.refl w)) rfl rfl fun _ _=>rfl
  ·refine GetsA.step (fun _ _=>trivial) hs fun d=>?_
   obtain ⟨a',w',es,e1,⟨d1,d2,d3,d4⟩,e3⟩:=goes_elim (h (w.at d) (RK.at w d))
   have hsz:w'.heap.size=w.heap.size:=d2
   refine ⟨a',w',es,e1,fun e he=>⟨?_,trivial⟩,Nat.le_of_eq hsz.symm,ih (fun b hb=>by rw [hsz];exact hB b hb) e3 fun g2 w2 k1 k2 k3 k4=>k g2 w2 k1 (k2.trans hsz) (k3.trans d3) fun b hb=>(k4 b hb).trans (d1 b hb)⟩
   obtain ⟨ad,wr,rfl,h1,_⟩:=d4 e he
   refine ⟨fun x hx hs=>?_,by simp,by simp,?_⟩
   ·have:x.loc=.cell ad:=by cases wr <;> simp [MemAct.ofEvent,MemAct.touch?] at hx <;> (subst hx;rfl)
    rw [this] at hs
    exact absurd hs (hV _ h1 _ rfl)
   ·show ad.block < _
    rw [hsz];exact hB _ h1
theorem GetsA.made {g':Goroutine} {o:Obj} {B:Nat} (hg:g.status=.running) (hB:EqN B w.heap.size) (h:∀ w₁:World,w₁.heap.size=w.heap.size→stepG P true g w₁=.go g' (w₁.alloc o) #[]) (k:∀ d,GetsA P Any Shun Q g' ((w.at d).alloc o)):GetsA P Any Shun Q g w :=
 GetsA.step (fun _ _=>trivial) hg fun d=>⟨g',_,#[],h (w.at d) rfl,by simp,by show w.heap.size≤(w.heap.push o).size;simp,k d⟩
end
structure DF (V:Nat→Prop) (b:Nat) (o:Obj) (w:World):Prop where
 v:V b
 o:w.heap[b]? = some o
theorem DF.keep {V:Nat→Prop} {b:Nat} {o:Obj} {w w₁:World} (h:DF V b o w) (k:∀ b,V b→w₁.heap[b]? = w.heap[b]?):DF V b o w₁:=⟨h.v,(k _ h.v).trans h.o⟩
noncomputable def dcode:Code:=match s4rest with
 | .block _ (.cond _ _ (.cond _ c _))=>c
 | _=>.skip
noncomputable def dloop:Code:=match dcode with
 | .seq (.seq _ (.block _ (.loop c))) _=>c
 | _=>.skip
noncomputable def dend:Code:=match dcode with
 | .seq _ c=>c
 | _=>.skip
noncomputable def s7ops:Array Oper:=match dcode with
 | .seq (.seq (.region _ ops _) _) _=>ops
 | _=>#[]
noncomputable def s9ops:Array Oper:=match dloop with
 | .seq _ (.seq _ (.seq (.block _ (.seq (.region _ ops _) _)) _))=>ops
 | _=>#[]
noncomputable def s10ops:Array Oper:=match dloop with
 | .seq _ (.seq _ (.seq (.block _ (.seq _ (.region _ ops _))) _))=>ops
 | _=>#[]
noncomputable def s11:Code:=match dloop with
 | .seq _ (.seq _ (.seq _ c))=>c
 | _=>.skip
noncomputable def dkk:List Item:=[.inBlock 2, .inBlock 1, .inLoop labody, .inBlock 0]
noncomputable def dkl:List Item:=.inLoop dloop::.inBlock 3::.code dend::dkk
def GD (p:WI) (B:WB) (RB:Nat) (v8 v15 v18 v19 v20 v21 v22 v23 v24:Value) (v9 v25 v26 v27 v28 v29 v30 v31 v32 v33 v34 v35 v36 v37:Value):Array Value :=
 #[.chan (some B.CB), .chan (some B.CF), .int .i64 p.xl,undef,undef,undef, .slice none 0 0,rslice p RB,v8,v9, .int .i64 p.xl,rslice p RB, .chan (some B.CB), .chan (some B.CF), .tuple #[.int .i64 1, .bool false,zdone,zfin], .int .i64 1, .bool false, .bool true,v18,v19,v20,v21,v22,v23,v24,v25,v26,v27,v28,v29,v30,v31,v32,v33,v34,v35,v36,v37,undef]
section
variable {p:WI} {B:WB} {V W:Nat→Prop} {us:List Frame} {w:World} {RB:Nat} {o:Obj} {v8 v15 v16 v17 v18 v19 v20 v21 v22 v23 v24 v9 v25 v26 v27 v28 v29 v30 v31 v32 v33 v34 v35 v36 v37:Value}
set_option maxRecDepth 100000 in
set_option maxHeartbeats 4000000 in
theorem d_start (hF:DF V RB o w) :
  Goes Tryz.prog true (RK Tryz.link.tWg B.Wg V) (DM V W) (fun g w=>DF V RB o w∧g=G (gaf.at ⟨GD p B RB v8 undef v18 v19 v20 v21 v22 v23 v24 undef (.chan (some B.CB)) undef undef undef undef undef undef undef undef undef undef undef undef,[]⟩ (.inRegion s7ops [1,2]::.code (.block 3 (.loop dloop))::.code dend::dkk)) us) 20
   (G (gaf.at ⟨GT p B RB v8 (.chan (some B.CB)) (.chan (some B.CF)) (.tuple #[.int .i64 1, .bool false,zdone,zfin]) v15 v16 v17 v18 v19 v20 v21 v22 v23 v24,[]⟩ [.inRegion s4ops [1,2,3], .code s4rest, .inBlock 1, .inLoop labody, .inBlock 0]) us) w:=by
 simp only [GT,GD,s4ops,s4rest,s7ops,dloop,dend,dcode,dkk,labody,galoop,gabody,Tryz.f63,Option.getD_some]
 ((refine Goes.step rfl (fun _ h₁=>?_);replace hF:=DF.keep hF (RK.keep h₁);clear h₁);refine goes_oper_k rfl rfl (by decide) (fun K hK=>?_);(try simp only [ptr,rslice]);go_simp;refine hK _ _ ⟨⟨fun _ _=>rfl,rfl,rfl,fun e he=>?_⟩,?_⟩;(focus (clear hK;have hm:=mem_listed he;simp [go_sem,ptr,rslice, *] at hm));clear hK K)
 ((refine Goes.step rfl (fun _ h₁=>?_);replace hF:=DF.keep hF (RK.keep h₁);clear h₁);refine goes_oper_k rfl rfl (by decide) (fun K hK=>?_);(try simp only [ptr,rslice]);go_simp;refine hK _ _ ⟨⟨fun _ _=>rfl,rfl,rfl,fun e he=>?_⟩,?_⟩;(focus (clear hK;have hm:=mem_listed he;simp [go_sem,ptr,rslice, *] at hm));clear hK K)
 ((refine Goes.step rfl (fun _ h₁=>?_);replace hF:=DF.keep hF (RK.keep h₁);clear h₁);refine goes_oper_k rfl rfl (by decide) (fun K hK=>?_);(try simp only [ptr,rslice]);go_simp;refine hK _ _ ⟨⟨fun _ _=>rfl,rfl,rfl,fun e he=>?_⟩,?_⟩;(focus (clear hK;have hm:=mem_listed he;simp [go_sem,ptr,rslice, *] at hm));clear hK K)
 ((refine Goes.step rfl (fun _ h₁=>?_);replace hF:=DF.keep hF (RK.keep h₁);clear h₁);rw [stepG_region_end];simp only [goes_go];refine ⟨DM.nil,?_⟩)
 ((refine Goes.step rfl (fun _ h₁=>?_);replace hF:=DF.keep hF (RK.keep h₁);clear h₁);rw [stepG_block];simp only [goes_go];refine ⟨DM.nil,?_⟩)
 (refine Goes.step rfl (fun _ h₁=>?_);replace hF:=DF.keep hF (RK.keep h₁);clear h₁)
 rw [stepG_cond (t:=false) rfl]
 simp only [goes_go,if_true,Bool.false_eq_true,if_false]
 refine ⟨DM.nil,?_⟩
 (refine Goes.step rfl (fun _ h₁=>?_);replace hF:=DF.keep hF (RK.keep h₁);clear h₁)
 rw [stepG_cond (t:=true) rfl]
 simp only [goes_go,if_true]
 refine ⟨DM.nil,?_⟩
 ((refine Goes.step rfl (fun _ h₁=>?_);replace hF:=DF.keep hF (RK.keep h₁);clear h₁);rw [stepG_seq];simp only [goes_go];refine ⟨DM.nil,?_⟩)
 ((refine Goes.step rfl (fun _ h₁=>?_);replace hF:=DF.keep hF (RK.keep h₁);clear h₁);rw [stepG_seq];simp only [goes_go];refine ⟨DM.nil,?_⟩)
 ((refine Goes.step rfl (fun _ h₁=>?_);replace hF:=DF.keep hF (RK.keep h₁);clear h₁);rw [stepG_region];simp only [goes_go,List.size_toArray,List.length_cons,List.length_nil,Nat.reduceAdd,Nat.zero_add,List.range,List.range.loop];refine ⟨DM.nil,?_⟩)
 ((refine Goes.step rfl (fun _ h₁=>?_);replace hF:=DF.keep hF (RK.keep h₁);clear h₁);refine goes_oper_k rfl rfl (by decide) (fun K hK=>?_);(try simp only [ptr,rslice]);go_simp;refine hK _ _ ⟨⟨fun _ _=>rfl,rfl,rfl,fun e he=>?_⟩,?_⟩;(focus (clear hK;have hm:=mem_listed he;simp [go_sem,ptr,rslice, *] at hm));clear hK K)
 exact Goes.stop fun w₁ h₁=>⟨hF.keep h₁.keep,rfl⟩
end
end Go.Proofs.YtjnkcibpkkjniaaGreat.Pool
namespace Go.Proofs.YtjnkcibpkkjniaaGreat.Pool
open Go.Conc Go.ConcN Go.Conc.Lib Go.ConcR.Gen Go.ConcN.Gen Go.Proofs.YtjnkcibpkkjniaaGreat.Sim
open Go.ConcR (KK wgBlock WgAt stA smA rd wr mk DC0)
theorem s7_1:∃ o ats,s7ops[1]? = some o∧o.dst=some 26∧o.op=.call { callee:=.builtin .len,args:=#[.tmp 25],argTypes:=ats }∧ats=#[181]∧o.guard=none:=⟨_,_,rfl,rfl,rfl,rfl,rfl⟩
section
variable {p:WI} {B:WB} {Shun:Loc→Prop} {V W:Nat→Prop} {us:List Frame} {w:World} {RB:Nat} {o:Obj} {v8 v15 v16 v17 v18 v19 v20 v21 v22 v23 v24 v9 v25 v26 v27 v28 v29 v30 v31 v32 v33 v34 v35 v36 v37:Value} {Q:Goroutine→World→Prop}
set_option maxHeartbeats 2000000 in
theorem d_len {cap s r:Nat} {buf:Array Value} (hc:w.heap[B.CB]? = some (.chan cap buf false s r false))
  (k:∀ d,GetsA Tryz.prog Any Shun Q (G (gaf.at ⟨GD p B RB v8 v15 v18 v19 v20 v21 v22 v23 v24 v9 (.chan (some B.CB)) (.int .i64 buf.size) v27 v28 v29 v30 v31 v32 v33 v34 v35 v36 v37,[]⟩ (.inRegion s7ops [2]::.code (.block 3 (.loop dloop))::.code dend::dkk)) us) (w.at d)) :
  GetsA Tryz.prog Any Shun Q (G (gaf.at ⟨GD p B RB v8 v15 v18 v19 v20 v21 v22 v23 v24 v9 (.chan (some B.CB)) v26 v27 v28 v29 v30 v31 v32 v33 v34 v35 v36 v37,[]⟩ (.inRegion s7ops [1,2]::.code (.block 3 (.loop dloop))::.code dend::dkk)) us) w:=by
 obtain ⟨o,ats,ho,od,oop,oa,og⟩:=s7_1
 have hu:=Tryz.underlying181
 have hlt:B.CB < w.heap.size:=(Array.getElem?_eq_some_iff.1 hc).1
 refine GetsA.step (fun _ _=>trivial) rfl fun d=>?_
 have hc':(w.at d).heap[B.CB]? = some (.chan cap buf false s r false):=hc
 have hr:(execOp (Act.eval ⟨GD p B RB v8 v15 v18 v19 v20 v21 v22 v23 v24 v9 (.chan (some B.CB)) v26 v27 v28 v29 v30 v31 v32 v33 v34 v35 v36 v37,[]⟩) o).run Tryz.prog (w.at d)=.ok (.value (.int .i64 buf.size)) (w.at d):=by
  unfold execOp
  simp [go_sem,oop,oa,Act.eval,GD,hc',run_underlying hu,Builtin.len_,goInt,run_getObj_chan _ _ hc']
 have he:(execOp (Act.eval ⟨GD p B RB v8 v15 v18 v19 v20 v21 v22 v23 v24 v9 (.chan (some B.CB)) v26 v27 v28 v29 v30 v31 v32 v33 v34 v35 v36 v37,[]⟩) o).events Tryz.prog (w.at d) #[]=#[⟨.obj B.CB,false,true⟩]:=by
  unfold execOp
  simp [go_sem,oop,oa,Act.eval,GD,hc',run_underlying hu,Builtin.len_,goInt,events_getObj_chan _ _ _ hc',run_getObj_chan _ _ hc']
 have hst:=stepG_value (main:=true) (b:=gaf) (k:=.code (.block 3 (.loop dloop))::.code dend::dkk) (cs:=us) (rest:=[2]) ho (by simp [Region.wanted,og]) (by decide) hr
 refine ⟨_,w.at d,#[⟨.obj B.CB,false,true⟩],by rw [hst];unfold Go.Conc.listed;rw [he,seen_eq (by kernel_rfl) (by simp)],fun e he=>⟨?_,trivial⟩,Nat.le_refl _,?_⟩
 ·rw [Array.mem_singleton] at he
  subst he
  refine ⟨fun x hx _=>?_,by simp,by simp,hlt⟩
  simp [MemAct.ofEvent,MemAct.touch?] at hx
  subst hx
  simp
 ·have e:(Act.put ⟨GD p B RB v8 v15 v18 v19 v20 v21 v22 v23 v24 v9 (.chan (some B.CB)) v26 v27 v28 v29 v30 v31 v32 v33 v34 v35 v36 v37,[]⟩ o.dst (.int .i64 buf.size))=⟨GD p B RB v8 v15 v18 v19 v20 v21 v22 v23 v24 v9 (.chan (some B.CB)) (.int .i64 buf.size) v27 v28 v29 v30 v31 v32 v33 v34 v35 v36 v37,[]⟩:=by
   rw [od];rfl
  rw [e]
  exact k d
end
end Go.Proofs.YtjnkcibpkkjniaaGreat.Pool
namespace Go.Proofs.YtjnkcibpkkjniaaGreat.Pool
open Go.Conc Go.ConcN Go.Conc.Lib Go.ConcR.Gen Go.ConcN.Gen Go.Proofs.YtjnkcibpkkjniaaGreat.Sim
open Go.ConcR (KK wgBlock WgAt stA smA rd wr mk DC0)
section
variable {p:WI} {B:WB} {Shun:Loc→Prop} {V W:Nat→Prop} {us:List Frame} {w:World} {RB DB:Nat} {o:Obj} {v8 v15 v16 v17 v18 v19 v20 v21 v22 v23 v24 v9 v25 v26 v27 v28 v29 v30 v31 v32 v33 v34 v35 v36 v37:Value} {Q:Goroutine→World→Prop}
noncomputable abbrev dfr (a:Array Value) (l:List Item) (us:List Frame):Goroutine:=G (gaf.at ⟨a,[]⟩ l) us
noncomputable def d9k:List Item:=.code (.region 10 s10ops false)::.inBlock 4::.code s11::dkl
set_option maxRecDepth 100000 in
set_option maxHeartbeats 4000000 in
theorem d_enter (hF:DF V RB o w) :
  Goes Tryz.prog true (RK Tryz.link.tWg B.Wg V) (DM V W) (fun g w=>DF V RB o w∧g=dfr (GD p B RB v8 v15 v18 v19 v20 v21 v22 v23 v24 v9 v25 v26 (.int .i64 0) v28 v29 v30 v31 v32 v33 v34 v35 v36 v37) (.code dloop::dkl) us) 12
   (dfr (GD p B RB v8 v15 v18 v19 v20 v21 v22 v23 v24 v9 v25 v26 v27 v28 v29 v30 v31 v32 v33 v34 v35 v36 v37) (.inRegion s7ops [2]::.code (.block 3 (.loop dloop))::.code dend::dkk) us) w:=by
 simp only [dfr,GD,s7ops,dkl,dloop,dend,dcode,dkk,s4rest,labody,galoop,gabody,Tryz.f63,Option.getD_some]
 ((refine Goes.step rfl (fun _ h₁=>?_);replace hF:=DF.keep hF (RK.keep h₁);clear h₁);refine goes_oper_k rfl rfl (by decide) (fun K hK=>?_);(try simp only [ptr,rslice]);go_simp;refine hK _ _ ⟨⟨fun _ _=>rfl,rfl,rfl,fun e he=>?_⟩,?_⟩;(focus (clear hK;have hm:=mem_listed he;simp [go_sem,ptr,rslice, *] at hm));clear hK K)
 ((refine Goes.step rfl (fun _ h₁=>?_);replace hF:=DF.keep hF (RK.keep h₁);clear h₁);rw [stepG_region_end];simp only [goes_go];refine ⟨DM.nil,?_⟩)
 ((refine Goes.step rfl (fun _ h₁=>?_);replace hF:=DF.keep hF (RK.keep h₁);clear h₁);rw [stepG_block];simp only [goes_go];refine ⟨DM.nil,?_⟩)
 ((refine Goes.step rfl (fun _ h₁=>?_);replace hF:=DF.keep hF (RK.keep h₁);clear h₁);rw [stepG_loop];simp only [goes_go];refine ⟨DM.nil,?_⟩)
 exact Goes.stop fun w₁ h₁=>⟨hF.keep h₁.keep,rfl⟩
set_option maxRecDepth 100000 in
set_option maxHeartbeats 4000000 in
theorem d_test {k N:Nat} (hk:k < N) (hF:DF V RB o w) :
  Goes Tryz.prog true (RK Tryz.link.tWg B.Wg V) (DM V W) (fun g w=>DF V RB o w∧g=dfr (GD p B RB v8 v15 v18 v19 v20 v21 v22 v23 v24 v9 v25 (.int .i64 N) (.int .i64 k) (.bool true) (.chan (some B.CB)) v30 v31 v32 v33 v34 v35 v36 v37) (.inRegion s9ops [1,2,3]::d9k) us) 14
   (dfr (GD p B RB v8 v15 v18 v19 v20 v21 v22 v23 v24 v9 v25 (.int .i64 N) (.int .i64 k) v28 v29 v30 v31 v32 v33 v34 v35 v36 v37) (.code dloop::dkl) us) w:=by
 have hlt:(k:Int) < (N:Int):=by omega
 simp only [dfr,GD,d9k,s9ops,s10ops,s11,s7ops,dkl,dloop,dend,dcode,dkk,s4rest,labody,galoop,gabody,Tryz.f63,Option.getD_some]
 ((refine Goes.step rfl (fun _ h₁=>?_);replace hF:=DF.keep hF (RK.keep h₁);clear h₁);rw [stepG_seq];simp only [goes_go];refine ⟨DM.nil,?_⟩)
 ((refine Goes.step rfl (fun _ h₁=>?_);replace hF:=DF.keep hF (RK.keep h₁);clear h₁);rw [stepG_region];simp only [goes_go,List.size_toArray,List.length_cons,List.length_nil,Nat.reduceAdd,Nat.zero_add,List.range,List.range.loop];refine ⟨DM.nil,?_⟩)
 ((refine Goes.step rfl (fun _ h₁=>?_);replace hF:=DF.keep hF (RK.keep h₁);clear h₁);refine goes_oper_k rfl rfl (by decide) (fun K hK=>?_);(try simp only [ptr,rslice]);go_simp;refine hK _ _ ⟨⟨fun _ _=>rfl,rfl,rfl,fun e he=>?_⟩,?_⟩;(focus (clear hK;have hm:=mem_listed he;simp [go_sem,ptr,rslice, *] at hm));clear hK K)
 ((refine Goes.step rfl (fun _ h₁=>?_);replace hF:=DF.keep hF (RK.keep h₁);clear h₁);rw [stepG_region_end];simp only [goes_go];refine ⟨DM.nil,?_⟩)
 ((refine Goes.step rfl (fun _ h₁=>?_);replace hF:=DF.keep hF (RK.keep h₁);clear h₁);rw [stepG_seq];simp only [goes_go];refine ⟨DM.nil,?_⟩)
 (refine Goes.step rfl (fun _ h₁=>?_);replace hF:=DF.keep hF (RK.keep h₁);clear h₁)
 rw [stepG_cond (t:=true) (by simp [Act.eval,hlt])]
 simp only [goes_go,if_true]
 refine ⟨DM.nil,?_⟩
 ((refine Goes.step rfl (fun _ h₁=>?_);replace hF:=DF.keep hF (RK.keep h₁);clear h₁);rw [stepG_skip];simp only [goes_go];refine ⟨DM.nil,?_⟩)
 ((refine Goes.step rfl (fun _ h₁=>?_);replace hF:=DF.keep hF (RK.keep h₁);clear h₁);rw [stepG_seq];simp only [goes_go];refine ⟨DM.nil,?_⟩)
 ((refine Goes.step rfl (fun _ h₁=>?_);replace hF:=DF.keep hF (RK.keep h₁);clear h₁);rw [stepG_block];simp only [goes_go];refine ⟨DM.nil,?_⟩)
 ((refine Goes.step rfl (fun _ h₁=>?_);replace hF:=DF.keep hF (RK.keep h₁);clear h₁);rw [stepG_seq];simp only [goes_go];refine ⟨DM.nil,?_⟩)
 ((refine Goes.step rfl (fun _ h₁=>?_);replace hF:=DF.keep hF (RK.keep h₁);clear h₁);rw [stepG_region];simp only [goes_go,List.size_toArray,List.length_cons,List.length_nil,Nat.reduceAdd,Nat.zero_add,List.range,List.range.loop];refine ⟨DM.nil,?_⟩)
 ((refine Goes.step rfl (fun _ h₁=>?_);replace hF:=DF.keep hF (RK.keep h₁);clear h₁);refine goes_oper_k rfl rfl (by decide) (fun K hK=>?_);(try simp only [ptr,rslice]);go_simp;refine hK _ _ ⟨⟨fun _ _=>rfl,rfl,rfl,fun e he=>?_⟩,?_⟩;(focus (clear hK;have hm:=mem_listed he;simp [go_sem,ptr,rslice, *] at hm));clear hK K)
 refine Goes.stop fun w₁ h₁=>⟨hF.keep h₁.keep,?_⟩
 rfl
set_option maxRecDepth 100000 in
set_option maxHeartbeats 4000000 in
theorem d_exit {N:Nat} (hF:DF V RB o w) :
  Goes Tryz.prog true (RK Tryz.link.tWg B.Wg V) (DM V W) (fun g w=>DF V RB o w∧g=dfr (GD p B RB v8 v15 v18 v19 v20 v21 v22 v23 v24 v9 v25 (.int .i64 N) (.int .i64 N) (.bool false) v29 v30 v31 v32 v33 v34 v35 v36 v37) (.code dend::dkk) us) 14
   (dfr (GD p B RB v8 v15 v18 v19 v20 v21 v22 v23 v24 v9 v25 (.int .i64 N) (.int .i64 N) v28 v29 v30 v31 v32 v33 v34 v35 v36 v37) (.code dloop::dkl) us) w:=by
 simp only [dfr,GD,dkl,dloop,dend,dcode,dkk,s4rest,labody,galoop,gabody,Tryz.f63,Option.getD_some]
 ((refine Goes.step rfl (fun _ h₁=>?_);replace hF:=DF.keep hF (RK.keep h₁);clear h₁);rw [stepG_seq];simp only [goes_go];refine ⟨DM.nil,?_⟩)
 ((refine Goes.step rfl (fun _ h₁=>?_);replace hF:=DF.keep hF (RK.keep h₁);clear h₁);rw [stepG_region];simp only [goes_go,List.size_toArray,List.length_cons,List.length_nil,Nat.reduceAdd,Nat.zero_add,List.range,List.range.loop];refine ⟨DM.nil,?_⟩)
 ((refine Goes.step rfl (fun _ h₁=>?_);replace hF:=DF.keep hF (RK.keep h₁);clear h₁);refine goes_oper_k rfl rfl (by decide) (fun K hK=>?_);(try simp only [ptr,rslice]);go_simp;refine hK _ _ ⟨⟨fun _ _=>rfl,rfl,rfl,fun e he=>?_⟩,?_⟩;(focus (clear hK;have hm:=mem_listed he;simp [go_sem,ptr,rslice, *] at hm));clear hK K)
 ((refine Goes.step rfl (fun _ h₁=>?_);replace hF:=DF.keep hF (RK.keep h₁);clear h₁);rw [stepG_region_end];simp only [goes_go];refine ⟨DM.nil,?_⟩)
 ((refine Goes.step rfl (fun _ h₁=>?_);replace hF:=DF.keep hF (RK.keep h₁);clear h₁);rw [stepG_seq];simp only [goes_go];refine ⟨DM.nil,?_⟩)
 (refine Goes.step rfl (fun _ h₁=>?_);replace hF:=DF.keep hF (RK.keep h₁);clear h₁)
 rw [stepG_cond (t:=false) (by simp [Act.eval])]
 simp only [goes_go,Bool.false_eq_true,if_false]
 refine ⟨DM.nil,?_⟩
 (refine Goes.step rfl (fun _ h₁=>?_);replace hF:=DF.keep hF (RK.keep h₁);clear h₁)
 rw [stepG_exit (by rfl)]
 simp only [goes_go]
 refine ⟨DM.nil,Goes.stop fun w₁ h₁=>⟨hF.keep h₁.keep,?_⟩⟩
 rfl
end
end Go.Proofs.YtjnkcibpkkjniaaGreat.Pool
namespace Go.Proofs.YtjnkcibpkkjniaaGreat.Pool
open Go.Conc Go.ConcN Go.Conc.Lib Go.ConcR.Gen Go.ConcN.Gen Go.Proofs.YtjnkcibpkkjniaaGreat.Sim
open Go.ConcR (KK wgBlock WgAt stA smA rd wr mk DC0)
theorem s9_1:∃ o,s9ops[1]? = some o∧o.dst=some 30∧o.op=.recv 181 (.tmp 29) false∧o.guard=none:=⟨_,rfl,rfl,rfl,rfl⟩
section
variable {p:WI} {B:WB} {Shun:Loc→Prop} {V W:Nat→Prop} {us:List Frame} {w:World} {RB DB:Nat} {o:Obj} {v8 v15 v16 v17 v18 v19 v20 v21 v22 v23 v24 v9 v25 v26 v27 v28 v29 v30 v31 v32 v33 v34 v35 v36 v37:Value} {Q:Goroutine→World→Prop}
theorem d_recv_step (w:World) :
  stepG Tryz.prog true (dfr (GD p B RB v8 v15 v18 v19 v20 v21 v22 v23 v24 v9 v25 v26 v27 v28 (.chan (some B.CB)) v30 v31 v32 v33 v34 v35 v36 v37) (.inRegion s9ops [1,2,3]::d9k) us) w =
   .comm (dfr (GD p B RB v8 v15 v18 v19 v20 v21 v22 v23 v24 v9 v25 v26 v27 v28 (.chan (some B.CB)) v30 v31 v32 v33 v34 v35 v36 v37) (.inRegion s9ops [1,2,3]::d9k) us) #[rcase B.CB zdone] true (.recv false) w #[]:=by
 obtain ⟨o,ho,od,oop,og⟩:=s9_1
 have hz1:=Tryz.zeroValue155
 have he1:=fun w es=>ev_zero (P:=Tryz.prog) (t:=155) (by kernel_rfl) w es
 have hu:=Tryz.underlying181
 have hr:(execOp (Act.eval ⟨GD p B RB v8 v15 v18 v19 v20 v21 v22 v23 v24 v9 v25 v26 v27 v28 (.chan (some B.CB)) v30 v31 v32 v33 v34 v35 v36 v37,[]⟩) o).run Tryz.prog w=.ok (.comm #[rcase B.CB zdone] true (.recv false)) w:=by
  unfold execOp
  simp [oop,hz1,Act.eval,GD,rcase,zdone,run_underlying hu]
 have he:(execOp (Act.eval ⟨GD p B RB v8 v15 v18 v19 v20 v21 v22 v23 v24 v9 v25 v26 v27 v28 (.chan (some B.CB)) v30 v31 v32 v33 v34 v35 v36 v37,[]⟩) o).events Tryz.prog w #[]=#[]:=by
  unfold execOp
  simp [go_sem,oop,hz1,he1,Act.eval,GD,run_underlying hu]
 unfold dfr
 rw [stepG_comm ho (by simp [Region.wanted,og]) (by decide) hr,listed_none he]
theorem d_finish (v:Value) :
  (dfr (GD p B RB v8 v15 v18 v19 v20 v21 v22 v23 v24 v9 v25 v26 v27 v28 (.chan (some B.CB)) v30 v31 v32 v33 v34 v35 v36 v37) (.inRegion s9ops [1,2,3]::d9k) us).finishComm Tryz.prog #[rcase B.CB zdone] (.recv false) 0 v true =
   dfr (GD p B RB v8 v15 v18 v19 v20 v21 v22 v23 v24 v9 v25 v26 v27 v28 (.chan (some B.CB)) v v31 v32 v33 v34 v35 v36 v37) (.inRegion s9ops [2,3]::d9k) us:=by
 obtain ⟨o,ho,od,oop,og⟩:=s9_1
 unfold Goroutine.finishComm dfr
 simp only [G]
 rw [Frame.finish_at,ho]
 simp only [Option.bind_some,od]
 rfl
set_option maxRecDepth 100000 in
set_option maxHeartbeats 4000000 in
theorem d_store {i:Nat} (hi:i < p.xl) {sa:Option Addr} {sl sc:Nat} {sb:Bool} (hW:W DB) (hF:DF V DB (.cells zdone.cells 155) w) :
  Goes Tryz.prog true (RK Tryz.link.tWg B.Wg V) (DM V W) (fun g w=>DF V DB (.cells #[.int .i64 i, .slice sa sl sc, .bool sb] 155) w∧g=dfr (GD p B RB v8 v15 v18 v19 v20 v21 v22 v23 v24 (ptr DB) v25 v26 v27 v28 v29 (.agg #[.int .i64 i, .slice sa sl sc, .bool sb]) (rslice p RB) (ptr DB) (.int .i64 i) (.pointer (some ⟨DB,1,none⟩)) (.agg #[.slice sa sl sc, .bool sb]) (.pointer (some ⟨RB,i * 2,none⟩)) v37) (.inRegion s10ops [6]::.inBlock 4::.code s11::dkl) us) 16
   (dfr (GD p B RB v8 v15 v18 v19 v20 v21 v22 v23 v24 (ptr DB) v25 v26 v27 v28 v29 (.agg #[.int .i64 i, .slice sa sl sc, .bool sb]) v31 v32 v33 v34 v35 v36 v37) (.inRegion s9ops [3]::d9k) us) w:=by
 simp only [dfr,GD,d9k,s9ops,s10ops,s11,dkl,dloop,dend,dcode,dkk,s4rest,labody,galoop,gabody,Tryz.f63,Option.getD_some]
 (refine Goes.step rfl (fun _ h₁=>?_);replace hF:=DF.keep hF (RK.keep h₁);clear h₁)
 refine goes_oper_k rfl rfl (by decide) (fun K hK=>?_)
 have e0:=cell_of hF.o 0
 have e1:=cell_of hF.o 1
 have e2:=cell_of hF.o 2
 have z0:=frozen_of hF.o 0
 have z1:=frozen_of hF.o 1
 have z2:=frozen_of hF.o 2
 simp [zdone,Value.cells] at e0 e1 e2
 simp only [ptr]
 go_simp
 refine hK _ _ ⟨⟨fun b hb=>?_,by simp [World.setCell],rfl,fun e he=>?_⟩,?_⟩
 ·have hne:DB≠b:=fun e=>hb (e▸hW)
  rw [set_other hne,set_other hne,set_other hne]
 ·clear hK
  have hm:=mem_listed he
  simp [go_sem,ptr,evs_slice,evs_bool,storedEv, *] at hm
  rcases hm with rfl | rfl | rfl <;> exact ⟨_,_,rfl,hF.v,fun _=>hW⟩
 clear hK K e0 e1 e2 z0 z1 z2
 have hF:=(⟨hF.v,set_block (set_block (set_block hF.o 0 (.int .i64 i)) 1 (.slice sa sl sc)) 2 (.bool sb)⟩:DF V DB _ _)
 simp only [zdone,Value.cells,List.setIfInBounds_toArray,List.set_cons_zero,List.set_cons_succ] at hF
 ((refine Goes.step rfl (fun _ h₁=>?_);replace hF:=DF.keep hF (RK.keep h₁);clear h₁);rw [stepG_region_end];simp only [goes_go];refine ⟨DM.nil,?_⟩)
 ((refine Goes.step rfl (fun _ h₁=>?_);replace hF:=DF.keep hF (RK.keep h₁);clear h₁);rw [stepG_region];simp only [goes_go,List.size_toArray,List.length_cons,List.length_nil,Nat.reduceAdd,Nat.zero_add,List.range,List.range.loop];refine ⟨DM.nil,?_⟩)
 have hlt:(i:Int) < (p.xl:Int):=by omega
 ((refine Goes.step rfl (fun _ h₁=>?_);replace hF:=DF.keep hF (RK.keep h₁);clear h₁);refine goes_oper_k rfl rfl (by decide) (fun K hK=>?_);have e0:=cell_of (DF.o hF) 0;have e1:=cell_of (DF.o hF) 1;have e2:=cell_of (DF.o hF) 2;simp at e0 e1 e2;(try simp only [ptr,rslice]);go_simp;refine hK _ _ ⟨⟨fun _ _=>rfl,rfl,rfl,fun e he=>?_⟩,?_⟩;(focus (clear hK;have hm:=mem_listed he;simp [go_sem,ptr,rslice, *] at hm;(try (subst hm;exact ⟨_,_,rfl,DF.v hF,by simp⟩));(try (rcases hm with rfl | rfl | rfl <;> exact ⟨_,_,rfl,DF.v hF,by simp⟩));(try (rcases hm with rfl | rfl <;> exact ⟨_,_,rfl,DF.v hF,by simp⟩))));clear hK K e0 e1 e2)
 ((refine Goes.step rfl (fun _ h₁=>?_);replace hF:=DF.keep hF (RK.keep h₁);clear h₁);refine goes_oper_k rfl rfl (by decide) (fun K hK=>?_);have e0:=cell_of (DF.o hF) 0;have e1:=cell_of (DF.o hF) 1;have e2:=cell_of (DF.o hF) 2;simp at e0 e1 e2;(try simp only [ptr,rslice]);go_simp;refine hK _ _ ⟨⟨fun _ _=>rfl,rfl,rfl,fun e he=>?_⟩,?_⟩;(focus (clear hK;have hm:=mem_listed he;simp [go_sem,ptr,rslice, *] at hm;(try (subst hm;exact ⟨_,_,rfl,DF.v hF,by simp⟩));(try (rcases hm with rfl | rfl | rfl <;> exact ⟨_,_,rfl,DF.v hF,by simp⟩));(try (rcases hm with rfl | rfl <;> exact ⟨_,_,rfl,DF.v hF,by simp⟩))));clear hK K e0 e1 e2)
 ((refine Goes.step rfl (fun _ h₁=>?_);replace hF:=DF.keep hF (RK.keep h₁);clear h₁);refine goes_oper_k rfl rfl (by decide) (fun K hK=>?_);have e0:=cell_of (DF.o hF) 0;have e1:=cell_of (DF.o hF) 1;have e2:=cell_of (DF.o hF) 2;simp at e0 e1 e2;(try simp only [ptr,rslice]);go_simp;refine hK _ _ ⟨⟨fun _ _=>rfl,rfl,rfl,fun e he=>?_⟩,?_⟩;(focus (clear hK;have hm:=mem_listed he;simp [go_sem,ptr,rslice, *] at hm;(try (subst hm;exact ⟨_,_,rfl,DF.v hF,by simp⟩));(try (rcases hm with rfl | rfl | rfl <;> exact ⟨_,_,rfl,DF.v hF,by simp⟩));(try (rcases hm with rfl | rfl <;> exact ⟨_,_,rfl,DF.v hF,by simp⟩))));clear hK K e0 e1 e2)
 ((refine Goes.step rfl (fun _ h₁=>?_);replace hF:=DF.keep hF (RK.keep h₁);clear h₁);refine goes_oper_k rfl rfl (by decide) (fun K hK=>?_);have e0:=cell_of (DF.o hF) 0;have e1:=cell_of (DF.o hF) 1;have e2:=cell_of (DF.o hF) 2;simp at e0 e1 e2;(try simp only [ptr,rslice]);go_simp;refine hK _ _ ⟨⟨fun _ _=>rfl,rfl,rfl,fun e he=>?_⟩,?_⟩;(focus (clear hK;have hm:=mem_listed he;simp [go_sem,ptr,rslice, *] at hm;(try (subst hm;exact ⟨_,_,rfl,DF.v hF,by simp⟩));(try (rcases hm with rfl | rfl | rfl <;> exact ⟨_,_,rfl,DF.v hF,by simp⟩));(try (rcases hm with rfl | rfl <;> exact ⟨_,_,rfl,DF.v hF,by simp⟩))));clear hK K e0 e1 e2)
 ((refine Goes.step rfl (fun _ h₁=>?_);replace hF:=DF.keep hF (RK.keep h₁);clear h₁);refine goes_oper_k rfl rfl (by decide) (fun K hK=>?_);have e0:=cell_of (DF.o hF) 0;have e1:=cell_of (DF.o hF) 1;have e2:=cell_of (DF.o hF) 2;simp at e0 e1 e2;(try simp only [ptr,rslice]);go_simp;refine hK _ _ ⟨⟨fun _ _=>rfl,rfl,rfl,fun e he=>?_⟩,?_⟩;(focus (clear hK;have hm:=mem_listed he;simp [go_sem,ptr,rslice, *] at hm;(try (subst hm;exact ⟨_,_,rfl,DF.v hF,by simp⟩));(try (rcases hm with rfl | rfl | rfl <;> exact ⟨_,_,rfl,DF.v hF,by simp⟩));(try (rcases hm with rfl | rfl <;> exact ⟨_,_,rfl,DF.v hF,by simp⟩))));clear hK K e0 e1 e2)
 ((refine Goes.step rfl (fun _ h₁=>?_);replace hF:=DF.keep hF (RK.keep h₁);clear h₁);refine goes_oper_k rfl rfl (by decide) (fun K hK=>?_);have e0:=cell_of (DF.o hF) 0;have e1:=cell_of (DF.o hF) 1;have e2:=cell_of (DF.o hF) 2;simp at e0 e1 e2;(try simp only [ptr,rslice]);go_simp;refine hK _ _ ⟨⟨fun _ _=>rfl,rfl,rfl,fun e he=>?_⟩,?_⟩;(focus (clear hK;have hm:=mem_listed he;simp [go_sem,ptr,rslice, *] at hm;(try (subst hm;exact ⟨_,_,rfl,DF.v hF,by simp⟩));(try (rcases hm with rfl | rfl | rfl <;> exact ⟨_,_,rfl,DF.v hF,by simp⟩));(try (rcases hm with rfl | rfl <;> exact ⟨_,_,rfl,DF.v hF,by simp⟩))));clear hK K e0 e1 e2)
 exact Goes.stop fun w₁ h₁=>⟨hF.keep h₁.keep,rfl⟩
set_option maxRecDepth 100000 in
set_option maxHeartbeats 4000000 in
theorem d_lay {i k:Nat} {rep:Array Value} (hi:i < p.xl) (hk:k < 2147483647) (hsz:rep.size=p.xl * 2) {sa:Option Addr} {sl sc:Nat} {sb:Bool} (hW:W RB) (hF:DF V RB (.cells rep 140) w) :
  Goes Tryz.prog true (RK Tryz.link.tWg B.Wg V) (DM V W) (fun g w=>DF V RB (.cells (lay rep i sa sl sc sb) 140) w∧g=dfr (GD p B RB v8 v15 v18 v19 v20 v21 v22 v23 v24 v9 v25 v26 (.int .i64 (k+1:Nat)) v28 v29 v30 v31 v32 v33 v34 (.agg #[.slice sa sl sc, .bool sb]) (.pointer (some ⟨RB,i * 2,none⟩)) (.int .i64 (k+1:Nat))) (.code dloop::dkl) us) 16
   (dfr (GD p B RB v8 v15 v18 v19 v20 v21 v22 v23 v24 v9 v25 v26 (.int .i64 k) v28 v29 v30 v31 v32 v33 v34 (.agg #[.slice sa sl sc, .bool sb]) (.pointer (some ⟨RB,i * 2,none⟩)) v37) (.inRegion s10ops [6]::.inBlock 4::.code s11::dkl) us) w:=by
 simp only [dfr,GD,d9k,s9ops,s10ops,s11,dkl,dloop,dend,dcode,dkk,s4rest,labody,galoop,gabody,Tryz.f63,Option.getD_some]
 (refine Goes.step rfl (fun _ h₁=>?_);replace hF:=DF.keep hF (RK.keep h₁);clear h₁)
 refine goes_oper_k rfl rfl (by decide) (fun K hK=>?_)
 have e0:=(cell_of hF.o (i * 2)).trans (Array.getElem?_eq_getElem (by omega))
 have e1:=(cell_of hF.o (i * 2+1)).trans (Array.getElem?_eq_getElem (by omega))
 have z0:=frozen_of hF.o (i * 2)
 have z1:=frozen_of hF.o (i * 2+1)
 go_simp
 refine hK _ _ ⟨⟨fun b hb=>?_,by simp [World.setCell],rfl,fun e he=>?_⟩,?_⟩
 ·have hne:RB≠b:=fun e=>hb (e▸hW)
  rw [set_other hne,set_other hne]
 ·clear hK
  have hm:=mem_listed he
  simp [go_sem,ptr,evs_slice,evs_bool,storedEv, *] at hm
  rcases hm with rfl | rfl <;> exact ⟨_,_,rfl,hF.v,fun _=>hW⟩
 clear hK K e0 e1 z0 z1
 have hF:=(⟨hF.v,set_block (set_block hF.o (i * 2) (.slice sa sl sc)) (i * 2+1) (.bool sb)⟩:DF V RB _ _)
 ((refine Goes.step rfl (fun _ h₁=>?_);replace hF:=DF.keep hF (RK.keep h₁);clear h₁);rw [stepG_region_end];simp only [goes_go];refine ⟨DM.nil,?_⟩)
 ((refine Goes.step rfl (fun _ h₁=>?_);replace hF:=DF.keep hF (RK.keep h₁);clear h₁);rw [stepG_inBlock];simp only [goes_go];refine ⟨DM.nil,?_⟩)
 ((refine Goes.step rfl (fun _ h₁=>?_);replace hF:=DF.keep hF (RK.keep h₁);clear h₁);rw [stepG_region];simp only [goes_go,List.size_toArray,List.length_cons,List.length_nil,Nat.reduceAdd,Nat.zero_add,List.range,List.range.loop];refine ⟨DM.nil,?_⟩)
 have hb:IntKind.i64.wrap ((k:Int)+1)=((k+1:Nat):Int):=by rw [IntKind.wrap_i64];omega
 ((refine Goes.step rfl (fun _ h₁=>?_);replace hF:=DF.keep hF (RK.keep h₁);clear h₁);refine goes_oper_k rfl rfl (by decide) (fun K hK=>?_);(try simp only [ptr,rslice]);go_simp;refine hK _ _ ⟨⟨fun _ _=>rfl,rfl,rfl,fun e he=>?_⟩,?_⟩;(focus (clear hK;have hm:=mem_listed he;simp [go_sem,ptr,rslice, *] at hm));clear hK K)
 ((refine Goes.step rfl (fun _ h₁=>?_);replace hF:=DF.keep hF (RK.keep h₁);clear h₁);refine goes_oper_k rfl rfl (by decide) (fun K hK=>?_);(try simp only [ptr,rslice]);go_simp;refine hK _ _ ⟨⟨fun _ _=>rfl,rfl,rfl,fun e he=>?_⟩,?_⟩;(focus (clear hK;have hm:=mem_listed he;simp [go_sem,ptr,rslice, *] at hm));clear hK K)
 ((refine Goes.step rfl (fun _ h₁=>?_);replace hF:=DF.keep hF (RK.keep h₁);clear h₁);rw [stepG_region_end];simp only [goes_go];refine ⟨DM.nil,?_⟩)
 ((refine Goes.step rfl (fun _ h₁=>?_);replace hF:=DF.keep hF (RK.keep h₁);clear h₁);rw [stepG_inLoop];simp only [goes_go];refine ⟨DM.nil,?_⟩)
 exact Goes.stop fun w₁ h₁=>⟨hF.keep h₁.keep,rfl⟩
end
end Go.Proofs.YtjnkcibpkkjniaaGreat.Pool
namespace Go.Proofs.YtjnkcibpkkjniaaGreat.Pool
open Go.Conc Go.ConcN Go.Conc.Lib Go.ConcR.Gen Go.ConcN.Gen Go.Proofs.YtjnkcibpkkjniaaGreat.Sim
open Go.ConcR (KK wgBlock WgAt stA smA rd wr mk DC0)
def IsAns (v:Value):Prop:=∃ sa sl sc sb,v=.agg #[.slice sa sl sc, .bool sb]
structure LaidV (p:WI) (rep:Array Value) (v:Nat→Value) (l:List Nat):Prop where
 size:rep.size=p.xl * 2
 at_:∀ k∈l,k < p.xl∧∃ sa sl sc sb,v k=.agg #[.slice sa sl sc, .bool sb]∧rep[k * 2]? = some (.slice sa sl sc)∧rep[k * 2+1]? = some (.bool sb)
theorem LaidV.lay {p:WI} {rep:Array Value} {v:Nat→Value} {l:List Nat} (h:LaidV p rep v l) {i:Nat} (hi:i < p.xl) {sa:Option Addr} {sl sc:Nat} {sb:Bool} (hv:v i=.agg #[.slice sa sl sc, .bool sb]):LaidV p (lay rep i sa sl sc sb) v (l++[i]):=by
 have hsz:=h.size
 refine ⟨lay_size.trans h.size,fun k hk=>?_⟩
 by_cases e:k=i
 ·subst e
  obtain ⟨l1,l2⟩:=lay_own (rep:=rep) (i:=k) (sa:=sa) (sl:=sl) (sc:=sc) (sb:=sb) (by omega)
  exact ⟨hi,sa,sl,sc,sb,hv,l1,l2⟩
 ·rw [List.mem_append,List.mem_singleton] at hk
  obtain ⟨b1,xa,xl,xc,xb,b2,b3,b4⟩:=h.at_ k (hk.resolve_right e)
  exact ⟨b1,xa,xl,xc,xb,b2,(lay_other (by omega)).trans b3,(lay_other (by omega)).trans b4⟩
structure OldW (CB RB:Nat) (wo w:World):Prop where
 size:wo.heap.size≤w.heap.size
 os:w.os=wo.os
 heap:∀ b,b < wo.heap.size→b≠CB→b≠RB→w.heap[b]? = wo.heap[b]?
theorem OldW.refl (CB RB:Nat) (w:World):OldW CB RB w w:=⟨Nat.le_refl _,rfl,fun _ _ _ _=>rfl⟩
section
variable {p:WI} {B:WB} {Shun:Loc→Prop} {us:List Frame} {RB:Nat} {wo:World} {v8 v15 v18 v19 v20 v21 v22 v23 v24 v25:Value} {Q:Goroutine→World→Prop} {msg v:Nat→Value} {cap sent N:Nat}
set_option maxHeartbeats 4000000 in
theorem d_loop (hN:N < 2147483647) (hS:∀ b,b=RB∨wo.heap.size≤b→∀ l,InBlock b l→¬ Shun l) (hCR:RB≠B.CB) (hRB:RB < wo.heap.size) (hCB:B.CB < wo.heap.size):∀ (wait l:List Nat) (k:Nat) {w:World} {rep:Array Value} {r:Nat} {v9 v28 v29 v30 v31 v32 v33 v34 v35 v36 v37:Value},k+wait.length=N →
  w.heap[B.CB]? = some (.chan cap (wait.map msg).toArray false sent r false)→w.heap[RB]? = some (.cells rep 140)→LaidV p rep v l →
  (∀ i∈wait,i < p.xl∧IsAns (v i)∧msg i=.agg (#[.int .i64 i]++(v i).cells))→OldW B.CB RB wo w →
  (∀ w' rep' v9 v28 v29 v30 v31 v32 v33 v34 v35 v36 v37,w'.heap[RB]? = some (.cells rep' 140)→LaidV p rep' v (l++wait)→OldW B.CB RB wo w'→GetsA Tryz.prog Any Shun Q (dfr (GD p B RB v8 v15 v18 v19 v20 v21 v22 v23 v24 v9 v25 (.int .i64 N) (.int .i64 N) v28 v29 v30 v31 v32 v33 v34 v35 v36 v37) (.code dend::dkk) us) w') →
  GetsA Tryz.prog Any Shun Q (dfr (GD p B RB v8 v15 v18 v19 v20 v21 v22 v23 v24 v9 v25 (.int .i64 N) (.int .i64 k) v28 v29 v30 v31 v32 v33 v34 v35 v36 v37) (.code dloop::dkl) us) w:=by
 intro wait
 induction wait with
 | nil =>
  intro l k w rep r v9 v28 v29 v30 v31 v32 v33 v34 v35 v36 v37 hk hC hR hL hA hO kk
  obtain rfl:k=N:=by simpa using hk
  refine GetsA.goes (ty:=Tryz.link.tWg) (Wg:=B.Wg) (V:=fun b=>b=RB) (W:=fun _=>False) (fun b hb=>hS b (.inl hb)) (fun b hb=>by have:=hO.size;rw [hb];omega) (d_exit (B:=B) ⟨rfl,hR⟩) (fun g' w' hs hsz hos hh=>?_)
  obtain ⟨hF,rfl⟩:=hs
  exact kk w' rep _ _ _ _ _ _ _ _ _ _ _ hF.o (by rw [List.append_nil];exact hL) ⟨by rw [hsz];exact hO.size,hos.trans hO.os,fun b h1 h2 h3=>(hh b id).trans (hO.heap b h1 h2 h3)⟩
 | cons i rest ih =>
  intro l k w rep r v9 v28 v29 v30 v31 v32 v33 v34 v35 v36 v37 hk hC hR hL hA hO kk
  have hkN:k < N:=by rw [←hk];simp
  refine GetsA.goes (ty:=Tryz.link.tWg) (Wg:=B.Wg) (V:=fun b=>b=RB) (W:=fun _=>False) (fun b hb=>hS b (.inl hb)) (fun b hb=>by have:=hO.size;rw [hb];omega) (d_test (B:=B) hkN ⟨rfl,hR⟩) (fun g1 w1 hs hsz hos hh=>?_)
  obtain ⟨_,rfl⟩:=hs
  have hC1:=(hh B.CB id).trans hC
  have hR1:=(hh RB id).trans hR
  obtain ⟨hi,⟨sa,sl,sc,sb,hv⟩,hmsg⟩:=hA i (by simp)
  refine GetsA.recv rfl (fun d=>d_recv_step _) hC1 (by simp) (fun d=>?_)
  have hget:((i::rest).map msg).toArray.getD 0 undef=.agg #[.int .i64 i, .slice sa sl sc, .bool sb]:=by
   have:((i::rest).map msg).toArray.getD 0 undef=msg i:=by simp
   rw [this,hmsg,hv]
   rfl
  rw [hget,d_finish]
  have hex:((i::rest).map msg).toArray.extract 1 ((i::rest).map msg).toArray.size=(rest.map msg).toArray:=by
   simp
   exact List.take_of_length_le (by simp)
  rw [hex]
  have hne:∀ b,b≠B.CB→((w1.at d).setChan B.CB cap (rest.map msg).toArray false sent (r+1) false).heap[b]? = w1.heap[b]?:=fun b hb=>by
   simp only [World.setChan,World.at]
   rw [Array.getElem?_setIfInBounds_ne (Ne.symm hb)]
  have hCB1:B.CB < w1.heap.size:=(Array.getElem?_eq_some_iff.1 hC1).1
  have hself:((w1.at d).setChan B.CB cap (rest.map msg).toArray false sent (r+1) false).heap[B.CB]? = some (.chan cap (rest.map msg).toArray false sent (r+1) false):=by
   simp only [World.setChan,World.at]
   rw [Array.getElem?_setIfInBounds_self_of_lt hCB1]
  have hsz2:((w1.at d).setChan B.CB cap (rest.map msg).toArray false sent (r+1) false).heap.size=w1.heap.size:=by simp [World.setChan,World.at]
  have hos2:((w1.at d).setChan B.CB cap (rest.map msg).toArray false sent (r+1) false).os=w1.os:=rfl
  generalize ((w1.at d).setChan B.CB cap (rest.map msg).toArray false sent (r+1) false)=w2 at hne hself hsz2 hos2 ⊢
  obtain ⟨DB,hDB⟩:∃ DB,EqN DB w2.heap.size:=⟨_,rfl⟩
  refine GetsA.made (B:=DB) (g':=dfr (GD p B RB v8 v15 v18 v19 v20 v21 v22 v23 v24 (ptr DB) v25 (.int .i64 N) (.int .i64 k) (.bool true) (.chan (some B.CB)) (.agg #[.int .i64 i, .slice sa sl sc, .bool sb]) v31 v32 v33 v34 v35 v36 v37) (.inRegion s9ops [3]::d9k) us) (o:=.cells zdone.cells 155) rfl hDB (fun w₁ h₁=>?_) (fun d2=>?_)
  ·rw [show DB=w₁.heap.size from hDB.eq.trans h₁.symm]
   unfold dfr
   rw [stepG_alloc (b:=gaf) (ops:=s9ops) (i:=2) (elem:=155) rfl rfl (by decide) rfl Tryz.zeroValue155 (ev_zero (by kernel_rfl))]
   rfl
  have hsz3:((w2.at d2).alloc (.cells zdone.cells 155)).heap.size=w2.heap.size+1:=by show (w2.heap.push _).size=_;simp
  have hold3:∀ b,b < w2.heap.size→((w2.at d2).alloc (.cells zdone.cells 155)).heap[b]? = w2.heap[b]?:=fun b hb=>by
   show (w2.heap.push _)[b]? = _
   rw [Array.getElem?_push_lt hb,Array.getElem?_eq_getElem hb]
  have hnew3:((w2.at d2).alloc (.cells zdone.cells 155)).heap[DB]? = some (.cells zdone.cells 155):=by
   rw [hDB.eq]
   show (w2.heap.push _)[w2.heap.size]? = _
   simp
  have hos3:((w2.at d2).alloc (.cells zdone.cells 155)).os=w2.os:=rfl
  generalize ((w2.at d2).alloc (.cells zdone.cells 155))=w3 at hsz3 hold3 hnew3 hos3 ⊢
  have hDB':DB=w2.heap.size:=hDB
  have hO':=hO.size
  refine GetsA.goes (ty:=Tryz.link.tWg) (Wg:=B.Wg) (V:=fun b=>b=DB) (W:=fun b=>b=DB) (fun b hb=>hS b (.inr (by rw [hb];omega))) (fun b hb=>by rw [hb];omega) (d_store (B:=B) hi rfl ⟨rfl,hnew3⟩) (fun g4 w4 hs hsz4 hos4 hh4=>?_)
  obtain ⟨_,rfl⟩:=hs
  have hRD:RB≠DB:=by omega
  have hCD:B.CB≠DB:=by omega
  have hR4:w4.heap[RB]? = some (.cells rep 140):=(hh4 RB hRD).trans ((hold3 RB (by omega)).trans ((hne RB hCR).trans hR1))
  have hC4:w4.heap[B.CB]? = some (.chan cap (rest.map msg).toArray false sent (r+1) false):=(hh4 B.CB hCD).trans ((hold3 _ (by omega)).trans hself)
  refine GetsA.goes (ty:=Tryz.link.tWg) (Wg:=B.Wg) (V:=fun b=>b=RB) (W:=fun b=>b=RB) (fun b hb=>hS b (.inl hb)) (fun b hb=>by rw [hb];omega) (d_lay (B:=B) (k:=k) hi (by omega) hL.size rfl ⟨rfl,hR4⟩) (fun g5 w5 hs hsz5 hos5 hh5=>?_)
  obtain ⟨hF5,rfl⟩:=hs
  refine ih (l++[i]) (k+1) (r:=r+1) (by rw [←hk];simp;omega) ((hh5 _ (Ne.symm hCR)).trans hC4) hF5.o (hL.lay hi hv) (fun j hj=>hA j (by simp [hj])) ⟨by omega,by rw [hos5,hos4,hos3,hos2,hos];exact hO.os,fun b h1 h2 h3=>?_⟩ (fun w' rep' v9 v28 v29 v30 v31 v32 v33 v34 v35 v36 v37 a1 a2 a3=>kk w' rep' _ _ _ _ _ _ _ _ _ _ _ a1 (by rw [List.append_assoc] at a2;exact a2) a3)
  exact (hh5 b h3).trans ((hh4 b (by show b≠DB;omega)).trans ((hold3 b (by omega)).trans ((hne b h2).trans ((hh b id).trans (hO.heap b h1 h2 h3)))))
end
end Go.Proofs.YtjnkcibpkkjniaaGreat.Pool
