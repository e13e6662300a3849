import Derived.Test.YtjnkcibpkkjniaaGreatA00
import Derived.Test.YtjnkcibpkkjniaaGreatA10
set_option linter.all false
set_option maxHeartbeats 4000000
set_option maxRecDepth 100000
namespace Go.Proofs.YtjnkcibpkkjniaaGreat.kj
section
open Go.Conc Go.ConcN Go.Conc.Lib Go.ConcR.Gen Go.ConcN.Gen Go.Proofs.YtjnkcibpkkjniaaGreat.j7
open Go.ConcR (KK wgBlock WgAt stA smA rd wr DC0)
variable {V W:Nat→Prop} {w:World}
theorem DM.nil:DM V W w w #[]:=⟨fun _ _=>rfl,rfl,rfl,by simp⟩
theorem DM.drew:DM V W w { w with drawn:=w.drawn+1 } #[]:=⟨fun _ _=>rfl,rfl,rfl,by simp⟩
structure MF (p:WI) (B:WB) (V:Nat→Prop) (w:World):Prop where
 s:w.cell? ⟨B.bS,0,none⟩=some (.pointer (some ⟨p.sp,p.so,none⟩))
 n:w.cell? ⟨B.bN,0,none⟩=some (.slice (some ⟨p.nb,p.no,none⟩) p.nl p.nc)
 c:w.cell? ⟨B.bC,0,none⟩=some (.chan (some B.CB))
 g:w.cell? ⟨B.bG,0,none⟩=some (.chan (some B.CF))
 id:w.cell? ⟨p.sp,p.so,none⟩=some (.int .i64 p.id)
 x:w.cell? ⟨p.sp,p.so+1,none⟩=some (.slice p.xa p.xl p.xc)
 vs:V B.bS∧V B.bN∧V B.bC∧V B.bG∧V p.sp
theorem MF.keep{p:WI}{B:WB}{w₁:World}(h:MF p B V w)(k:∀b,V b→w₁.heap[b]?=w.heap[b]?):MF p B V w₁ :=
 ⟨(gv (k _ h.vs.1) _).trans h.s,(gv (k _ h.vs.2.1) _).trans h.n,(gv (k _ h.vs.2.2.1) _).trans h.c,(gv (k _ h.vs.2.2.2.1) _).trans h.g,(gv (k _ h.vs.2.2.2.2) _).trans h.id,(gv (k _ h.vs.2.2.2.2) _).trans h.x,h.vs⟩
noncomputable def rI:Code:=match oT with
 | .seq (.seq _ (.block _ (.loop c))) _=>c
 |_=>.skip
noncomputable def qx:Code:=match oT with
 | .seq _ c=>c
 |_=>.skip
def LT (p:WI) (B:WB) (v21 v8 v22 v23 v24 v25 v26:Value):Array Value :=
 #[p.s,p.mW,ptr B.bS,ptr B.bN,.slice none 0 0,ptr B.bC,ptr B.bG,ptr B.Wg,v8,p.s,p.s,.pointer (some ⟨p.sp,p.so+1,none⟩),.slice p.xa p.xl p.xc,.int .i64 p.xl,.chan (some B.CB),.chan (some B.CF),
  p.s,p.s,.pointer (some ⟨p.sp,p.so+1,none⟩),.slice p.xa p.xl p.xc,.int .i64 p.xl,v21,v22,v23,v24,v25,v26,undef,undef,undef,undef,undef,undef,undef,undef,undef]
noncomputable abbrev wf:Frame:=base 35
noncomputable def vZ:Array Oper:=match rI with
 | .seq _ (.seq _ (.seq (.block _ (.seq (.region _ ops _) _)) _))=>ops
 |_=>#[]
noncomputable def ui:Array Oper:=match rI with
 | .seq _ (.seq _ (.seq (.block _ (.seq _ (.region _ ops _))) _))=>ops
 |_=>#[]
noncomputable def CI:Array Oper:=match rI with
 | .seq _ (.seq _ (.seq _ (.region _ ops _)))=>ops
 |_=>#[]
noncomputable def uj:List Item:=[.inBlock 1,.code (.region 8 CI false),.inLoop rI,.inBlock 0,.code qx]
noncomputable def uk:Code:=Tryz.f58.body.getD .skip
noncomputable def um:Array Oper:=match uk with
 | .seq (.region _ ops _) _=>ops
 |_=>#[]
noncomputable def qN:Array Oper:=match uk with
 | .seq _ (.seq _ (.region _ ops _))=>ops
 |_=>#[]
noncomputable def wa:Code:=match uk with
 | .seq _ c=>c
 |_=>.skip
noncomputable def ve:Array Oper:=match uk with
 | .seq _ (.seq (.region _ ops _) _)=>ops
 |_=>#[]
def sW (B:WB) (bI:Nat):Array Value:=#[box B.bC,box bI,box B.bS,box B.bN]
noncomputable abbrev gf:Frame:=base 58
noncomputable def head (p:WI) (B:WB) (j:Nat) (v8 v22 v23 v24 v25 v26:Value) (cs:List Frame):Goroutine:=G (wf.at ⟨LT p B (.int .i64 j) v8 v22 v23 v24 v25 v26,[]⟩ [.code rI,.inLoop rI,.inBlock 0,.code qx]) cs
section
variable {p:WI} {B:WB} {Wg:Nat} {V W:Nat→Prop} {cs:List Frame} {w:World}
theorem JP(hF:MF p B V w):Goes Tryz.prog true (RK Tryz.link.tWg B.Wg V) (DM V W) (fun g w=>MF p B V w∧g=head p B 0 undef undef undef undef undef undef cs) 30 (G (wf.at ⟨#[p.s,p.mW,ptr B.bS,ptr B.bN,.slice none 0 0,ptr B.bC,ptr B.bG,ptr B.Wg,undef,p.s,p.s,.pointer (some ⟨p.sp,p.so+1,none⟩),.slice p.xa p.xl p.xc,.int .i64 p.xl,.chan (some B.CB),.chan (some B.CF),undef,undef,undef,undef,undef,undef,undef,undef,undef,undef,undef,undef,undef,undef,undef,undef,undef,undef,undef,undef],[]⟩ [.code oT]) cs) w:=by
 simp only[oT,Tryz.f35]
 ((refine gp rfl (fun _ f=>?_);replace hF:=MF.keep hF (RK.keep f);clear f);rw[stepG_seq];simp only[fv];refine⟨DM.nil,?_⟩)
 ((refine gp rfl (fun _ f=>?_);replace hF:=MF.keep hF (RK.keep f);clear f);rw[stepG_seq];simp only[fv];refine⟨DM.nil,?_⟩)
 ((refine gp rfl (fun _ f=>?_);replace hF:=MF.keep hF (RK.keep f);clear f);rw[fq];simp only[fv,gA,gB,gC,Nat.reduceAdd,dB,List.range,List.range.loop];refine⟨DM.nil,?_⟩)
 ((refine gp rfl (fun _ f=>?_);replace hF:=MF.keep hF (RK.keep f);clear f);refine gD rfl rfl (by decide) (fun K h=>?_);have l:=MF.s hF;have m:=MF.x hF;have k:=MF.vs hF;(try simp only[ptr]at *);go_simp;refine h _ _ ⟨⟨fun _ _=>rfl,rfl,rfl,fun e he=>?_⟩,?_⟩;(focus(clear h;have hm:=gu he;simp[go_sem, *]at hm;(try(subst hm;exact⟨_,_,rfl,by simp[k],by simp⟩))));clear h K l m k)
 ((refine gp rfl (fun _ f=>?_);replace hF:=MF.keep hF (RK.keep f);clear f);refine gD rfl rfl (by decide) (fun K h=>?_);have l:=MF.s hF;have m:=MF.x hF;have k:=MF.vs hF;(try simp only[ptr]at *);go_simp;refine h _ _ ⟨⟨fun _ _=>rfl,rfl,rfl,fun e he=>?_⟩,?_⟩;(focus(clear h;have hm:=gu he;simp[go_sem, *]at hm;(try(subst hm;exact⟨_,_,rfl,by simp[k],by simp⟩))));clear h K l m k)
 ((refine gp rfl (fun _ f=>?_);replace hF:=MF.keep hF (RK.keep f);clear f);refine gD rfl rfl (by decide) (fun K h=>?_);have l:=MF.s hF;have m:=MF.x hF;have k:=MF.vs hF;(try simp only[ptr]at *);go_simp;refine h _ _ ⟨⟨fun _ _=>rfl,rfl,rfl,fun e he=>?_⟩,?_⟩;(focus(clear h;have hm:=gu he;simp[go_sem, *]at hm;(try(subst hm;exact⟨_,_,rfl,by simp[k],by simp⟩))));clear h K l m k)
 ((refine gp rfl (fun _ f=>?_);replace hF:=MF.keep hF (RK.keep f);clear f);refine gD rfl rfl (by decide) (fun K h=>?_);have l:=MF.s hF;have m:=MF.x hF;have k:=MF.vs hF;(try simp only[ptr]at *);go_simp;refine h _ _ ⟨⟨fun _ _=>rfl,rfl,rfl,fun e he=>?_⟩,?_⟩;(focus(clear h;have hm:=gu he;simp[go_sem, *]at hm;(try(subst hm;exact⟨_,_,rfl,by simp[k],by simp⟩))));clear h K l m k)
 ((refine gp rfl (fun _ f=>?_);replace hF:=MF.keep hF (RK.keep f);clear f);refine gD rfl rfl (by decide) (fun K h=>?_);have l:=MF.s hF;have m:=MF.x hF;have k:=MF.vs hF;(try simp only[ptr]at *);go_simp;refine h _ _ ⟨⟨fun _ _=>rfl,rfl,rfl,fun e he=>?_⟩,?_⟩;(focus(clear h;have hm:=gu he;simp[go_sem, *]at hm;(try(subst hm;exact⟨_,_,rfl,by simp[k],by simp⟩))));clear h K l m k)
 ((refine gp rfl (fun _ f=>?_);replace hF:=MF.keep hF (RK.keep f);clear f);refine gD rfl rfl (by decide) (fun K h=>?_);have l:=MF.s hF;have m:=MF.x hF;have k:=MF.vs hF;(try simp only[ptr]at *);go_simp;refine h _ _ ⟨⟨fun _ _=>rfl,rfl,rfl,fun e he=>?_⟩,?_⟩;(focus(clear h;have hm:=gu he;simp[go_sem, *]at hm;(try(subst hm;exact⟨_,_,rfl,by simp[k],by simp⟩))));clear h K l m k)
 ((refine gp rfl (fun _ f=>?_);replace hF:=MF.keep hF (RK.keep f);clear f);rw[stepG_region_end];simp only[fv];refine⟨DM.nil,?_⟩)
 ((refine gp rfl (fun _ f=>?_);replace hF:=MF.keep hF (RK.keep f);clear f);rw[stepG_block];simp only[fv];refine⟨DM.nil,?_⟩)
 ((refine gp rfl (fun _ f=>?_);replace hF:=MF.keep hF (RK.keep f);clear f);rw[stepG_loop];simp only[fv];refine⟨DM.nil,?_⟩);exact fM fun w₁ f=>⟨hF.keep f.keep,rfl⟩
variable {v8 v22 v23 v24 v25 v26:Value}
theorem JQ{j:Nat}(r:j<p.xl)(n:p.xl<2147483647)(hF:MF p B V w):Goes Tryz.prog true (RK Tryz.link.tWg B.Wg V) (DM V W) (fun g w=>MF p B V w∧g=G (wf.at ⟨LT p B (.int .i64 j) v8 (.bool true) (.int .i64 j) v24 v25 v26,[]⟩ (.inRegion vZ [1,2]::.code (.region 7 ui false)::uj)) cs) 12 (head p B j v8 v22 v23 v24 v25 v26 cs) w:=by
 have q:(j:Int)<(p.xl:Int):=by omega
 simp only[head,LT,rI,oT,Tryz.f35]
 ((refine gp rfl (fun _ f=>?_);replace hF:=MF.keep hF (RK.keep f);clear f);rw[stepG_seq];simp only[fv];refine⟨DM.nil,?_⟩)
 ((refine gp rfl (fun _ f=>?_);replace hF:=MF.keep hF (RK.keep f);clear f);rw[fq];simp only[fv,gA,gB,gC,Nat.reduceAdd,dB,List.range,List.range.loop];refine⟨DM.nil,?_⟩)
 ((refine gp rfl (fun _ f=>?_);replace hF:=MF.keep hF (RK.keep f);clear f);refine gD rfl rfl (by decide) (fun K h=>?_);have l:=MF.s hF;have m:=MF.x hF;have k:=MF.vs hF;(try simp only[ptr]at *);go_simp;refine h _ _ ⟨⟨fun _ _=>rfl,rfl,rfl,fun e he=>?_⟩,?_⟩;(focus(clear h;have hm:=gu he;simp[go_sem, *]at hm;(try(subst hm;exact⟨_,_,rfl,by simp[k],by simp⟩))));clear h K l m k)
 ((refine gp rfl (fun _ f=>?_);replace hF:=MF.keep hF (RK.keep f);clear f);rw[stepG_region_end];simp only[fv];refine⟨DM.nil,?_⟩)
 ((refine gp rfl (fun _ f=>?_);replace hF:=MF.keep hF (RK.keep f);clear f);rw[stepG_seq];simp only[fv];refine⟨DM.nil,?_⟩)
 (refine gp rfl (fun _ f=>?_);replace hF:=MF.keep hF (RK.keep f);clear f);rw[fp (t:=true) (by simp[Act.eval])];simp only[fv,dg];refine⟨DM.nil,?_⟩
 ((refine gp rfl (fun _ f=>?_);replace hF:=MF.keep hF (RK.keep f);clear f);rw[stepG_skip];simp only[fv];refine⟨DM.nil,?_⟩)
 ((refine gp rfl (fun _ f=>?_);replace hF:=MF.keep hF (RK.keep f);clear f);rw[stepG_seq];simp only[fv];refine⟨DM.nil,?_⟩)
 ((refine gp rfl (fun _ f=>?_);replace hF:=MF.keep hF (RK.keep f);clear f);rw[stepG_block];simp only[fv];refine⟨DM.nil,?_⟩)
 ((refine gp rfl (fun _ f=>?_);replace hF:=MF.keep hF (RK.keep f);clear f);rw[stepG_seq];simp only[fv];refine⟨DM.nil,?_⟩)
 ((refine gp rfl (fun _ f=>?_);replace hF:=MF.keep hF (RK.keep f);clear f);rw[fq];simp only[fv,gA,gB,gC,Nat.reduceAdd,dB,List.range,List.range.loop];refine⟨DM.nil,?_⟩)
 ((refine gp rfl (fun _ f=>?_);replace hF:=MF.keep hF (RK.keep f);clear f);refine gD rfl rfl (by decide) (fun K h=>?_);have l:=MF.s hF;have m:=MF.x hF;have k:=MF.vs hF;(try simp only[ptr]at *);go_simp;refine h _ _ ⟨⟨fun _ _=>rfl,rfl,rfl,fun e he=>?_⟩,?_⟩;(focus(clear h;have hm:=gu he;simp[go_sem, *]at hm;(try(subst hm;exact⟨_,_,rfl,by simp[k],by simp⟩))));clear h K l m k);exact fM fun w₁ f=>⟨hF.keep f.keep,rfl⟩
theorem JS(hF:MF p B V w):Goes Tryz.prog true (RK Tryz.link.tWg B.Wg V) (DM V W) (fun g w=>MF p B V w∧g=G (wf.at ⟨LT p B (.int .i64 p.xl) v8 (.bool false) v23 v24 v25 v26,[]⟩ [.code qx]) cs) 12 (head p B p.xl v8 v22 v23 v24 v25 v26 cs) w:=by
 simp only[head,LT,rI,oT,Tryz.f35]
 ((refine gp rfl (fun _ f=>?_);replace hF:=MF.keep hF (RK.keep f);clear f);rw[stepG_seq];simp only[fv];refine⟨DM.nil,?_⟩)
 ((refine gp rfl (fun _ f=>?_);replace hF:=MF.keep hF (RK.keep f);clear f);rw[fq];simp only[fv,gA,gB,gC,Nat.reduceAdd,dB,List.range,List.range.loop];refine⟨DM.nil,?_⟩)
 ((refine gp rfl (fun _ f=>?_);replace hF:=MF.keep hF (RK.keep f);clear f);refine gD rfl rfl (by decide) (fun K h=>?_);have l:=MF.s hF;have m:=MF.x hF;have k:=MF.vs hF;(try simp only[ptr]at *);go_simp;refine h _ _ ⟨⟨fun _ _=>rfl,rfl,rfl,fun e he=>?_⟩,?_⟩;(focus(clear h;have hm:=gu he;simp[go_sem, *]at hm;(try(subst hm;exact⟨_,_,rfl,by simp[k],by simp⟩))));clear h K l m k)
 ((refine gp rfl (fun _ f=>?_);replace hF:=MF.keep hF (RK.keep f);clear f);rw[stepG_region_end];simp only[fv];refine⟨DM.nil,?_⟩)
 ((refine gp rfl (fun _ f=>?_);replace hF:=MF.keep hF (RK.keep f);clear f);rw[stepG_seq];simp only[fv];refine⟨DM.nil,?_⟩)
 (refine gp rfl (fun _ f=>?_);replace hF:=MF.keep hF (RK.keep f);clear f);rw[fp (t:=false) (by simp[Act.eval])];simp only[fv,dG,↓reduceIte];refine⟨DM.nil,?_⟩
 (refine gp rfl (fun _ f=>?_);replace hF:=MF.keep hF (RK.keep f);clear f);refine goes_exit rfl ?_;refine⟨DM.nil,?_⟩;exact fM fun w₁ f=>⟨hF.keep f.keep,rfl⟩
end
end
section
open Go.Conc Go.ConcN Go.Conc.Lib Go.ConcR.Gen Go.ConcN.Gen Go.Proofs.YtjnkcibpkkjniaaGreat.j7
open Go.ConcR (KK wgBlock WgAt stA smA rd wr mk DC0)
section
variable {p:WI} {B:WB} {V W:Nat→Prop} {cs:List Frame} {w:World}
structure kt (p:WI) (B:WB) (V:Nat→Prop) (b:Nat) (o:Obj) (w:World):Prop where
 f:MF p B V w
 v:V b
 o:w.heap[b]?=some o
theorem kt.keep{b:Nat}{o:Obj}{w₁:World}(h:kt p B V b o w)(k:∀b,V b→w₁.heap[b]?=w.heap[b]?):kt p B V b o w₁:=⟨h.f.keep k,h.v,(k _ h.v).trans h.o⟩
variable {b:Nat}
theorem MF.zM{w₁:World}(h:MF p B V w)(e:b≠B.bS∧b≠B.bN∧b≠B.bC∧b≠B.bG∧b≠p.sp)(k:∀x,x≠b→w₁.heap[x]?=w.heap[x]?):MF p B V w₁ :=
 ⟨(gv (k _ (dE e.1)) _).trans h.s,(gv (k _ (dE e.2.1)) _).trans h.n,(gv (k _ (dE e.2.2.1)) _).trans h.c,(gv (k _ (dE e.2.2.2.1)) _).trans h.g,(gv (k _ (dE e.2.2.2.2)) _).trans h.id,(gv (k _ (dE e.2.2.2.2)) _).trans h.x,h.vs⟩
variable {c:Array Value} {ty:TypeId} {fr:Nat×Nat}
theorem cell_of(h:w.heap[b]?=some (.cells c ty fr))(o:Nat):w.cell? ⟨b,o,none⟩=c[o]?:=by simp[World.cell?,h]
theorem qO(h:w.heap[b]?=some (.cells c ty (0,0)))(o:Nat):w.frozen? ⟨b,o,none⟩=false:=by simp[World.frozen?,h]
theorem qP(h:w.heap[b]?=some (.cells c ty fr))(o:Nat)(v:Value):(w.setCell ⟨b,o,none⟩ v).heap[b]?=some (.cells (c.setIfInBounds o v) ty fr):=by
 simp[World.setCell,dC,h]
theorem oB{b':Nat}(h:b≠b')(o:Nat)(v:Value):(w.setCell ⟨b,o,none⟩ v).heap[b']?=w.heap[b']?:=by
 simp[World.setCell,dC,h]
variable {j bI:Nat} {v25 v26:Value}
theorem JU{v24:Value}(hW:W bI)(l:bI≠B.bS∧bI≠B.bN∧bI≠B.bC∧bI≠B.bG∧bI≠p.sp)(hF:kt p B V bI (.cells #[.int .i64 0] 3) w):Goes Tryz.prog true (RK Tryz.link.tWg B.Wg V) (DM V W) (fun g w=>kt p B V bI (.cells #[.int .i64 j] 3) w∧g=G (gf.at ⟨#[box B.Wg,mF 59 (sW B bI),undef,undef,undef,undef,undef],[]⟩ (.inRegion um [0,1]::[.code wa])) (wf.at ⟨LT p B (.int .i64 j) (ptr bI) (.bool true) (.int .i64 j) (mF 59 (sW B bI)) v25 v26,[]⟩ (.inRegion ui [1]::uj)::cs)) 12
   (G (wf.at ⟨LT p B (.int .i64 j) (ptr bI) (.bool true) (.int .i64 j) v24 v25 v26,[]⟩ (.inRegion vZ [2]::.code (.region 7 ui false)::uj)) cs) w:=by
 simp only[LT,vZ,ui,uj,rI,oT,Tryz.f35]
 (refine gp rfl (fun _ h=>?_);replace hF:=kt.keep hF (RK.keep h);clear h);rw[Cz (ad:=⟨bI,0,none⟩) (v:=.int .i64 j) (u:=.int .i64 0) rfl rfl (by decide) rfl rfl rfl (.inr ⟨_,_,rfl⟩) Tryz.isAgg3 Tryz.sizeOf3 (cell_of hF.o 0) (qO hF.o 0) (by kernel_rfl)];simp only[fv];refine⟨⟨fun b hb=>oB (fun e:bI=b=>hb (by rw[←e];exact hW)) _ _,by simp[World.setCell],rfl,fun e he=>?_⟩,?_⟩
 ·rw[gT]at he;subst he;exact⟨_,_,rfl,hF.v,fun _=>hW⟩
 have hF:kt p B V bI (.cells #[.int .i64 j] 3) (World.setCell _ ⟨bI,0,none⟩ (.int .i64 j)):=⟨hF.f.zM (b:=bI) l (fun b hb=>oB (dE hb) _ _),hF.v,qP hF.o _ _⟩;walk_nrm
 ((refine gp rfl (fun _ h=>?_);replace hF:=kt.keep hF (RK.keep h);clear h);rw[stepG_region_end];simp only[fv];refine⟨DM.nil,?_⟩)
 ((refine gp rfl (fun _ h=>?_);replace hF:=kt.keep hF (RK.keep h);clear h);rw[fq];simp only[fv,gA,gB,gC,Nat.reduceAdd,dB,List.range,List.range.loop];refine⟨DM.nil,?_⟩)
 ((refine gp rfl (fun _ h=>?_);replace hF:=kt.keep hF (RK.keep h);clear h);refine gD rfl rfl (by decide) (fun K k=>?_);go_simp;refine k _ _ ⟨⟨fun _ _=>rfl,rfl,rfl,fun e he=>?_⟩,?_⟩;(focus(clear k;have hm:=gu he;simp[go_sem]at hm));clear k K)
 (refine gp rfl (fun _ h=>?_);replace hF:=kt.keep hF (RK.keep h);clear h);refine ft rfl rfl (by decide) rfl Tryz.func58 rfl rfl ⟨DM.nil,?_⟩
 walk_nrmf Tryz.f58
 ((refine gp rfl (fun _ h=>?_);replace hF:=kt.keep hF (RK.keep h);clear h);rw[stepG_seq];simp only[fv];refine⟨DM.nil,?_⟩)
 ((refine gp rfl (fun _ h=>?_);replace hF:=kt.keep hF (RK.keep h);clear h);rw[fq];simp only[fv,gA,gB,gC,Nat.reduceAdd,dB,List.range,List.range.loop];refine⟨DM.nil,?_⟩);exact fM fun w₁ h=>⟨hF.keep h.keep,rfl⟩
structure lh (p:WI) (B:WB) (V:Nat→Prop) (j bI bW bF:Nat) (w:World):Prop where
 f:MF p B V w
 v:V bI∧V bW∧V bF
 i:w.heap[bI]?=some (.cells #[.int .i64 j] 3)
 gw:w.heap[bW]?=some (.cells #[box B.Wg] 168)
 c:w.heap[bF]?=some (.cells #[mF 59 (sW B bI)] 1)
theorem lh.keep{j bI bW bF:Nat}{w₁:World}(h:lh p B V j bI bW bF w)(k:∀b,V b→w₁.heap[b]?=w.heap[b]?):lh p B V j bI bW bF w₁:=⟨h.f.keep k,h.v,(k _ h.v.1).trans h.i,(k _ h.v.2.1).trans h.gw,(k _ h.v.2.2).trans h.c⟩
noncomputable def qy (B:WB) (bI:Nat) (bW bF:Nat) (v4 v5 v6:Value):Array Value:=#[box B.Wg,mF 59 (sW B bI),box bW,box bF,v4,v5,v6]
noncomputable def qQ (p:WI) (B:WB) (j bI:Nat) (v25 v26:Value) (cs:List Frame):List Frame:=wf.at ⟨LT p B (.int .i64 j) (ptr bI) (.bool true) (.int .i64 j) (mF 59 (sW B bI)) v25 v26,[]⟩ (.inRegion ui [1]::uj)::cs
variable {bW bF:Nat}
theorem JV(hF:lh p B V j bI bW bF w):Goes Tryz.prog true (RK Tryz.link.tWg B.Wg V) (DM V W) (fun g w=>lh p B V j bI bW bF w∧g=G ((base Tryz.link.add).at ⟨#[.pointer (some ⟨B.Wg,0,none⟩),.int .i64 1]++Array.replicate 115 undef,[]⟩ [.code (body_add Tryz.link)]) (gf.at ⟨qy B bI bW bF (box B.Wg) undef undef,[]⟩ (.inRegion ve [1]::[.code (.region 2 qN false)])::qQ p B j bI v25 v26 cs)) 12
   (G (gf.at ⟨qy B bI bW bF undef undef undef,[]⟩ (.inRegion um []::[.code wa])) (qQ p B j bI v25 v26 cs)) w:=by
 simp only[qy,um,ve,qN,wa,uk,Tryz.f58,ez]
 ((refine gp rfl (fun _ f=>?_);replace hF:=lh.keep hF (RK.keep f);clear f);rw[stepG_region_end];simp only[fv];refine⟨DM.nil,?_⟩)
 ((refine gp rfl (fun _ f=>?_);replace hF:=lh.keep hF (RK.keep f);clear f);rw[stepG_seq];simp only[fv];refine⟨DM.nil,?_⟩)
 ((refine gp rfl (fun _ f=>?_);replace hF:=lh.keep hF (RK.keep f);clear f);rw[fq];simp only[fv,gA,gB,gC,Nat.reduceAdd,dB,List.range,List.range.loop];refine⟨DM.nil,?_⟩)
 ((refine gp rfl (fun _ f=>?_);replace hF:=lh.keep hF (RK.keep f);clear f);refine gD rfl rfl (by decide) (fun K h=>?_);have k:=cell_of (lh.gw hF) 0;have l:=lh.v hF;simp only[fR,fS,box]at k;(try simp only[box]);go_simp;refine h _ _ ⟨⟨fun _ _=>rfl,rfl,rfl,fun e he=>?_⟩,?_⟩;(focus(clear h;have hm:=gu he;simp[go_sem,box, *]at hm;(try(subst hm;exact⟨_,_,rfl,by simp[l],by simp⟩))));clear h K k l)
 (refine gp rfl (fun _ f=>?_);replace hF:=lh.keep hF (RK.keep f);clear f);refine ft (c:=body_add Tryz.link) rfl rfl (by decide) rfl Tryz.uc.f_add rfl rfl ⟨DM.nil,?_⟩;walk_nrm;refine fM fun w₁ f=>⟨hF.keep f.keep,?_⟩
 have m:(addFn Tryz.link).ntmps=117:=rfl;rw[m];walk_nrm;rfl
theorem JW(hF:lh p B V j bI bW bF w):Goes Tryz.prog true (RK Tryz.link.tWg B.Wg V) (DM V W) (fun g w=>lh p B V j bI bW bF w∧g=G (gf.at ⟨qy B bI bW bF (box B.Wg) (.tuple #[]) (mF 76 #[box bW,box bF]),[]⟩ [.inRegion qN [1]]) (qQ p B j bI v25 v26 cs)) 12
   (G (gf.at ⟨qy B bI bW bF (box B.Wg) (.tuple #[]) undef,[]⟩ (.inRegion ve []::[.code (.region 2 qN false)])) (qQ p B j bI v25 v26 cs)) w:=by
 simp only[qy,ve,qN,uk,Tryz.f58,ez]
 ((refine gp rfl (fun _ f=>?_);replace hF:=lh.keep hF (RK.keep f);clear f);rw[stepG_region_end];simp only[fv];refine⟨DM.nil,?_⟩)
 ((refine gp rfl (fun _ f=>?_);replace hF:=lh.keep hF (RK.keep f);clear f);rw[fq];simp only[fv,gA,gB,gC,Nat.reduceAdd,dB,List.range,List.range.loop];refine⟨DM.nil,?_⟩)
 ((refine gp rfl (fun _ f=>?_);replace hF:=lh.keep hF (RK.keep f);clear f);refine gD rfl rfl (by decide) (fun K h=>?_);have k:=cell_of (lh.gw hF) 0;have l:=lh.v hF;simp only[fR,fS,box]at k;(try simp only[box]);go_simp;refine h _ _ ⟨⟨fun _ _=>rfl,rfl,rfl,fun e he=>?_⟩,?_⟩;(focus(clear h;have hm:=gu he;simp[go_sem,box, *]at hm;(try(subst hm;exact⟨_,_,rfl,by simp[l],by simp⟩))));clear h K k l);exact fM fun w₁ f=>⟨hF.keep f.keep,rfl⟩
theorem JX(n:(j:Int)+1<9223372036854775808)(hF:lh p B V j bI bW bF w):Goes Tryz.prog true (RK Tryz.link.tWg B.Wg V) (DM V W) (fun g w=>lh p B V j bI bW bF w∧g=head p B (j+1) (ptr bI) (.bool true) (.int .i64 j) (mF 59 (sW B bI)) (.tuple #[]) (.int .i64 (j+1:Nat)) cs) 20
   (G (gf.at ⟨qy B bI bW bF (box B.Wg) (.tuple #[]) (mF 76 #[box bW,box bF]),[]⟩ [.inRegion qN []]) (qQ p B j bI v25 v26 cs)) w:=by
 simp only[qy,qN,uk,Tryz.f58,ez]
 ((refine gp rfl (fun _ f=>?_);replace hF:=lh.keep hF (RK.keep f);clear f);rw[stepG_region_end];simp only[fv];refine⟨DM.nil,?_⟩)
 ((refine gp rfl (fun _ f=>?_);replace hF:=lh.keep hF (RK.keep f);clear f);rw[fU];simp only[fv];refine⟨DM.nil,?_⟩);simp only[qQ,LT,ui,CI,uj,rI,oT,Tryz.f35]
 (refine gp rfl (fun _ f=>?_);replace hF:=lh.keep hF (RK.keep f);clear f);refine goes_leave0 rfl rfl Tryz.func58 rfl ⟨DM.nil,?_⟩;walk_nrm
 ((refine gp rfl (fun _ f=>?_);replace hF:=lh.keep hF (RK.keep f);clear f);rw[stepG_region_end];simp only[fv];refine⟨DM.nil,?_⟩)
 ((refine gp rfl (fun _ f=>?_);replace hF:=lh.keep hF (RK.keep f);clear f);rw[stepG_inBlock];simp only[fv];refine⟨DM.nil,?_⟩)
 ((refine gp rfl (fun _ f=>?_);replace hF:=lh.keep hF (RK.keep f);clear f);rw[fq];simp only[fv,gA,gB,gC,Nat.reduceAdd,dB,List.range,List.range.loop];refine⟨DM.nil,?_⟩);have m:IntKind.i64.wrap ((j:Int)+1)=((j+1:Nat):Int):=by rw[iw];omega
 ((refine gp rfl (fun _ f=>?_);replace hF:=lh.keep hF (RK.keep f);clear f);refine gD rfl rfl (by decide) (fun K h=>?_);have k:=cell_of (lh.gw hF) 0;have l:=lh.v hF;simp only[fR,fS,box]at k;(try simp only[box]);go_simp;refine h _ _ ⟨⟨fun _ _=>rfl,rfl,rfl,fun e he=>?_⟩,?_⟩;(focus(clear h;have hm:=gu he;simp[go_sem,box, *]at hm;(try(subst hm;exact⟨_,_,rfl,by simp[l],by simp⟩))));clear h K k l)
 ((refine gp rfl (fun _ f=>?_);replace hF:=lh.keep hF (RK.keep f);clear f);refine gD rfl rfl (by decide) (fun K h=>?_);have k:=cell_of (lh.gw hF) 0;have l:=lh.v hF;simp only[fR,fS,box]at k;(try simp only[box]);go_simp;refine h _ _ ⟨⟨fun _ _=>rfl,rfl,rfl,fun e he=>?_⟩,?_⟩;(focus(clear h;have hm:=gu he;simp[go_sem,box, *]at hm;(try(subst hm;exact⟨_,_,rfl,by simp[l],by simp⟩))));clear h K k l)
 ((refine gp rfl (fun _ f=>?_);replace hF:=lh.keep hF (RK.keep f);clear f);rw[stepG_region_end];simp only[fv];refine⟨DM.nil,?_⟩)
 ((refine gp rfl (fun _ f=>?_);replace hF:=lh.keep hF (RK.keep f);clear f);rw[stepG_inLoop];simp only[fv];refine⟨DM.nil,?_⟩);exact fM fun w₁ f=>⟨hF.keep f.keep,rfl⟩
end
end
section
open Go.Conc Go.ConcN Go.Conc.Lib Go.ConcR.Gen Go.ConcN.Gen Go.Proofs.YtjnkcibpkkjniaaGreat.j7
open Go.ConcR (KK wgBlock WgAt stA smA rd wr mk DC0)
variable [Scope]
structure PC where
 B0:Nat
 pk:Machine→Nat×Nat×Option (Nat×Nat)
 m0:Machine
 t0:Trace
 Gt:Nat→Tape
 Sc:Nat→Prop
 lM:Goroutine→World→Prop
 mC:Nat
 Shun:Loc→Prop
noncomputable abbrev PX (p:WI) (B:WB) (c:PC) (J:Nat→lC):Ctx:=⟨Tryz.prog,⟨c.B0,p.xl,B.Wg,B.CB,B.CF,Tryz.link.tWg,.tuple #[]⟩,c.pk,c.m0,c.t0,c.Gt,J,c.Sc,c.lM,c.mC,c.Shun⟩
def sX (p:WI) (B:WB) (j bI bW bF:Nat) (m:Value):Wk:=⟨B.Wg,B.CB,bW,bF,B.bC,bI,B.bS,B.bN,j,p.sp,p.so,p.id,p.xb,p.xo,p.xl,p.xc,p.nb,p.no,p.nl,p.nc,m⟩
def uo (p:WI) (B:WB) (j:Nat) (m:Value) (ρ:jR) (args:Array Value) (wS:World) (R:Value→World→Prop) (S:Nat→Prop):lC:=((sX p B j 0 0 0 m).u9 ρ args wS R).kF S
theorem CJ{P:Program}{main:Bool}{b:Frame}{a:Act}{kk:List Item}{cs:List Frame}{w:World}{ops:Array Oper}{i:Nat}{rest:List Nat}{o:Oper}{f:FuncId}{caps:Array Value}{x:Operand}(h:ops[i]?=some o)(hw:Region.wanted o (yielded ops a.tmps)=true)(k:b.kind≠.early)(e:o.op=.go { callee:=.value x,args:=#[],argTypes:=#[] })(g:a.eval x=mF f caps):stepG P main (G (b.at a (.inRegion ops (i::rest)::kk)) cs) w=.spawn (G (b.at (a.put o.dst undef) (.inRegion ops rest::kk)) cs) (born P (oP f caps)) w #[]:=by
 have hr:(execOp a.eval o).run P w=.ok (.spawn (oP f caps)) w:=by
  unfold execOp;simp[e,resolve,Deferred.ofValue,g,oP,mF]
 have he:(execOp a.eval o).events P w #[]=#[]:=by
  unfold execOp;simp[e,resolve,Deferred.ofValue,g,mF]
 rw[stepG_spawn h hw k hr rfl,hD he]
structure JY (s s':St) (w w':World):Prop where
 j:s'.j=s.j+1
 p:s'.p=0
 d0:s'.d0=0
 sp:s'.tag=.sp
 got:s'.got=s.got
 V:∀b,s.V b→s'.V b
 W:∀b,s.V b→s'.W b→s.W b
 heap:∀b,s.V b→¬s.W b→w'.heap[b]?=w.heap[b]?
section
variable {p:WI} {B:WB} {c:PC} {J:Nat→lC} {s:St} {w:World} {cs:List Frame}
structure nu (s s':St) (w w':World):Prop where
 V:∀b,s.V b→s'.V b
 W:∀b,s.V b→s'.W b→s.W b
 heap:∀b,s.V b→¬s.W b→w'.heap[b]?=w.heap[b]?
theorem nu.refl(s:St)(w:World):nu s s w w:=⟨fun _ h=>h,fun _ _ h=>h,fun _ _ _=>rfl⟩
variable {s' s2:St} {w' w2:World}
theorem nu.same(h:nu s s' w w')(e:s2.V=s'.V)(hW:s2.W=s'.W)(f:∀b,s'.V b→¬s'.W b→w2.heap[b]?=w'.heap[b]?):nu s s2 w w2 :=
 ⟨fun b k=>by rw[e];exact h.V b k,fun b k k2=>h.W b k (by rw[←hW];exact k2),fun b k k2=>(f b (h.V b k) fun x=>k2 (h.W b k x)).trans (h.heap b k k2)⟩
theorem nu.new{b:Nat}{o:Obj}(h:nu s s' w w')(r:zJ s' s2 b o w' w2):nu s s2 w w2 :=
 ⟨fun x k=>by rw[r.V];exact .inl (h.V x k),fun x k k2=>by
  rw[r.W]at k2;rcases k2 with k2|rfl
  ·exact h.W x k k2
  ·exact absurd (h.V x k) r.out,fun x k k2=>(r.heap x (h.V x k)).trans (h.heap x k k2)⟩
theorem round[ki Tryz.prog][lu Tryz.prog](y:(PX p B c J).Good){j:Nat}{v8 v22 v23 v24 v25 v26 m:Value}{ρ:jR}{args:Array Value}{wS:World}{R:Value→World→Prop}{S0:Nat→Prop}(h:At (PX p B c J) s w (head p B j v8 v22 v23 v24 v25 v26 cs))(j3:s.tag=.sp)(hp:s.p=0)(hd:s.d0=0)(hj:s.j=j)(r:j<p.xl)(O:p.xl<2147483647)(ag:j<p.nl)(hF:MF p B s.V w)(F:s.V p.nb)(hW:¬s.W B.bS∧¬s.W B.bN∧¬s.W B.bC∧¬s.W B.bG∧¬s.W p.sp∧¬s.W p.nb)(hm:w.cell? ⟨p.nb,p.no+j,none⟩=some m)(hJ:J j=uo p B j m ρ args wS R S0):∃S' s' w' v8 v22 v23 v24 v25 v26,At (PX p B c (upd J j ((J j).kF S'))) s' w' (head p B (j+1) v8 v22 v23 v24 v25 v26 cs)∧JY s s' w w':=by
 obtain⟨s1,w1,a1,h1,q1,r1⟩:=h.walk y (fun g w k=>by rw[k.2];rfl) (JQ (W:=s.W) (cs:=cs) (v8:=v8) (v22:=v22) (v23:=v23) (v24:=v24) (v25:=v25) (v26:=v26) r O hF);obtain⟨f1,rfl⟩:=q1 w1 (RK.refl _);have k1:=(nu.refl s w).same r1.V r1.W r1.heap;obtain⟨s2,w2,bI,h2,r2⟩:=h1.new y rfl (o:=.cells #[.int .i64 0] 3) (a':=fun b=>G (wf.at ⟨LT p B (.int .i64 j) (ptr b) (.bool true) (.int .i64 j) v24 v25 v26,[]⟩ (.inRegion vZ [2]::.code (.region 7 ui false)::uj)) cs) (fun w₁=>by
  rw[xU (b:=wf) (ops:=vZ) (i:=1) (elem:=3) rfl rfl (by decide) rfl Tryz.zeroValue3 (sg (by kernel_rfl))];rfl)
 have k2:=k1.new r2;have e1:s1.V=s.V:=r1.V;have q:∀b,s.V b→bI≠b:=fun b hb e=>r2.out (by rw[e1,e];exact hb)
 have f2:MF p B s2.V w2:=by
  have:=f1.keep (w₁:=w2) fun b hb=>r2.heap b (by rw[e1];exact hb)
  exact⟨this.s,this.n,this.c,this.g,this.id,this.x,k2.V _ hF.vs.1,k2.V _ hF.vs.2.1,k2.V _ hF.vs.2.2.1,k2.V _ hF.vs.2.2.2.1,k2.V _ hF.vs.2.2.2.2⟩
 have Q:s2.V bI:=by rw[r2.V];exact .inr rfl
 obtain⟨s3,w3,a3,h3,q3,A⟩:=h2.walk y (fun g w k=>by rw[k.2];rfl) (JU (j:=j) (cs:=cs) (v24:=v24) (v25:=v25) (v26:=v26) (W:=s2.W) (by rw[r2.W];exact .inr rfl) ⟨q _ hF.vs.1,q _ hF.vs.2.1,q _ hF.vs.2.2.1,q _ hF.vs.2.2.2.1,q _ hF.vs.2.2.2.2⟩ ⟨f2,Q,r2.new⟩);obtain⟨f3,rfl⟩:=q3 w3 (RK.refl _);have k3:=k2.same A.V A.W A.heap;obtain⟨s4,w4,bW,h4,t⟩:=h3.new y rfl (o:=.cells #[box B.Wg] 168) (a':=fun b=>G (gf.at ⟨#[box B.Wg,mF 59 (sW B bI),box b,undef,undef,undef,undef],[]⟩ (.inRegion um [1]::[.code wa])) (qQ p B j bI v25 v26 cs)) (fun w₁=>by
  rw[zF (b:=gf) (ops:=um) (i:=0) (elem:=168) (x:=.tmp 0) rfl rfl (by decide) rfl];rfl)
 have k4:=k3.new t;obtain⟨s5,w5,bF,h5,u⟩:=h4.new y rfl (o:=.cells #[mF 59 (sW B bI)] 1) (a':=fun b=>G (gf.at ⟨qy B bI bW b undef undef undef,[]⟩ (.inRegion um []::[.code wa])) (qQ p B j bI v25 v26 cs)) (fun w₁=>by
  rw[zF (b:=gf) (ops:=um) (i:=1) (elem:=1) (x:=.tmp 1) rfl rfl (by decide) rfl];rfl)
 have N:=k4.new u;have e3:s3.V=s2.V:=A.V;have v4:∀b,s3.V b→s4.V b:=fun b hb=>by rw[t.V];exact .inl hb
 have v5:∀b,s4.V b→s5.V b:=fun b hb=>by rw[u.V];exact .inl hb
 have f5:lh p B s5.V j bI bW bF w5:=by
  have g4:kt p B s3.V bI (.cells #[.int .i64 j] 3) w4:=by rw[e3];exact f3.keep fun b hb=>t.heap b (by rw[e3];exact hb)
  have H:kt p B s3.V bI (.cells #[.int .i64 j] 3) w5:=g4.keep fun b hb=>u.heap b (v4 b hb)
  exact⟨⟨H.f.s,H.f.n,H.f.c,H.f.g,H.f.id,H.f.x,N.V _ hF.vs.1,N.V _ hF.vs.2.1,N.V _ hF.vs.2.2.1,N.V _ hF.vs.2.2.2.1,N.V _ hF.vs.2.2.2.2⟩,
   ⟨v5 _ (v4 _ (by rw[e3];exact Q)),v5 _ (by rw[t.V];exact .inr rfl),by rw[u.V];exact .inr rfl⟩,H.o,(u.heap bW (by rw[t.V];exact .inr rfl)).trans t.new,u.new⟩
 obtain⟨z,w6,a6,h6,q6,C⟩:=h5.walk y (fun g w k=>by rw[k.2];rfl) (JV (W:=s5.W) (cs:=cs) (v25:=v25) (v26:=v26) f5);obtain⟨f6,rfl⟩:=q6 w6 (RK.refl _);have k6:=N.same C.V C.W C.heap;have e6:z.V=s5.V:=C.V;rw[←e6]at f6;obtain⟨ah,ai⟩:=h6.facts;have T:sd (RK Tryz.link.tWg B.Wg z.V) (lh p B z.V j bI bW bF) Tryz.link.tWg B.Wg:=⟨RK.trans,fun _ _ h=>h.live,fun _ _ h U=>U.keep h.keep,fun w a v ha U=>U.keep fun b hb=>(aside_setCell w a v).block b (by rw[ha];exact(ai b hb).2.1)⟩;have X:=IP (mn:=true) (Next:=fun g w=>lh p B z.V j bI bW bF w∧g=G (gf.at ⟨qy B bI bW bF (box B.Wg) (.tuple #[]) undef,[]⟩ (.inRegion ve []::[.code (.region 2 qN false)])) (qQ p B j bI v25 v26 cs)) (mT:=0) Tryz.uc T (b₀:=gf) (a₀:=⟨qy B bI bW bF (box B.Wg) undef undef,[]⟩) (ops₀:=ve) (i₀:=1) (rest₀:=[]) (k₀:=[.code (.region 2 qN false)]) (cs:=qQ p B j bI v25 v26 cs)
  (fun w U _=>fM fun w₁ l=>⟨U.keep l.keep,rfl⟩) w6 ⟨f6,ah⟩
 have E:z.tag=.sp:=(C.sp.trans (u.sp.trans (t.sp.trans (A.sp.trans (r2.sp.trans r1.sp))))).2 j3;have aj:z.p=0:=C.p.trans (u.p.trans (t.p.trans (A.p.trans (r2.p.trans (r1.p.trans hp)))));have ak:z.d0=0:=C.d0.trans (u.d0.trans (t.d0.trans (A.d0.trans (r2.d0.trans (r1.d0.trans hd)))));have Y:z.j=j:=C.j.trans (u.j.trans (t.j.trans (A.j.trans (r2.j.trans (r1.j.trans hj)))));have al:z.got=s.got:=C.got.trans (u.got.trans (t.got.trans (A.got.trans (r2.got.trans r1.got))));obtain⟨s7,w7,a7,h7,q7,I,am,an⟩:=h6.add y (fun g w k=>by rw[k.2];rfl) E aj ak (by rw[Y];exact r) X;obtain⟨f7,rfl⟩:=q7 w7 (RK.refl _);have k7:=k6.same I.V I.W I.heap;have e7:s7.V=z.V:=I.V;rw[←e7]at f7;obtain⟨Z,w8,a8,h8,q8,D⟩:=h7.walk y (fun g w k=>by rw[k.2];rfl) (JW (W:=s7.W) (cs:=cs) (v25:=v25) (v26:=v26) f7);obtain⟨f8,rfl⟩:=q8 w8 (RK.refl _);have K:=k7.same D.V D.W D.heap;have e8:Z.V=s7.V:=D.V;rw[←e8]at f8;have aa:Z.tag=.sp:=(D.sp.trans I.sp).2 E;have L:Z.j=j:=D.j.trans (I.j.trans Y);have ao:∀w₁,RK Tryz.link.tWg B.Wg Z.V w8 w₁→WF (sX p B j bI bW bF m) w₁:=fun w₁ l=>by
  have g:=f8.keep l.keep;have ab:w₁.heap[p.nb]?=w.heap[p.nb]?:=(l.keep _ (K.V _ F)).trans (K.heap _ F hW.2.2.2.2.2);exact⟨cell_of g.gw 0,cell_of g.c 0,g.f.c,cell_of g.i 0,g.f.s,g.f.id,g.f.x.trans (by rw[WI.CH (ix (eI _) r)];rfl),g.f.n,(gv ab _).trans hm,r,ag,l.live h8.facts.1⟩
 obtain⟨s9,w9,a9,h9,q9,ad,ap,aq,ar,au,av,aw,ae⟩:=h8.fork y rfl aa (D.p.trans am) (D.d0.trans an) (by rw[L];exact r) (S':=(sX p B j bI bW bF m).S)
  (fun b hb=>by
   have g:=f8;rcases hb with rfl|rfl|rfl|rfl|rfl|rfl|rfl|rfl
   ·exact g.v.2.1
   ·exact g.v.2.2
   ·exact g.f.vs.2.2.1
   ·exact g.v.1
   ·exact g.f.vs.1
   ·exact g.f.vs.2.1
   ·exact g.f.vs.2.2.2.2
   ·exact K.V _ F)
  (Post:=fun g w=>g=G (gf.at ⟨qy B bI bW bF (box B.Wg) (.tuple #[]) (mF 76 #[box bW,box bF]),[]⟩ [.inRegion qN []]) (qQ p B j bI v25 v26 cs))
  (fun w₁ l=>⟨_,_,CJ (b:=gf) (ops:=qN) (i:=1) (f:=76) (caps:=#[box bW,box bF]) (x:=.tmp 6) rfl rfl (by decide) rfl rfl,⟨_,by
   rw[L,show(PX p B c J).J j=uo p B j m ρ args wS R S0 from hJ];exact Jp (p:=sX p B j bI bW bF m) (B:=c.B0) (n:=p.xl) (CF:=B.CF) (ao w₁ l)⟩,rfl⟩)
 subst q9;rw[L]at h9 ad;have e9:s9.V=Z.V:=ar;have k9:nu s s9 w w9:=⟨fun b k=>by rw[e9];exact K.V b k,fun b k k2=>by rw[au]at k2;exact K.W b k k2.1,fun b k k2=>(ae b (K.V b k)).trans (K.heap b k k2)⟩;have f9:lh p B s9.V j bI bW bF w9:=by rw[e9];exact f8.keep ae
 have ax:(PX p B c (upd J j ((J j).kF (sX p B j bI bW bF m).S))).Good:=y.kF j (sX p B j bI bW bF m).S;have h9:At (PX p B c (upd J j ((J j).kF (sX p B j bI bW bF m).S))) s9 w9 _:=h9;obtain⟨ay,af,aB,az,aA,nW⟩:=h9.walk ax (fun g w k=>by rw[k.2];rfl) (JX (W:=s9.W) (cs:=cs) (v25:=v25) (v26:=v26) (by omega) f9);obtain⟨f10,rfl⟩:=aA af (RK.refl _);have M:=k9.same nW.V nW.W nW.heap;refine⟨_,ay,af,_,_,_,_,_,_,az,?_,nW.p.trans ap,nW.d0.trans aq,nW.sp.2 av,nW.got.trans (aw.trans (D.got.trans (I.got.trans al))),M.V,M.W,M.heap⟩;rw[nW.j,ad,hj]
end
end
section
open Go.Conc Go.ConcN Go.Conc.Lib Go.ConcR.Gen Go.ConcN.Gen Go.Proofs.YtjnkcibpkkjniaaGreat.j7
open Go.ConcR (KK wgBlock WgAt stA smA rd wr mk DC0)
variable [Scope]
structure JD where
 m:Nat→Value
 ρ:Nat→jR
 args:Nat→Array Value
 wS:Nat→World
 R:Nat→Value→World→Prop
def JD.is (d:JD) (p:WI) (B:WB) (J:Nat→lC):Prop:=∀i,i<p.xl→∃S,J i=uo p B i (d.m i) (d.ρ i) (d.args i) (d.wS i) (d.R i) S
theorem JD.is.set{d:JD}{p:WI}{B:WB}{J:Nat→lC}(h:d.is p B J)(j:Nat)(S:Nat→Prop):d.is p B (upd J j ((J j).kF S)):=fun i f=>by
 by_cases e:i=j
 ·subst e;obtain⟨g,e⟩:=h i f;exact⟨S,by rw[fg,e];rfl⟩
 ·rw[fi _ _ e];exact h i f
section
variable {p:WI} {B:WB} {c:PC} {cs:List Frame} {d:JD}
theorem rounds[ki Tryz.prog][lu Tryz.prog](q:p.xl<2147483647)(C:p.xl≤p.nl):∀(k j:Nat),j+k=p.xl→∀{J:Nat→lC}{s:St}{w:World}{v8 v22 v23 v24 v25 v26:Value},(PX p B c J).Good→d.is p B J →
  At (PX p B c J) s w (head p B j v8 v22 v23 v24 v25 v26 cs)→s.tag=.sp→s.p=0→s.d0=0→s.j=j→MF p B s.V w→s.V p.nb→(¬s.W B.bS∧¬s.W B.bN∧¬s.W B.bC∧¬s.W B.bG∧¬s.W p.sp∧¬s.W p.nb)→(∀i,i<p.xl→w.cell? ⟨p.nb,p.no+i,none⟩=some (d.m i)) →
  ∃t s' w' v8 v22 v23 v24 v25 v26,(PX p B c t).Good∧d.is p B t∧At (PX p B c t) s' w' (head p B p.xl v8 v22 v23 v24 v25 v26 cs)∧s'.tag=.sp∧s'.p=0∧s'.d0=0∧s'.j=p.xl∧s'.got=s.got∧MF p B s'.V w'∧nu s s' w w':=by
 intro k
 induction k with
 |zero =>
  intro j z J s w v8 v22 v23 v24 v25 v26 u hd h j3 hp f y hF e hW hm;obtain rfl:j=p.xl:=by omega
  exact⟨J,s,w,_,_,_,_,_,_,u,hd,h,j3,hp,f,y,rfl,hF,nu.refl s w⟩
 |succ k D =>
  intro j z J s w v8 v22 v23 v24 v25 v26 u hd h j3 hp f y hF e hW hm;obtain⟨Y,E⟩:=hd j (by omega);obtain⟨S',s1,w1,_,_,_,_,_,_,F,r⟩:=round u h j3 hp f y (by omega) q (by omega) hF e hW (hm j (by omega)) E;have A:MF p B s1.V w1 :=
   ⟨(gv (r.heap _ hF.vs.1 hW.1) _).trans hF.s,(gv (r.heap _ hF.vs.2.1 hW.2.1) _).trans hF.n,(gv (r.heap _ hF.vs.2.2.1 hW.2.2.1) _).trans hF.c,(gv (r.heap _ hF.vs.2.2.2.1 hW.2.2.2.1) _).trans hF.g,(gv (r.heap _ hF.vs.2.2.2.2 hW.2.2.2.2.1) _).trans hF.id,(gv (r.heap _ hF.vs.2.2.2.2 hW.2.2.2.2.1) _).trans hF.x,r.V _ hF.vs.1,r.V _ hF.vs.2.1,r.V _ hF.vs.2.2.1,r.V _ hF.vs.2.2.2.1,r.V _ hF.vs.2.2.2.2⟩
  obtain⟨t,s',w',G,H,I,K,L,M,b1,b2,N,O,Q,R,S,T,U,l⟩:=D (j+1) (by omega) (J:=upd J j ((J j).kF S')) (u.kF j S') (hd.set j S') F r.sp r.p r.d0 (by rw[r.j,y]) A (r.V _ e)
   ⟨fun x=>hW.1 (r.W _ hF.vs.1 x),fun x=>hW.2.1 (r.W _ hF.vs.2.1 x),fun x=>hW.2.2.1 (r.W _ hF.vs.2.2.1 x),fun x=>hW.2.2.2.1 (r.W _ hF.vs.2.2.2.1 x),fun x=>hW.2.2.2.2.1 (r.W _ hF.vs.2.2.2.2 x),fun x=>hW.2.2.2.2.2 (r.W _ e x)⟩
   (fun i X=>(gv (r.heap _ e hW.2.2.2.2.2) _).trans (hm i X))
  exact⟨t,s',w',G,H,I,K,L,M,b1,b2,N,O,Q,R,S,T.trans r.got,U,fun b hb=>l.V b (r.V b hb),fun b hb hw=>r.W b hb (l.W b (r.V b hb) hw),fun b hb hw=>(l.heap b (r.V b hb) fun x=>hw (r.W b hb x)).trans (r.heap b hb hw)⟩
noncomputable def wb:Array Oper:=match qx with
 | .seq (.region _ ops _) _=>ops
 |_=>#[]
noncomputable def nW:Code:=match qx with
 | .seq _ c=>c
 |_=>.skip
theorem JZ{V W:Nat→Prop}{w:World}{v21 v8 v22 v23 v24 v25 v26:Value}(hF:MF p B V w):Goes Tryz.prog true (RK Tryz.link.tWg B.Wg V) (DM V W) (fun g w=>MF p B V w∧g=G (wf.at ⟨(LT p B v21 v8 v22 v23 v24 v25 v26).setIfInBounds 27 (mF 61 #[box B.Wg,box B.bG]),[]⟩ [.inRegion wb [1],.code nW]) cs) 12
   (G (wf.at ⟨LT p B v21 v8 v22 v23 v24 v25 v26,[]⟩ [.code qx]) cs) w:=by
 simp only[LT,wb,nW,qx,oT,Tryz.f35]
 ((refine gp rfl (fun _ f=>?_);replace hF:=MF.keep hF (RK.keep f);clear f);rw[stepG_seq];simp only[fv];refine⟨DM.nil,?_⟩)
 ((refine gp rfl (fun _ f=>?_);replace hF:=MF.keep hF (RK.keep f);clear f);rw[fq];simp only[fv,gA,gB,gC,Nat.reduceAdd,dB,List.range,List.range.loop];refine⟨DM.nil,?_⟩)
 ((refine gp rfl (fun _ f=>?_);replace hF:=MF.keep hF (RK.keep f);clear f);refine gD rfl rfl (by decide) (fun K h=>?_);have l:=MF.s hF;have m:=MF.x hF;have k:=MF.vs hF;(try simp only[ptr]at *);go_simp;refine h _ _ ⟨⟨fun _ _=>rfl,rfl,rfl,fun e he=>?_⟩,?_⟩;(focus(clear h;have hm:=gu he;simp[go_sem, *]at hm;(try(subst hm;exact⟨_,_,rfl,by simp[k],by simp⟩))));clear h K l m k);exact fM fun w₁ f=>⟨hF.keep f.keep,rfl⟩
end
end
section
open Go.Conc Go.ConcN Go.Conc.Lib Go.ConcR.Gen Go.ConcN.Gen Go.Proofs.YtjnkcibpkkjniaaGreat.j7
open Go.ConcR (KK wgBlock WgAt stA smA rd wr mk DC0)
noncomputable def kI:Array Oper:=match nW with
 | .seq (.region _ ops _) _=>ops
 |_=>#[]
def v10 (p:WI) (B:WB) (ret:Value):Nat→Value
 |0=>.chan (some B.CB)
 |1=>.chan (some B.CF)
 |2|3=>.pointer (some ⟨p.sp,p.so,none⟩)
 |4=>.pointer (some ⟨p.sp,p.so+1,none⟩)
 |5=>.slice p.xa p.xl p.xc
 |6=>.int .i64 p.xl
 |7|8=>ret
 |_=>undef
def po (B:WB):List (Nat×Value):=[(2,ptr B.bS),(5,ptr B.bC),(6,ptr B.bG)]
theorem zN:kH kI [2,5,6] 36=true:=by kernel_rfl
theorem si:kI.size=9:=by kernel_rfl
theorem J0(m:Bool)(t:Nat):Region.schedule m kI t=Region.linearise .any kI t:=by
 have:Region.departs kI=false:=by kernel_rfl
 simp[Region.schedule,this]
abbrev xX (i:Nat):Bool:=i == 7 || i == 8
theorem CK{p:WI}{B:WB}{V:Nat→Prop}{ret:Value}(i:Nat)(o:Oper)(listed:Array Bool)(a:Act)(w:World)(f:kI[i]?=some o)(hr:i∈Region.ready .any kI listed)(j3:xX i=false)(k:me kI (v10 p B ret) (po B) 36 listed a)(hF:MF p B V w):(execOp a.eval o).run Tryz.prog w=.ok (.value (v10 p B ret i)) w∧∀e∈(execOp a.eval o).events Tryz.prog w #[],∃ad:Addr,e=⟨.cell ad,false,false⟩∧V ad.block:=by
 have hd:=dep k f hr;have l:i<9:=by rw[←si];exact(dp.1 f).1
 have f0:a.tmps[2]?=some (ptr B.bS):=k.fix (2,ptr B.bS) (by simp[po]);have f1:a.tmps[5]?=some (ptr B.bC):=k.fix (5,ptr B.bC) (by simp[po]);have f2:a.tmps[6]?=some (ptr B.bG):=k.fix (6,ptr B.bG) (by simp[po]);have hS:=hF.s;have hC:=hF.c;have m:=hF.g;have hx:=hF.x;have h:=hF.vs;clear hr;obtain rfl|rfl|rfl|rfl|rfl|rfl|rfl|rfl|rfl:i=0∨i=1∨i=2∨i=3∨i=4∨i=5∨i=6∨i=7∨i=8:=by omega
 all_goals first|(exfalso;revert j3;decide)|skip
 all_goals
  simp only[kI,nW,qx,oT,Tryz.f35]at f hd;simp only[fR,gx,fS,dR]at f hd;subst f;simp[Region.binds,v10]at hd
 all_goals(refine⟨?_,?_⟩)
 all_goals unfold execOp
 all_goals simp only[Act.eval,v10,du,hd,f0,f1,f2,ez,ptr]
 all_goals try simp only[v10]
 all_goals first|go_simp|trace_state
 all_goals first|exact h.1|exact h.2.1|exact h.2.2.1|exact h.2.2.2.1|exact h.2.2.2.2|done
section
variable {p:WI} {B:WB} {c:PC} {cs:List Frame} {d:JD} {J:Nat→lC} {s:St} {w:World} [Scope]
variable {V W:Nat→Prop}
theorem DM.CL{w':World}{es:Array Event}(h:DQ V w w' es):DM V W w w' es:=by
 obtain⟨⟨d,rfl⟩,f⟩:=h;exact⟨fun _ _=>rfl,rfl,rfl,fun e he=>by obtain⟨ad,g,k⟩:=f e he;exact⟨ad,false,g,k,by simp⟩⟩
def wc (p:WI) (B:WB) (V:Nat→Prop) (cs:List Frame) (g:Goroutine) (w:World):Prop :=
 MF p B V w∧∃a listed fuel t,me kI (v10 p B undef) (po B) 36 listed a∧7∈Region.ready .any kI listed∧listed.getD 8 false=false∧mr kI listed≤fuel+1 ∧
  g=G (wf.at a (.inRegion kI (7::Region.linearise.go .any kI fuel t (listed.setIfInBounds 7 true) [])::[.code .ret])) cs
variable {a:Act}
theorem J1(p:WI)(B:WB)(hd:a.defers=[])(f:a.tmps.size=36)(g:a.tmps[2]?=some (ptr B.bS))(h:a.tmps[5]?=some (ptr B.bC))(k:a.tmps[6]?=some (ptr B.bG)):me kI (v10 p B undef) (po B) 36 (Array.replicate kI.size false) a where
 defers:=hd
 size:=f
 fix:=fun x hx=>by
  simp only[po,fJ,fK,fL]at hx;rcases hx with rfl|rfl|rfl<;>assumption
 val:=fun i o d _ e=>by
  simp[du,dt]at e;split at e<;>simp at e
 ky:=by simp
 pU:=fun i o _ e=>by
  simp[du,dt]at e;split at e<;>simp at e
theorem J2{val:Nat→Value}{fix:List (Nat×Value)}{T:Nat}{listed:Array Bool}(g:me kI val fix T listed a)(hr:8∈Region.ready .any kI listed):listed.getD 7 false=true:=by
 obtain⟨_,o,f,h⟩:=ga.1 hr;have e:kI[8]?=some o:=f;simp only[kI,nW,qx,oT,Tryz.f35,fR,gx,fS,dR]at e;subst e;simp[Region.binds]at h;simp only[du];exact h.1
theorem J4(hF:MF p B V w)(hd:a.defers=[])(l:a.tmps.size=36)(y:a.tmps[2]?=some (ptr B.bS))(z:a.tmps[5]?=some (ptr B.bC))(A:a.tmps[6]?=some (ptr B.bG)):Goes Tryz.prog true (RK Tryz.link.tWg B.Wg V) (DM V W) (wc p B V cs) 12 (G (wf.at a [.inRegion wb [],.code nW]) cs) w:=by
 ((refine gp rfl (fun _ e=>?_);replace hF:=MF.keep hF (RK.keep e);clear e);rw[stepG_region_end];simp only[fv];refine⟨DM.nil,?_⟩);simp only[nW,qx,oT,Tryz.f35]
 ((refine gp rfl (fun _ e=>?_);replace hF:=MF.keep hF (RK.keep e);clear e);rw[stepG_seq];simp only[fv];refine⟨DM.nil,?_⟩)
 (refine gp rfl (fun _ e=>?_);replace hF:=MF.keep hF (RK.keep e);clear e);rw[stepG_region_draw];simp only[fv];refine⟨DM.drew,?_⟩;have key:∀(w2:World)(m:Bool)(t:Nat),MF p B V w2→Goes Tryz.prog true (RK Tryz.link.tWg B.Wg V) (DM V W) (wc p B V cs) 9 (G (wf.at a [.inRegion kI (Region.schedule m kI t),.code .ret]) cs) w2:=fun w2 m t n=>by
  have hw:=vN (P:=Tryz.prog) (mn:=true) (R:=RK Tryz.link.tWg B.Wg V) (S:=V) (ops:=kI) (val:=v10 p B undef) (fix:=po B) (T:=36) (sp:=xX) (L0:=fun _=>false) (Sok:=MF p B V) (b:=wf) (k:=[.code .ret]) (cs:=cs)
   RK.trans (fun w w₁ h hF=>hF.keep h.keep) zN (by decide) CK kI.size t _ a w2 (J1 p B hd l y z A) (fun j _=>by simp[du,dt];split<;>rfl) n (Co _ _)
  rw[J0];unfold Region.linearise;rw[show kI.size=9 from si]at hw ⊢;refine Goes.bind (m2:=0) RK.refl (fun g w0 l=>fM fun w' h'=>?_) (Goes.u7 (fun _ _ _ h=>DM.CL h) hw);obtain⟨q,a,listed,x,r,⟨i,fuel,t',C,hr,hu,rfl⟩|⟨f,rfl⟩⟩:=l
  ·have u:i=7∨i=8:=by simpa[xX]using C
   rcases u with rfl|rfl
   ·exact⟨q.keep h'.keep,a,listed,fuel,t',x,hr,r 8 rfl,hu,rfl⟩
   ·have:=J2 x hr;rw[r 7 rfl]at this
    cases this
  ·have:=f 7 (by rw[si];decide);rw[r 7 rfl]at this
   cases this
 exact key _ _ _ (hF.keep fun _ _=>rfl)
end
end
section
open Go.Conc Go.ConcN Go.Conc.Lib Go.ConcR.Gen Go.ConcN.Gen Go.Proofs.YtjnkcibpkkjniaaGreat.j7
open Go.ConcR (KK wgBlock WgAt stA smA rd wr mk DC0)
variable [Scope]
section
variable {p:WI} {B:WB} {c:PC} {cs:List Frame} {J:Nat→lC} {s:St} {w:World}
theorem J5[ki Tryz.prog][lu Tryz.prog](y:(PX p B c J).Good)(q:c.Sc=qM B.bG)(A:c.lM=uh B.Wg B.bG B.CF){v8 v22 v23 v24 v25 v26:Value}(h:At (PX p B c J) s w (head p B p.xl v8 v22 v23 v24 v25 v26 cs))(j3:s.tag=.sp)(hp:s.p=0)(hd:s.d0=0)(N:s.j=p.xl)(hF:MF p B s.V w):∃s' w' a',At (PX p B c J) s' w' a'∧wc p B s'.V cs a' w'∧s'.j=p.xl∧s'.d0=0∧s'.tag≠.sp∧s'.got=s.got∧nu s s' w w':=by
 obtain⟨s1,w1,a1,O,Q,r1⟩:=h.walk y (fun g w k=>by rw[k.2];rfl) (JS (W:=s.W) (cs:=cs) (v8:=v8) (v22:=v22) (v23:=v23) (v24:=v24) (v25:=v25) (v26:=v26) hF);obtain⟨f1,rfl⟩:=Q w1 (RK.refl _);have k1:=(nu.refl s w).same r1.V r1.W r1.heap;rw[←r1.V]at f1;obtain⟨s2,w2,a2,C,R,r2⟩:=O.walk y (fun g w k=>by rw[k.2];rfl) (JZ (W:=s1.W) (cs:=cs) f1);obtain⟨f2,rfl⟩:=R w2 (RK.refl _);have k2:=k1.same r2.V r2.W r2.heap;rw[←r2.V]at f2;have D:B.bG≠B.Wg:=(C.facts.2 _ f2.vs.2.2.2.1).2.1;obtain⟨z,w3,a3,S,T,E,U,F,H,I,K,L,r⟩:=C.Jy y rfl ((r2.sp.trans r1.sp).2 j3) (r2.p.trans (r1.p.trans hp)) (r2.d0.trans (r1.d0.trans hd)) (r2.j.trans (r1.j.trans N)) (fun b hb=>by
   have u:c.Sc b:=hb;rw[q]at u;obtain rfl:b=B.bG:=u;exact f2.vs.2.2.2.1)
  (Post:=fun g w=>g=G (wf.at ⟨(LT p B (.int .i64 p.xl) v8 (.bool false) v23 v24 v25 v26).setIfInBounds 27 (mF 61 #[box B.Wg,box B.bG]),[]⟩ [.inRegion wb [],.code nW]) cs)
  (fun w₁ m=>⟨_,_,CJ (b:=wf) (ops:=wb) (i:=1) (f:=61) (caps:=#[box B.Wg,box B.bG]) (x:=.tmp 27) rfl rfl (by decide) rfl rfl,⟨7,by
   show Goes Tryz.prog false (RK Tryz.link.tWg B.Wg c.Sc) (DQ c.Sc) (oy Tryz.prog false (RK Tryz.link.tWg B.Wg c.Sc) (mk .disable) c.lM) 7 _ w₁;rw[q,A];exact JO D (f2.keep m.keep).g (m.live C.facts.1)⟩,rfl⟩)
 subst T;have M:z.V=s2.V:=H;have X:nu s z w w3:=⟨fun b k=>by rw[M];exact k2.V b k,fun b k k'=>by rw[I]at k';exact k2.W b k k'.1,fun b k k'=>(r b (k2.V b k)).trans (k2.heap b k k')⟩;have f3:MF p B z.V w3:=by rw[M];exact f2.keep r
 obtain⟨Y,w4,Z,h4,q4,n⟩:=S.walk y (fun g w k=>by obtain⟨_,a,l,fu,t,_,_,_,_,e⟩:=k;rw[e];rfl) (J4 (W:=z.W) (cs:=cs) f3 rfl (by simp[LT]) rfl rfl rfl);refine⟨Y,w4,Z,h4,?_,n.j.trans E,n.d0.trans F,fun e=>K (n.sp.1 e),n.got.trans (L.trans (r2.got.trans r1.got)),X.same n.V n.W n.heap⟩;rw[n.V];exact q4 w4 (RK.refl _)
end
end
section
open Go.Conc Go.ConcN Go.Conc.Lib Go.ConcR.Gen Go.ConcN.Gen Go.Proofs.YtjnkcibpkkjniaaGreat.j7
open Go.ConcR (KK wgBlock WgAt stA smA rd wr mk DC0)
section
variable {P:Program} {main:Bool} {b:Frame} {a:Act} {kk:List Item} {cs:List Frame} {w:World} {ops:Array Oper} {i:Nat} {rest:List Nat} {o:Oper}
theorem J6{t e:TypeId}{f:TypeInfo}{z:Value}{x:Operand}{n:Nat}(r:ops[i]?=some o)(hw:Region.wanted o (yielded ops a.tmps)=true)(u:b.kind≠.early)(h:o.op=.makeSlice t x x)(hx:a.eval x=.int .i64 n)(k:P.underlying t=some (.slice e))(g:P.info? e=some f)(m:f.zero=some z)(A:f.bytes*n≤140737488355328)(y:n<9223372036854775808):stepG P main (G (b.at a (.inRegion ops (i::rest)::kk)) cs) w=.go (G (b.at (a.put o.dst (.slice (some ⟨w.heap.size,0,none⟩) n n)) (.inRegion ops rest::kk)) cs) (w.alloc (.cells (madeCells z.cells (n*f.size)) e)) #[]:=by
 simp only[Act.eval,du]at hx;have C:(f.bytes:Int)*(n:Int)≤140737488355328:=by
  have e:((f.bytes:Int)*(n:Int))=((f.bytes*n:Nat):Int):=by simp
  rw[e];omega
 have hr:(execOp a.eval o).run P w=.ok (.value (.slice (some ⟨w.heap.size,0,none⟩) n n)) (w.alloc (.cells (madeCells z.cells (n*f.size)) e)):=by
  have:=run_make w t e f z k g m .i64 .i64 n n (by omega) (Int.le_refl _) (by omega) (by omega);simp only[Int.toNat_natCast]at this;unfold execOp;simp only[h];simp[go_sem,hx,this]
 have he:(execOp a.eval o).events P w #[]=#[]:=by
  have wl:IntKind.i64.wrap (n:Int)=n:=by rw[iw];omega
  have q:¬((n:Int)<0):=by omega
  have n2:¬(281474976710656<(f.bytes:Int)*(n:Int)):=by omega
  have n3:¬(140737488355328<n*f.bytes):=by rw[dT];omega
  unfold execOp;simp only[h]
  by_cases l:n*f.size=0
  ·simp[go_sem,hx,Instr.makeSlice,hY k,asInt,asIntOf,typeInfo,g,sizeOf,wl,q,n2,n3,l,newRow,askRoom,roomBytes]
  ·simp[go_sem,hx,Instr.makeSlice,hY k,asInt,asIntOf,typeInfo,g,sizeOf,zeroValue,m,wl,q,n2,n3,newRow,askRoom,roomBytes]
 rw[gq r hw u hr,hD he]
end
noncomputable def oU:Code:=Tryz.f63.body.getD .skip
noncomputable def we:Array Oper:=match oU with
 | .seq _ (.seq (.region _ ops _) _)=>ops
 |_=>#[]
noncomputable def oV:Code:=match oU with
 | .seq _ (.seq _ c)=>c
 |_=>.skip
noncomputable abbrev mw:Frame:=base 63
noncomputable def xY (a:Act) (l:List Nat) (cs:List Frame):List Frame:=wf.at a (.inRegion kI (7::l)::[.code .ret])::cs
theorem zO:∃o e,kI[7]?=some o∧o.dst=some 35∧o.op=.call { callee:=.value (.func 63),args:=#[.tmp 28,.tmp 29,.tmp 34],argTypes:=e }∧o.guard=none:=⟨_,_,rfl,rfl,rfl,rfl⟩
variable {p:WI} {B:WB}
theorem J7{ret:Value}{listed:Array Bool}{a:Act}(g:me kI (v10 p B ret) (po B) 36 listed a)(hr:7∈Region.ready .any kI listed):a.tmps[28]?=some (.chan (some B.CB))∧a.tmps[29]?=some (.chan (some B.CF))∧a.tmps[34]?=some (.int .i64 p.xl):=by
 obtain⟨o,h,f,k,l,m⟩:=zO;have hd:=dep g f hr;have e:kI[7]?=some o:=f;simp only[kI,nW,qx,oT,Tryz.f35,fR,gx,fS,dR]at e;subst e;exact⟨hd ⟨0,.data⟩ (by simp) (by rw[si];decide) rfl _ 28 (by rfl) rfl,hd ⟨1,.data⟩ (by simp) (by rw[si];decide) rfl _ 29 (by rfl) rfl,hd ⟨6,.data⟩ (by simp) (by rw[si];decide) rfl _ 34 (by rfl) rfl⟩
section
variable {p:WI} {B:WB} {V W:Nat→Prop} {cs:List Frame} {w:World}
theorem J8{g:Goroutine}(h:wc p B V cs g w):Goes Tryz.prog true (RK Tryz.link.tWg B.Wg V) (DM V W) (fun g w=>MF p B V w∧∃a listed fuel t,me kI (v10 p B undef) (po B) 36 listed a∧7∈Region.ready .any kI listed∧listed.getD 8 false=false∧mr kI listed≤fuel+1 ∧
   g=G (mw.at ⟨#[.chan (some B.CB),.chan (some B.CF),.int .i64 p.xl,undef,undef,undef,.slice none 0 0,undef,undef,undef,.int .i64 p.xl]++Array.replicate 28 undef,[]⟩ (.inRegion we [1,2]::[.code oV])) (xY a (Region.linearise.go .any kI fuel t (listed.setIfInBounds 7 true) []) cs)) 12 g w:=by
 obtain⟨hF,a,listed,fuel,t,A,hr,C,hu,rfl⟩:=h;obtain⟨n,q,r⟩:=J7 A hr;obtain⟨o,D,E,H,u,F⟩:=zO
 (refine gp rfl (fun _ f=>?_);replace hF:=MF.keep hF (RK.keep f);clear f);refine ft (c:=oU) E (by simp[Region.wanted,F]) (by decide) u Tryz.func63 rfl rfl ⟨DM.nil,?_⟩;have k:#[Operand.tmp 28,Operand.tmp 29,Operand.tmp 34].map a.eval=#[.chan (some B.CB),.chan (some B.CF),.int .i64 p.xl]:=by
  simp[Act.eval,du,n,q,r]
 rw[k];simp only[oU,Tryz.f63,ez];walk_nrm
 ((refine gp rfl (fun _ f=>?_);replace hF:=MF.keep hF (RK.keep f);clear f);rw[stepG_seq];simp only[fv];refine⟨DM.nil,?_⟩)
 ((refine gp rfl (fun _ f=>?_);replace hF:=MF.keep hF (RK.keep f);clear f);rw[fq];simp only[fv,gA,gB,gC,Nat.reduceAdd,dB,List.range,List.range.loop];refine⟨DM.nil,?_⟩)
 ((refine gp rfl (fun _ f=>?_);replace hF:=MF.keep hF (RK.keep f);clear f);refine gD rfl rfl (by decide) (fun K l=>?_);have y:=MF.s hF;have z:=MF.x hF;have m:=MF.vs hF;(try simp only[ptr]at *);go_simp;refine l _ _ ⟨⟨fun _ _=>rfl,rfl,rfl,fun e he=>?_⟩,?_⟩;(focus(clear l;have hm:=gu he;simp[go_sem, *]at hm;(try(subst hm;exact⟨_,_,rfl,by simp[m],by simp⟩))));clear l K y z m)
 ((refine gp rfl (fun _ f=>?_);replace hF:=MF.keep hF (RK.keep f);clear f);rw[stepG_region_end];simp only[fv];refine⟨DM.nil,?_⟩)
 ((refine gp rfl (fun _ f=>?_);replace hF:=MF.keep hF (RK.keep f);clear f);rw[stepG_seq];simp only[fv];refine⟨DM.nil,?_⟩)
 ((refine gp rfl (fun _ f=>?_);replace hF:=MF.keep hF (RK.keep f);clear f);rw[fq];simp only[fv,gA,gB,gC,Nat.reduceAdd,dB,List.range,List.range.loop];refine⟨DM.nil,?_⟩)
 ((refine gp rfl (fun _ f=>?_);replace hF:=MF.keep hF (RK.keep f);clear f);refine gD rfl rfl (by decide) (fun K l=>?_);have y:=MF.s hF;have z:=MF.x hF;have m:=MF.vs hF;(try simp only[ptr]at *);go_simp;refine l _ _ ⟨⟨fun _ _=>rfl,rfl,rfl,fun e he=>?_⟩,?_⟩;(focus(clear l;have hm:=gu he;simp[go_sem, *]at hm;(try(subst hm;exact⟨_,_,rfl,by simp[m],by simp⟩))));clear l K y z m);exact fM fun w₁ f=>⟨hF.keep f.keep,a,listed,fuel,t,A,hr,by simpa[du]using C,hu,rfl⟩
end
noncomputable def mG:Code:=match oV with
 | .block _ (.loop c)=>c
 |_=>.skip
noncomputable def qR:Array Oper:=match mG with
 | .block _ (.seq _ (.seq (.region _ ops _) _))=>ops
 |_=>#[]
noncomputable def nE:Code:=match mG with
 | .block _ (.seq _ (.seq _ c))=>c
 |_=>.skip
def kx (p:WI) (RB:Nat):Value:=.slice (some ⟨RB,0,none⟩) p.xl p.xl
def GT (p:WI) (B:WB) (RB:Nat) (v8 zP zQ v14 v15 v16 v17 v18 v19 v20 v21 v22 v23 v24:Value):Array Value :=
 #[.chan (some B.CB),.chan (some B.CF),.int .i64 p.xl,undef,undef,undef,.slice none 0 0,kx p RB,v8,undef,.int .i64 p.xl,kx p RB,zP,zQ,v14,v15,v16,v17,v18,v19,v20,v21,v22,v23,v24,undef,undef,undef,undef,undef,undef,undef,undef,undef,undef,undef,undef,undef,undef]
noncomputable def sk (p:WI) (B:WB) (RB:Nat) (v8 zP zQ v14 v15 v16 v17 v18 v19 v20 v21 v22 v23 v24:Value) (us:List Frame):Goroutine:=G (mw.at ⟨GT p B RB v8 zP zQ v14 v15 v16 v17 v18 v19 v20 v21 v22 v23 v24,[]⟩ [.code mG,.inLoop mG,.inBlock 0]) us
noncomputable def vf (p:WI) (B:WB) (RB:Nat) (v8 v14 v15 v16 v17 v18 v19 v20 v21 v22 v23 v24:Value) (us:List Frame):Goroutine:=G (mw.at ⟨GT p B RB v8 (.chan (some B.CB)) (.chan (some B.CF)) v14 v15 v16 v17 v18 v19 v20 v21 v22 v23 v24,[]⟩ [.inRegion qR [0,1,2,3],.code nE,.inBlock 1,.inLoop mG,.inBlock 0]) us
section
variable {p:WI} {B:WB} {V W:Nat→Prop} {us:List Frame} {w:World}
variable {RB:Nat}
theorem J9(hF:MF p B V w):Goes Tryz.prog true (RK Tryz.link.tWg B.Wg V) (DM V W) (fun g w=>MF p B V w∧g=sk p B RB undef undef undef undef undef undef undef undef undef undef undef undef undef undef us) 12
   (G (mw.at ⟨#[.chan (some B.CB),.chan (some B.CF),.int .i64 p.xl,undef,undef,undef,.slice none 0 0,undef,undef,undef,.int .i64 p.xl,kx p RB,undef,undef,undef,undef,undef,undef,undef,undef,undef,undef,undef,undef,undef,undef,undef,undef,undef,undef,undef,undef,undef,undef,undef,undef,undef,undef,undef],[]⟩ (.inRegion we [2]::[.code oV])) us) w:=by
 simp only[we,oV,oU,Tryz.f63,ez]
 ((refine gp rfl (fun _ f=>?_);replace hF:=MF.keep hF (RK.keep f);clear f);refine gD rfl rfl (by decide) (fun K h=>?_);have l:=MF.s hF;have m:=MF.x hF;have k:=MF.vs hF;(try simp only[ptr]at *);go_simp;refine h _ _ ⟨⟨fun _ _=>rfl,rfl,rfl,fun e he=>?_⟩,?_⟩;(focus(clear h;have hm:=gu he;simp[go_sem, *]at hm;(try(subst hm;exact⟨_,_,rfl,by simp[k],by simp⟩))));clear h K l m k)
 ((refine gp rfl (fun _ f=>?_);replace hF:=MF.keep hF (RK.keep f);clear f);rw[stepG_region_end];simp only[fv];refine⟨DM.nil,?_⟩)
 ((refine gp rfl (fun _ f=>?_);replace hF:=MF.keep hF (RK.keep f);clear f);rw[stepG_block];simp only[fv];refine⟨DM.nil,?_⟩)
 ((refine gp rfl (fun _ f=>?_);replace hF:=MF.keep hF (RK.keep f);clear f);rw[stepG_loop];simp only[fv];refine⟨DM.nil,?_⟩);exact fM fun w₁ f=>⟨hF.keep f.keep,rfl⟩
theorem Ka{v8 l m v14 v15 v16 v17 v18 v19 v20 v21 v22 v23 v24:Value}(hF:MF p B V w):Goes Tryz.prog true (RK Tryz.link.tWg B.Wg V) (DM V W) (fun g w=>MF p B V w∧g=vf p B RB v8 v14 v15 v16 v17 v18 v19 v20 v21 v22 v23 v24 us) 14
   (sk p B RB v8 l m v14 v15 v16 v17 v18 v19 v20 v21 v22 v23 v24 us) w:=by
 simp only[sk,GT,mG,oV,oU,Tryz.f63,ez]
 ((refine gp rfl (fun _ f=>?_);replace hF:=MF.keep hF (RK.keep f);clear f);rw[stepG_block];simp only[fv];refine⟨DM.nil,?_⟩)
 ((refine gp rfl (fun _ f=>?_);replace hF:=MF.keep hF (RK.keep f);clear f);rw[stepG_seq];simp only[fv];refine⟨DM.nil,?_⟩)
 ((refine gp rfl (fun _ f=>?_);replace hF:=MF.keep hF (RK.keep f);clear f);rw[stepG_seq];simp only[fv];refine⟨DM.nil,?_⟩)
 ((refine gp rfl (fun _ f=>?_);replace hF:=MF.keep hF (RK.keep f);clear f);rw[fq];simp only[fv,gA,gB,gC,Nat.reduceAdd,dB,List.range,List.range.loop];refine⟨DM.nil,?_⟩)
 ((refine gp rfl (fun _ f=>?_);replace hF:=MF.keep hF (RK.keep f);clear f);refine gD rfl rfl (by decide) (fun K h=>?_);have n:=MF.s hF;have q:=MF.x hF;have k:=MF.vs hF;(try simp only[ptr]at *);go_simp;refine h _ _ ⟨⟨fun _ _=>rfl,rfl,rfl,fun e he=>?_⟩,?_⟩;(focus(clear h;have hm:=gu he;simp[go_sem, *]at hm;(try(subst hm;exact⟨_,_,rfl,by simp[k],by simp⟩))));clear h K n q k)
 ((refine gp rfl (fun _ f=>?_);replace hF:=MF.keep hF (RK.keep f);clear f);rw[stepG_region_end];simp only[fv];refine⟨DM.nil,?_⟩)
 ((refine gp rfl (fun _ f=>?_);replace hF:=MF.keep hF (RK.keep f);clear f);rw[fq];simp only[fv,gA,gB,gC,Nat.reduceAdd,dB,List.range,List.range.loop];refine⟨DM.nil,?_⟩)
 ((refine gp rfl (fun _ f=>?_);replace hF:=MF.keep hF (RK.keep f);clear f);refine gD rfl rfl (by decide) (fun K h=>?_);have n:=MF.s hF;have q:=MF.x hF;have k:=MF.vs hF;(try simp only[ptr]at *);go_simp;refine h _ _ ⟨⟨fun _ _=>rfl,rfl,rfl,fun e he=>?_⟩,?_⟩;(focus(clear h;have hm:=gu he;simp[go_sem, *]at hm;(try(subst hm;exact⟨_,_,rfl,by simp[k],by simp⟩))));clear h K n q k)
 ((refine gp rfl (fun _ f=>?_);replace hF:=MF.keep hF (RK.keep f);clear f);rw[stepG_region_end];simp only[fv];refine⟨DM.nil,?_⟩)
 ((refine gp rfl (fun _ f=>?_);replace hF:=MF.keep hF (RK.keep f);clear f);rw[stepG_seq];simp only[fv];refine⟨DM.nil,?_⟩)
 ((refine gp rfl (fun _ f=>?_);replace hF:=MF.keep hF (RK.keep f);clear f);rw[fq];simp only[fv,gA,gB,gC,Nat.reduceAdd,dB,List.range,List.range.loop];refine⟨DM.nil,?_⟩);exact fM fun w₁ f=>⟨hF.keep f.keep,rfl⟩
theorem CM:∃o,qR[0]?=some o∧o.dst=some 14∧o.op=.select #[{ chan:=.tmp 12,send:=none,elem:=155 },{ chan:=.tmp 13,send:=none,elem:=143 }] true∧o.guard=none:=⟨_,rfl,rfl,rfl,rfl⟩
end
def lG:Value:=.agg #[.int .i64 0,.slice none 0 0,.bool false]
def nJ:Value:=.agg #[]
variable {RB:Nat} {v8 v14 v15 v16 v17 v18 v19 v20 v21 v22 v23 v24:Value} {us:List Frame}
theorem Kb(w:World):stepG Tryz.prog true (vf p B RB v8 v14 v15 v16 v17 v18 v19 v20 v21 v22 v23 v24 us) w=.comm (vf p B RB v8 v14 v15 v16 v17 v18 v19 v20 v21 v22 v23 v24 us) #[rcase B.CB lG,rcase B.CF nJ] true .select w #[]:=by
 obtain⟨o,l,n,e,m⟩:=CM;have f:=Tryz.zeroValue155;have g:=Tryz.zeroValue143;have h:=fun w es=>sg (P:=Tryz.prog) (t:=155) (by kernel_rfl) w es
 have k:=fun w es=>sg (P:=Tryz.prog) (t:=143) (by kernel_rfl) w es
 unfold vf;have hr:(execOp (Act.eval ⟨GT p B RB v8 (.chan (some B.CB)) (.chan (some B.CF)) v14 v15 v16 v17 v18 v19 v20 v21 v22 v23 v24,[]⟩) o).run Tryz.prog w=.ok (.comm #[rcase B.CB lG,rcase B.CF nJ] true .select) w:=by
  unfold execOp;simp[e,f,g,Act.eval,GT,rcase,lG,nJ]
 have he:(execOp (Act.eval ⟨GT p B RB v8 (.chan (some B.CB)) (.chan (some B.CF)) v14 v15 v16 v17 v18 v19 v20 v21 v22 v23 v24,[]⟩) o).events Tryz.prog w #[]=#[]:=by
  unfold execOp;simp[e,f,h,k,Act.eval,GT]
 rw[stepG_comm l (by simp[Region.wanted,m]) (by decide) hr,hD he]
theorem CN{P:Program}(k:Nat)(v:Value)(ok:Bool):(vf p B RB v8 v14 v15 v16 v17 v18 v19 v20 v21 v22 v23 v24 us).finishComm P #[rcase B.CB lG,rcase B.CF nJ] .select (k:Nat) v ok =
   G (mw.at ⟨GT p B RB v8 (.chan (some B.CB)) (.chan (some B.CF)) (commResult #[rcase B.CB lG,rcase B.CF nJ] .select (k:Nat) v ok) v15 v16 v17 v18 v19 v20 v21 v22 v23 v24,[]⟩ [.inRegion qR [1,2,3],.code nE,.inBlock 1,.inLoop mG,.inBlock 0]) us:=by
 obtain⟨o,e,f,g,h⟩:=CM;unfold Goroutine.finishComm vf;simp only[G];rw[fl,e];simp only[dW,f];rfl
theorem Kc(v:Value):commResult #[rcase B.CB lG,rcase B.CF nJ] .select ((0:Nat):Int) v true=.tuple #[.int .i64 0,.bool true,v,nJ]:=by
 simp[commResult,rcase,goInt,Array.zipIdx,Array.filter,nJ]
 try rfl
theorem Kd(v:Value):commResult #[rcase B.CB lG,rcase B.CF nJ] .select ((1:Nat):Int) v false=.tuple #[.int .i64 1,.bool false,lG,v]:=by
 simp[commResult,rcase,goInt,Array.zipIdx,Array.filter,lG]
 try rfl
noncomputable def vg:Array Oper:=match nE with
 | .block _ (.cond _ (.seq (.region _ ops _) _) _)=>ops
 |_=>#[]
noncomputable def sY:Array Oper:=match nE with
 | .block _ (.cond _ (.seq _ (.region _ ops _)) _)=>ops
 |_=>#[]
noncomputable def sZ:List Item:=[.inBlock 2,.inBlock 1,.inLoop mG,.inBlock 0]
section
variable {p:WI} {B:WB} {V W:Nat→Prop} {us:List Frame} {w:World}
theorem Ke{RB:Nat}{v v8 v15 v16 v17 v18 v19 v20 v21 v22 v23 v24:Value}(hF:MF p B V w):Goes Tryz.prog true (RK Tryz.link.tWg B.Wg V) (DM V W) (fun g w=>MF p B V w∧g=G (mw.at ⟨GT p B RB v8 (.chan (some B.CB)) (.chan (some B.CF)) (.tuple #[.int .i64 0,.bool true,v,nJ]) (.int .i64 0) (.bool true) (.bool false) v v19 v20 v21 v22 v23 v24,[]⟩ (.inRegion vg [1,2]::.code (.region 6 sY false)::sZ)) us) 14
   (G (mw.at ⟨GT p B RB v8 (.chan (some B.CB)) (.chan (some B.CF)) (.tuple #[.int .i64 0,.bool true,v,nJ]) v15 v16 v17 v18 v19 v20 v21 v22 v23 v24,[]⟩ [.inRegion qR [1,2,3],.code nE,.inBlock 1,.inLoop mG,.inBlock 0]) us) w:=by
 simp only[GT,qR,nE,vg,sY,sZ,mG,oV,oU,Tryz.f63,ez]
 ((refine gp rfl (fun _ f=>?_);replace hF:=MF.keep hF (RK.keep f);clear f);refine gD rfl rfl (by decide) (fun K h=>?_);have l:=MF.s hF;have m:=MF.x hF;have k:=MF.vs hF;(try simp only[ptr]at *);go_simp;refine h _ _ ⟨⟨fun _ _=>rfl,rfl,rfl,fun e he=>?_⟩,?_⟩;(focus(clear h;have hm:=gu he;simp[go_sem, *]at hm;(try(subst hm;exact⟨_,_,rfl,by simp[k],by simp⟩))));clear h K l m k)
 ((refine gp rfl (fun _ f=>?_);replace hF:=MF.keep hF (RK.keep f);clear f);refine gD rfl rfl (by decide) (fun K h=>?_);have l:=MF.s hF;have m:=MF.x hF;have k:=MF.vs hF;(try simp only[ptr]at *);go_simp;refine h _ _ ⟨⟨fun _ _=>rfl,rfl,rfl,fun e he=>?_⟩,?_⟩;(focus(clear h;have hm:=gu he;simp[go_sem, *]at hm;(try(subst hm;exact⟨_,_,rfl,by simp[k],by simp⟩))));clear h K l m k)
 ((refine gp rfl (fun _ f=>?_);replace hF:=MF.keep hF (RK.keep f);clear f);refine gD rfl rfl (by decide) (fun K h=>?_);have l:=MF.s hF;have m:=MF.x hF;have k:=MF.vs hF;(try simp only[ptr]at *);go_simp;refine h _ _ ⟨⟨fun _ _=>rfl,rfl,rfl,fun e he=>?_⟩,?_⟩;(focus(clear h;have hm:=gu he;simp[go_sem, *]at hm;(try(subst hm;exact⟨_,_,rfl,by simp[k],by simp⟩))));clear h K l m k)
 ((refine gp rfl (fun _ f=>?_);replace hF:=MF.keep hF (RK.keep f);clear f);rw[stepG_region_end];simp only[fv];refine⟨DM.nil,?_⟩)
 ((refine gp rfl (fun _ f=>?_);replace hF:=MF.keep hF (RK.keep f);clear f);rw[stepG_block];simp only[fv];refine⟨DM.nil,?_⟩)
 (refine gp rfl (fun _ f=>?_);replace hF:=MF.keep hF (RK.keep f);clear f);rw[fp (t:=true) rfl];simp only[fv,dg];refine⟨DM.nil,?_⟩
 ((refine gp rfl (fun _ f=>?_);replace hF:=MF.keep hF (RK.keep f);clear f);rw[stepG_seq];simp only[fv];refine⟨DM.nil,?_⟩)
 ((refine gp rfl (fun _ f=>?_);replace hF:=MF.keep hF (RK.keep f);clear f);rw[fq];simp only[fv,gA,gB,gC,Nat.reduceAdd,dB,List.range,List.range.loop];refine⟨DM.nil,?_⟩)
 ((refine gp rfl (fun _ f=>?_);replace hF:=MF.keep hF (RK.keep f);clear f);refine gD rfl rfl (by decide) (fun K h=>?_);have l:=MF.s hF;have m:=MF.x hF;have k:=MF.vs hF;(try simp only[ptr]at *);go_simp;refine h _ _ ⟨⟨fun _ _=>rfl,rfl,rfl,fun e he=>?_⟩,?_⟩;(focus(clear h;have hm:=gu he;simp[go_sem, *]at hm;(try(subst hm;exact⟨_,_,rfl,by simp[k],by simp⟩))));clear h K l m k);exact fM fun w₁ f=>⟨hF.keep f.keep,rfl⟩
end
theorem xZ(P:Program)(w:World)(es:Array Event)(a:Addr)(m:Go.Mode)(b:Option Addr)(l c:Nat):(store a (.slice b l c) m).events P w es=storedEv P w es a (.slice b l c) m:=events_store P w es a _ m rfl
theorem x4(P:Program)(w:World)(es:Array Event)(a:Addr)(m:Go.Mode)(b:Bool):(store a (.bool b) m).events P w es=storedEv P w es a (.bool b) m:=events_store P w es a _ m rfl
section
variable {p:WI} {B:WB} {V W:Nat→Prop} {us:List Frame} {w:World}
theorem Kf{RB DB:Nat}{i:Nat}(z:i<p.xl)(t:DB≠B.bS∧DB≠B.bN∧DB≠B.bC∧DB≠B.bG∧DB≠p.sp){sa:Option Addr}{sl sc:Nat}{sb:Bool}{v14 v15 v16 v17 v19 v20 v21 v22 v23 v24:Value}(hW:W DB)(hF:kt p B V DB (.cells lG.cells 155) w):Goes Tryz.prog true (RK Tryz.link.tWg B.Wg V) (DM V W) (fun g w=>kt p B V DB (.cells #[.int .i64 i,.slice sa sl sc,.bool sb] 155) w∧g=G (mw.at ⟨GT p B RB (ptr DB) (.chan (some B.CB)) (.chan (some B.CF)) v14 v15 v16 v17 (.agg #[.int .i64 i,.slice sa sl sc,.bool sb]) (kx p RB) (ptr DB) (.int .i64 i) (.pointer (some ⟨DB,1,none⟩)) (.agg #[.slice sa sl sc,.bool sb]) (.pointer (some ⟨RB,i*2,none⟩)),[]⟩ (.inRegion sY [6]::sZ)) us) 14
   (G (mw.at ⟨GT p B RB (ptr DB) (.chan (some B.CB)) (.chan (some B.CF)) v14 v15 v16 v17 (.agg #[.int .i64 i,.slice sa sl sc,.bool sb]) v19 v20 v21 v22 v23 v24,[]⟩ (.inRegion vg [2]::.code (.region 6 sY false)::sZ)) us) w:=by
 simp only[GT,nE,vg,sY,sZ,mG,oV,oU,Tryz.f63,ez]
 (refine gp rfl (fun _ h=>?_);replace hF:=kt.keep hF (RK.keep h);clear h);refine gD rfl rfl (by decide) (fun K k=>?_);have l:=cell_of hF.o 0;have m:=cell_of hF.o 1;have n:=cell_of hF.o 2;have u:=qO hF.o 0;have z1:=qO hF.o 1;have z2:=qO hF.o 2;simp[lG,Value.cells]at l m n;simp only[ptr];go_simp;refine k _ _ ⟨⟨fun b hb=>?_,by simp[World.setCell],rfl,fun e he=>?_⟩,?_⟩
 ·have q:DB≠b:=fun e=>hb (e▸hW)
  rw[oB q,oB q,oB q]
 ·clear k;have hm:=gu he;simp[go_sem,ptr,xZ,x4,storedEv, *]at hm;rcases hm with rfl|rfl|rfl<;>exact⟨_,_,rfl,hF.v,fun _=>hW⟩
 clear k K l m n u z1 z2;have hF:=(⟨hF.f.zM (b:=DB) t (fun x hx=>by
   have q:DB≠x:=dE hx;rw[oB q,oB q,oB q]),hF.v,qP (qP (qP hF.o 0 (.int .i64 i)) 1 (.slice sa sl sc)) 2 (.bool sb)⟩:kt p B V DB _ _)
 simp only[lG,Value.cells,ik,iu,iq]at hF
 ((refine gp rfl (fun _ h=>?_);replace hF:=kt.keep hF (RK.keep h);clear h);rw[stepG_region_end];simp only[fv];refine⟨DM.nil,?_⟩)
 ((refine gp rfl (fun _ h=>?_);replace hF:=kt.keep hF (RK.keep h);clear h);rw[fq];simp only[fv,gA,gB,gC,Nat.reduceAdd,dB,List.range,List.range.loop];refine⟨DM.nil,?_⟩);have y:(i:Int)<(p.xl:Int):=by omega
 ((refine gp rfl (fun _ h=>?_);replace hF:=kt.keep hF (RK.keep h);clear h);refine gD rfl rfl (by decide) (fun K k=>?_);have l:=cell_of (kt.o hF) 0;have m:=cell_of (kt.o hF) 1;have n:=cell_of (kt.o hF) 2;have r:=cell_of (kt.o hF) 3;simp at l m n;(try simp only[ptr,kx]);go_simp;refine k _ _ ⟨⟨fun _ _=>rfl,rfl,rfl,fun e he=>?_⟩,?_⟩;(focus(clear k;have hm:=gu he;simp[go_sem,ptr,kx, *]at hm;(try(subst hm;exact⟨_,_,rfl,kt.v hF,by simp⟩));(try(rcases hm with rfl|rfl|rfl<;>exact⟨_,_,rfl,kt.v hF,by simp⟩))));clear k K l m n r)
 ((refine gp rfl (fun _ h=>?_);replace hF:=kt.keep hF (RK.keep h);clear h);refine gD rfl rfl (by decide) (fun K k=>?_);have l:=cell_of (kt.o hF) 0;have m:=cell_of (kt.o hF) 1;have n:=cell_of (kt.o hF) 2;have r:=cell_of (kt.o hF) 3;simp at l m n;(try simp only[ptr,kx]);go_simp;refine k _ _ ⟨⟨fun _ _=>rfl,rfl,rfl,fun e he=>?_⟩,?_⟩;(focus(clear k;have hm:=gu he;simp[go_sem,ptr,kx, *]at hm;(try(subst hm;exact⟨_,_,rfl,kt.v hF,by simp⟩));(try(rcases hm with rfl|rfl|rfl<;>exact⟨_,_,rfl,kt.v hF,by simp⟩))));clear k K l m n r)
 ((refine gp rfl (fun _ h=>?_);replace hF:=kt.keep hF (RK.keep h);clear h);refine gD rfl rfl (by decide) (fun K k=>?_);have l:=cell_of (kt.o hF) 0;have m:=cell_of (kt.o hF) 1;have n:=cell_of (kt.o hF) 2;have r:=cell_of (kt.o hF) 3;simp at l m n;(try simp only[ptr,kx]);go_simp;refine k _ _ ⟨⟨fun _ _=>rfl,rfl,rfl,fun e he=>?_⟩,?_⟩;(focus(clear k;have hm:=gu he;simp[go_sem,ptr,kx, *]at hm;(try(subst hm;exact⟨_,_,rfl,kt.v hF,by simp⟩));(try(rcases hm with rfl|rfl|rfl<;>exact⟨_,_,rfl,kt.v hF,by simp⟩))));clear k K l m n r)
 ((refine gp rfl (fun _ h=>?_);replace hF:=kt.keep hF (RK.keep h);clear h);refine gD rfl rfl (by decide) (fun K k=>?_);have l:=cell_of (kt.o hF) 0;have m:=cell_of (kt.o hF) 1;have n:=cell_of (kt.o hF) 2;have r:=cell_of (kt.o hF) 3;simp at l m n;(try simp only[ptr,kx]);go_simp;refine k _ _ ⟨⟨fun _ _=>rfl,rfl,rfl,fun e he=>?_⟩,?_⟩;(focus(clear k;have hm:=gu he;simp[go_sem,ptr,kx, *]at hm;(try(subst hm;exact⟨_,_,rfl,kt.v hF,by simp⟩));(try(rcases hm with rfl|rfl|rfl<;>exact⟨_,_,rfl,kt.v hF,by simp⟩))));clear k K l m n r)
 ((refine gp rfl (fun _ h=>?_);replace hF:=kt.keep hF (RK.keep h);clear h);refine gD rfl rfl (by decide) (fun K k=>?_);have l:=cell_of (kt.o hF) 0;have m:=cell_of (kt.o hF) 1;have n:=cell_of (kt.o hF) 2;have r:=cell_of (kt.o hF) 3;simp at l m n;(try simp only[ptr,kx]);go_simp;refine k _ _ ⟨⟨fun _ _=>rfl,rfl,rfl,fun e he=>?_⟩,?_⟩;(focus(clear k;have hm:=gu he;simp[go_sem,ptr,kx, *]at hm;(try(subst hm;exact⟨_,_,rfl,kt.v hF,by simp⟩));(try(rcases hm with rfl|rfl|rfl<;>exact⟨_,_,rfl,kt.v hF,by simp⟩))));clear k K l m n r)
 ((refine gp rfl (fun _ h=>?_);replace hF:=kt.keep hF (RK.keep h);clear h);refine gD rfl rfl (by decide) (fun K k=>?_);have l:=cell_of (kt.o hF) 0;have m:=cell_of (kt.o hF) 1;have n:=cell_of (kt.o hF) 2;have r:=cell_of (kt.o hF) 3;simp at l m n;(try simp only[ptr,kx]);go_simp;refine k _ _ ⟨⟨fun _ _=>rfl,rfl,rfl,fun e he=>?_⟩,?_⟩;(focus(clear k;have hm:=gu he;simp[go_sem,ptr,kx, *]at hm;(try(subst hm;exact⟨_,_,rfl,kt.v hF,by simp⟩));(try(rcases hm with rfl|rfl|rfl<;>exact⟨_,_,rfl,kt.v hF,by simp⟩))));clear k K l m n r);exact fM fun w₁ h=>⟨hF.keep h.keep,rfl⟩
end
section
variable {p:WI} {B:WB} {V W:Nat→Prop} {us:List Frame} {w:World}
theorem Kg{RB DB:Nat}{i:Nat}{rep:Array Value}(t:i<p.xl)(hsz:rep.size=p.xl*2)(m:RB≠B.bS∧RB≠B.bN∧RB≠B.bC∧RB≠B.bG∧RB≠p.sp){sa:Option Addr}{sl sc:Nat}{sb:Bool}{v14 v15 v16 v17 v18 v19 v20 v21 v22:Value}(hW:W RB)(hF:kt p B V RB (.cells rep 140) w):Goes Tryz.prog true (RK Tryz.link.tWg B.Wg V) (DM V W) (fun g w=>kt p B V RB (.cells ((rep.setIfInBounds (i*2) (.slice sa sl sc)).setIfInBounds (i*2+1) (.bool sb)) 140) w ∧
    g=sk p B RB (ptr DB) (.chan (some B.CB)) (.chan (some B.CF)) v14 v15 v16 v17 v18 v19 v20 v21 v22 (.agg #[.slice sa sl sc,.bool sb]) (.pointer (some ⟨RB,i*2,none⟩)) us) 14
   (G (mw.at ⟨GT p B RB (ptr DB) (.chan (some B.CB)) (.chan (some B.CF)) v14 v15 v16 v17 v18 v19 v20 v21 v22 (.agg #[.slice sa sl sc,.bool sb]) (.pointer (some ⟨RB,i*2,none⟩)),[]⟩ (.inRegion sY [6]::sZ)) us) w:=by
 simp only[sk,GT,nE,sY,sZ,mG,oV,oU,Tryz.f63,ez]
 (refine gp rfl (fun _ h=>?_);replace hF:=kt.keep hF (RK.keep h);clear h);refine gD rfl rfl (by decide) (fun K l=>?_);have n:=(cell_of hF.o (i*2)).trans (dq (by omega));have q:=(cell_of hF.o (i*2+1)).trans (dq (by omega));have r:=qO hF.o (i*2);have z1:=qO hF.o (i*2+1);go_simp;refine l _ _ ⟨⟨fun b hb=>?_,by simp[World.setCell],rfl,fun e he=>?_⟩,?_⟩
 ·have k:RB≠b:=fun e=>hb (e▸hW)
  rw[oB k,oB k]
 ·clear l;have hm:=gu he;simp[go_sem,ptr,xZ,x4,storedEv, *]at hm;rcases hm with rfl|rfl<;>exact⟨_,_,rfl,hF.v,fun _=>hW⟩
 clear l K n q r z1;have hF:=(⟨hF.f.zM (b:=RB) m (fun x hx=>by
   have k:RB≠x:=dE hx;rw[oB k,oB k]),hF.v,qP (qP hF.o (i*2) (.slice sa sl sc)) (i*2+1) (.bool sb)⟩:kt p B V RB _ _)
 ((refine gp rfl (fun _ h=>?_);replace hF:=kt.keep hF (RK.keep h);clear h);rw[stepG_region_end];simp only[fv];refine⟨DM.nil,?_⟩)
 ((refine gp rfl (fun _ h=>?_);replace hF:=kt.keep hF (RK.keep h);clear h);rw[stepG_inBlock];simp only[fv];refine⟨DM.nil,?_⟩)
 ((refine gp rfl (fun _ h=>?_);replace hF:=kt.keep hF (RK.keep h);clear h);rw[stepG_inBlock];simp only[fv];refine⟨DM.nil,?_⟩)
 ((refine gp rfl (fun _ h=>?_);replace hF:=kt.keep hF (RK.keep h);clear h);rw[stepG_inLoop];simp only[fv];refine⟨DM.nil,?_⟩);exact fM fun w₁ h=>⟨hF.keep h.keep,rfl⟩
end
end
section
open Go.Conc Go.ConcN Go.Proofs.YtjnkcibpkkjniaaGreat.j7
variable [Scope]
theorem At.Kh{X:Ctx}{s:St}{w:World}{a:Goroutine}(h:At X s w a){i:Nat}(l:i∈s.got):(X.J i).ok (s.D i).v:=by
 obtain⟨n,gs,sl,t,f⟩:=h;have k:=(f.pY.list i).1 (gV _ l);obtain⟨g,_,hw,_⟩:=f.pY.wk i k.1;have e:=k.2;generalize s.D i=d at hw e
 cases hw with
 |pre _ _=>simp at e
 |rE _ _ _ _ _ _ _ _=>simp at e
 |post _ _=>simp at e
 |r0 _ h=>exact h.1
 |k1 _ h=>exact h.1
 |d1 _ h=>exact h.1
 |d2 _ h=>exact h.1
 |d3 _ h=>exact h.1
 |d4 _ h=>exact h.1
 |quit _ h=>exact h.1
end
section
open Go.Conc Go.ConcN Go.Conc.Lib Go.ConcR.Gen Go.ConcN.Gen Go.Proofs.YtjnkcibpkkjniaaGreat.j7
open Go.ConcR (KK wgBlock WgAt stA smA rd wr mk DC0)
theorem Goes.carry{P:Program}{ty:TypeId}{Wg:Nat}{V W r:Nat→Prop}{Stop:Goroutine→World→Prop}{b:Nat}{o:Obj}(q:V b)(hb:¬W b)(l:∀x,W x→r x):∀{m:Nat}{g:Goroutine}{w:World},w.heap[b]?=some o→Goes P true (RK ty Wg V) (DM V W) Stop m g w →
  Goes P true (RK ty Wg V) (DM V r) (fun g w=>Stop g w∧w.heap[b]?=some o) m g w:=by
 intro m
 induction m with
 |zero=>intro g w n h;exact fun w₁ f=>⟨h w₁ f,(f.keep b q).trans n⟩
 |succ m t =>
  intro g w n h;rcases h with h|⟨u,h⟩
  ·exact .inl fun w₁ f=>⟨h w₁ f,(f.keep b q).trans n⟩
  ·refine .inr ⟨u,fun w₁ f=>?_⟩;have:=h w₁ f;revert this
   cases stepG P true g w₁<;>simp only[GStep.goes,imp_self]
   rintro⟨⟨d1,d2,d3,d4⟩,x⟩;refine⟨⟨fun y z=>d1 y fun k=>z (l y k),d2,d3,fun e he=>?_⟩,t ((d1 b hb).trans ((f.keep b q).trans n)) x⟩;obtain⟨ad,wr,A,C,D⟩:=d4 e he;exact⟨ad,wr,A,C,fun k=>l _ (D k)⟩
def lay (rep:Array Value) (i:Nat) (sa:Option Addr) (sl sc:Nat) (sb:Bool) :Array Value:=(rep.setIfInBounds (i*2) (.slice sa sl sc)).setIfInBounds (i*2+1) (.bool sb)
section
variable [Scope] {p:WI} {B:WB} {c:PC} {us:List Frame} {J:Nat→lC} {s:St} {w:World} {d:JD}
theorem Ki[ki Tryz.prog][lu Tryz.prog](L:(PX p B c J).Good)(hJ:d.is p B J){RB:Nat}{rep:Array Value}{v8 H I v14 v15 v16 v17 v18 v19 v20 v21 v22 v23 v24:Value}(h:At (PX p B c J) s w (sk p B RB v8 H I v14 v15 v16 v17 v18 v19 v20 v21 v22 v23 v24 us))(ht:s.tag≠.sp)(hd:s.d0=0)(hF:MF p B s.V w)(hR:w.heap[RB]?=some (.cells rep 140))(N:s.V RB)(Z:s.W RB)(aa:RB≠B.bS∧RB≠B.bN∧RB≠B.bC∧RB≠B.bG∧RB≠p.sp)(hsz:rep.size=p.xl*2):(∃i sa sl sc sb s' w' v8 H I v14 v15 v16 v17 v18 v19 v20 v21 v22 v23 v24,At (PX p B c J) s' w' (sk p B RB v8 H I v14 v15 v16 v17 v18 v19 v20 v21 v22 v23 v24 us)∧i<p.xl∧i ∉ s.got∧s'.got=s.got++[i]∧(s'.D i).v=.agg #[.slice sa sl sc,.bool sb] ∧
    w'.heap[RB]?=some (.cells (lay rep i sa sl sc sb) 140)∧s'.V RB∧s'.W RB∧s'.tag≠.sp∧s'.d0=0∧MF p B s'.V w'∧(∀k∈s.got,(s'.D k).v=(s.D k).v)∧nu s s' w w') ∨
   ∃s1 w1 s' w' v8 v15 v16 v17 v18 v19 v20 v21 v22 v23 v24,Same s s1 w w1∧MF p B s1.V w1∧w1.heap[RB]?=some (.cells rep 140) ∧
    vc (PX p B c J) s1 s' w1 (G (mw.at ⟨GT p B RB v8 (.chan (some B.CB)) (.chan (some B.CF)) (.tuple #[.int .i64 1,.bool false,lG,nJ]) v15 v16 v17 v18 v19 v20 v21 v22 v23 v24,[]⟩ [.inRegion qR [1,2,3],.code nE,.inBlock 1,.inLoop mG,.inBlock 0]) us) w':=by
 obtain⟨s1,w1,a1,h1,q1,r1⟩:=h.walk L (fun g w k=>by rw[k.1.2];rfl) (Goes.carry (W:=fun x=>s.W x∧x≠RB) (b:=RB) N (fun k=>k.2 rfl) (fun x k=>k.1) hR (Ka (us:=us) hF));obtain⟨⟨f1,rfl⟩,R1⟩:=q1 w1 (RK.refl _);rw[←r1.V]at f1;have O:=h1.select L rfl (fun e=>ht (r1.sp.1 e)) (r1.d0.trans hd) (z1:=lG) (z2:=nJ) (fun w₁ _=>Kb w₁);rcases O with⟨i,s2,w2,Q,X,k2⟩|⟨s2,w2,ho⟩
 ·refine .inl ?_;have k1:=(nu.refl s w).same r1.V r1.W r1.heap;have k3:nu s s2 w w2:=k1.same k2.V k2.W fun b hb _=>k2.heap b hb
  have ab:=Q.Kh (i:=i) (by rw[k2.got];simp);obtain⟨S0,eJ⟩:=hJ i X;have S:(uo p B i (d.m i) (d.ρ i) (d.args i) (d.wS i) (d.R i) S0).ok (s2.D i).v:=by rw[←eJ];exact ab
  obtain⟨sa,sl,sc,sb,hv⟩:∃sa sl sc sb,(s2.D i).v=.agg #[.slice sa sl sc,.bool sb]:=S;have T:((PX p B c J).J i).msg (s2.D i).v=.agg #[.int .i64 i,.slice sa sl sc,.bool sb]:=by
   show(J i).msg (s2.D i).v=_;rw[eJ,hv];rfl
  have e:=CN (P:=Tryz.prog) (p:=p) (B:=B) (RB:=RB) (v8:=v8) (v14:=v14) (v15:=v15) (v16:=v16) (v17:=v17) (v18:=v18) (v19:=v19) (v20:=v20) (v21:=v21) (v22:=v22) (v23:=v23) (v24:=v24) (us:=us) 0 (.agg #[.int .i64 i,.slice sa sl sc,.bool sb]) true;rw[Kc]at e;rw[T]at Q;have Q:At (PX p B c J) s2 w2 _:=e▸Q;have z:s1.V RB:=by rw[r1.V];exact N
  have A:s2.V RB:=by rw[k2.V];exact z
  have R2:=(k2.heap RB z).trans R1;have f2:MF p B s2.V w2:=by rw[k2.V];exact f1.keep k2.heap
  obtain⟨s3,w3,a3,h3,q3,r⟩:=Q.walk L (fun g w k=>by rw[k.1.2];rfl) (Goes.carry (W:=fun x=>s2.W x∧x≠RB) (b:=RB) A (fun k=>k.2 rfl) (fun x k=>k.1) R2 (Ke (us:=us) f2));obtain⟨⟨f3,rfl⟩,R3⟩:=q3 w3 (RK.refl _);have k4:=k3.same r.V r.W r.heap;have t:s3.V RB:=by rw[r.V];exact A
  obtain⟨M,w4,DB,h4,q⟩:=h3.new L rfl (o:=.cells lG.cells 155) (a':=fun b=>G (mw.at ⟨GT p B RB (ptr b) (.chan (some B.CB)) (.chan (some B.CF)) (.tuple #[.int .i64 0,.bool true,.agg #[.int .i64 i,.slice sa sl sc,.bool sb],nJ]) (.int .i64 0) (.bool true) (.bool false) (.agg #[.int .i64 i,.slice sa sl sc,.bool sb]) v19 v20 v21 v22 v23 v24,[]⟩ (.inRegion vg [2]::.code (.region 6 sY false)::sZ)) us) (fun w₁=>by
   rw[xU (b:=mw) (ops:=vg) (i:=1) (elem:=155) rfl rfl (by decide) rfl Tryz.zeroValue155 (sg (by kernel_rfl))];rfl)
  have k5:=k4.new q;have l:∀b,s3.V b→DB≠b:=fun b hb e=>q.out (e▸hb)
  rw[←r.V]at f3;have f4:MF p B M.V w4:=by
   have:=f3.keep (w₁:=w4) q.heap;have v:∀b,s3.V b→M.V b:=fun b hb=>by rw[q.V];exact .inl hb
   exact⟨this.s,this.n,this.c,this.g,this.id,this.x,v _ f3.vs.1,v _ f3.vs.2.1,v _ f3.vs.2.2.1,v _ f3.vs.2.2.2.1,v _ f3.vs.2.2.2.2⟩
  have R4:=(q.heap RB t).trans R3;have C:M.V RB:=by rw[q.V];exact .inl t
  have ad:M.V DB:=by rw[q.V];exact .inr rfl
  have ae:M.W DB:=by rw[q.W];exact .inr rfl
  obtain⟨Y,w5,a5,h5,q5,u⟩:=h4.walk L (fun g w k=>by rw[k.1.2];rfl) (Goes.carry (W:=fun x=>M.W x∧x≠RB) (b:=RB) C (fun k=>k.2 rfl) (fun x k=>k.1) R4 (Kf (us:=us) (RB:=RB) X ⟨l _ f3.vs.1,l _ f3.vs.2.1,l _ f3.vs.2.2.1,l _ f3.vs.2.2.2.1,l _ f3.vs.2.2.2.2⟩ ⟨ae,l _ t⟩ ⟨f4,ad,q.new⟩));obtain⟨⟨f5,rfl⟩,R5⟩:=q5 w5 (RK.refl _);have k6:=k5.same u.V u.W u.heap;have E:Y.V RB:=by rw[u.V];exact C
  have F:Y.W RB:=by rw[u.W,q.W,r.W,k2.W,r1.W];exact .inl Z
  have af:MF p B Y.V w5:=by rw[u.V];exact f5.f
  obtain⟨s6,w6,a6,h6,q6,y⟩:=h5.walk L (fun g w k=>by rw[k.2];rfl) (Kg (us:=us) (DB:=DB) (W:=Y.W) X hsz aa F ⟨af,E,R5⟩);obtain⟨f6,rfl⟩:=q6 w6 (RK.refl _);have k7:=k6.same y.V y.W y.heap;have hg:∀k∈s2.got,(s6.D k).v=(s2.D k).v:=fun k K=>(y.val k (by rw[u.got,q.got,r.got];exact K)).trans ((u.val k (by rw[q.got,r.got];exact K)).trans ((q.val k (by rw[r.got];exact K)).trans (r.val k K)))
  refine⟨i,sa,sl,sc,sb,s6,w6,_,_,_,_,_,_,_,_,_,_,_,_,_,_,h6,X,by have:=k2.new;rw[r1.got]at this;exact this,by rw[y.got,u.got,q.got,r.got,k2.got,r1.got],by rw[hg i (by rw[k2.got];simp)];exact hv,f6.o,by rw[y.V];exact E,by rw[y.W];exact F,fun e=>ht ((y.sp.trans (u.sp.trans (q.sp.trans (r.sp.trans (k2.sp.trans r1.sp))))).1 e),y.d0.trans (u.d0.trans (q.d0.trans (r.d0.trans (k2.d0.trans (r1.d0.trans hd))))),by rw[y.V];exact f6.f,fun k K=>?_,k7⟩;have U:k∈s1.got:=by rw[r1.got];exact K
  exact(hg k (by rw[k2.got];exact gV _ U)).trans ((k2.val k U).trans (r1.val k K))
 ·refine .inr ⟨s1,w1,s2,w2,v8,v15,v16,v17,v18,v19,v20,v21,v22,v23,v24,r1,f1,R1,?_⟩;have e:=CN (P:=Tryz.prog) (p:=p) (B:=B) (RB:=RB) (v8:=v8) (v14:=v14) (v15:=v15) (v16:=v16) (v17:=v17) (v18:=v18) (v19:=v19) (v20:=v20) (v21:=v21) (v22:=v22) (v23:=v23) (v24:=v24) (us:=us) 1 nJ false;rw[Kd]at e;rw[←e];exact ho
end
def left (n:Nat) (l:List Nat):Nat:=((List.range n).filter fun i=>!l.contains i).length
variable {i:Nat}
theorem Kj{n:Nat}{l:List Nat}(h:i<n)(k:i ∉ l):left n (l++[i])<left n l:=by
 unfold left;have f:((List.range n).filter fun j=>!(l++[i]).contains j)=((List.range n).filter fun j=>!l.contains j).filter (fun j=>decide (j≠i)):=by
  rw[List.filter_filter];refine List.filter_congr fun j _=>?_
  by_cases e:j=i<;>simp[e]
 rw[f];have g:i∈(List.range n).filter fun j=>!l.contains j:=gb.2 ⟨fZ.2 h,by simpa using k⟩
 refine Nat.lt_of_le_of_ne (gd _ _) fun e=>?_
 have:=gg.1 e i g;simp at this
structure Laid (p:WI) (rep:Array Value) (s:St):Prop where
 size:rep.size=p.xl*2
 at_:∀k∈s.got,k<p.xl∧∃sa sl sc sb,(s.D k).v=.agg #[.slice sa sl sc,.bool sb]∧rep[k*2]?=some (.slice sa sl sc)∧rep[k*2+1]?=some (.bool sb)
variable {rep:Array Value} {sa:Option Addr} {sl sc:Nat} {sb:Bool}
theorem CO:(lay rep i sa sl sc sb).size=rep.size:=by simp[lay]
theorem CP(h:i*2+1<rep.size):(lay rep i sa sl sc sb)[i*2]?=some (.slice sa sl sc)∧(lay rep i sa sl sc sb)[i*2+1]?=some (.bool sb):=by
 unfold lay;refine⟨?_,?_⟩
 ·rw[dI (by omega),ff (by omega)]
 ·rw[ff (by simp;omega)]
theorem x5{x:Nat}(h:x<i*2∨i*2+1<x):(lay rep i sa sl sc sb)[x]?=rep[x]?:=by
 unfold lay;rw[dI (by omega),dI (by omega)]
section
variable [Scope] {p:WI} {B:WB} {c:PC} {us:List Frame} {J:Nat→lC} {d:JD}
theorem Kk[ki Tryz.prog][lu Tryz.prog](T:(PX p B c J).Good)(U:d.is p B J){RB:Nat}(D:RB≠B.bS∧RB≠B.bN∧RB≠B.bC∧RB≠B.bG∧RB≠p.sp):∀(C:Nat){s:St}{w:World}{rep:Array Value}{v8 n q v14 v15 v16 v17 v18 v19 v20 v21 v22 v23 v24:Value},left p.xl s.got=C →
  At (PX p B c J) s w (sk p B RB v8 n q v14 v15 v16 v17 v18 v19 v20 v21 v22 v23 v24 us)→s.tag≠.sp→s.d0=0→MF p B s.V w→w.heap[RB]?=some (.cells rep 140)→s.V RB→s.W RB→Laid p rep s →
  ∃s1 w1 s' w' g v8 v15 v16 v17 v18 v19 v20 v21 v22 v23 v24,nu s s1 w w1∧s1.V RB∧s1.W RB∧MF p B s1.V w1∧w1.heap[RB]?=some (.cells g 140)∧Laid p g s1 ∧
    vc (PX p B c J) s1 s' w1 (G (mw.at ⟨GT p B RB v8 (.chan (some B.CB)) (.chan (some B.CF)) (.tuple #[.int .i64 1,.bool false,lG,nJ]) v15 v16 v17 v18 v19 v20 v21 v22 v23 v24,[]⟩ [.inRegion qR [1,2,3],.code nE,.inBlock 1,.inLoop mG,.inBlock 0]) us) w':=by
 intro C
 induction C using Nat.strongRecOn with
 |_ C X =>
  intro s w rep v8 n q v14 v15 v16 v17 v18 v19 v20 v21 v22 v23 v24 E h Y hd hF Z r t l;rcases Ki T U h Y hd hF Z r t D l.size with⟨i,sa,sl,sc,sb,s2,w2,_,_,_,_,_,_,_,_,_,_,_,_,_,_,h2,R,F,S,hv,H,u,y,I,K,L,z,f⟩|⟨s1,w1,s2,w2,_,_,_,_,_,_,_,_,_,_,_,r1,f1,R1,ho⟩
  ·have hsz:=l.size;have M:Laid p (lay rep i sa sl sc sb) s2:=⟨CO.trans l.size,fun k m=>by
    rw[S,gQ,iy]at m
    by_cases e:k=i
    ·subst e;obtain⟨l1,l2⟩:=CP (rep:=rep) (i:=k) (sa:=sa) (sl:=sl) (sc:=sc) (sb:=sb) (by omega);exact⟨R,sa,sl,sc,sb,hv,l1,l2⟩
    ·have A:=m.resolve_right e;obtain⟨b1,xa,xl,xc,xb,b2,N,b4⟩:=l.at_ k A;exact⟨b1,xa,xl,xc,xb,(z k A).trans b2,(x5 (by omega)).trans N,(x5 (by omega)).trans b4⟩⟩
   obtain⟨s3,w3,s4,w4,g,a1,a2,a3,a4,a5,a6,a7,a8,a9,O,Q,k1,k2,k3,k4,k5,k6,k7⟩:=X (left p.xl s2.got) (by rw[←E,S];exact Kj R F) rfl h2 I K L H u y M;exact⟨s3,w3,s4,w4,g,a1,a2,a3,a4,a5,a6,a7,a8,a9,O,Q,⟨fun b hb=>k1.V b (f.V b hb),fun b hb x=>f.W b hb (k1.W b (f.V b hb) x),fun b hb hw=>(k1.heap b (f.V b hb) fun x=>hw (f.W b hb x)).trans (f.heap b hb hw)⟩,k2,k3,k4,k5,k6,k7⟩
  ·refine⟨s1,w1,s2,w2,rep,_,_,_,_,_,_,_,_,_,_,_,(nu.refl s w).same r1.V r1.W r1.heap,by rw[r1.V];exact r,by rw[r1.W];exact t,f1,R1,⟨l.size,fun k m=>?_⟩,ho⟩;rw[r1.got]at m;obtain⟨b1,xa,xl,xc,xb,b2,N⟩:=l.at_ k m;exact⟨b1,xa,xl,xc,xb,(r1.val k m).trans b2,N⟩
end
def zR (p:WI) (B:WB) (cs:List Frame) (us:List Frame):Prop:=∃a listed fuel t,me kI (v10 p B undef) (po B) 36 listed a∧7∈Region.ready .any kI listed∧listed.getD 8 false=false∧mr kI listed≤fuel+1 ∧
 us=xY a (Region.linearise.go .any kI fuel t (listed.setIfInBounds 7 true) []) cs
section
variable [Scope] {p:WI} {B:WB} {c:PC} {cs:List Frame} {J:Nat→lC} {s:St} {w:World} {a:Goroutine} {d:JD}
theorem Kl[ki Tryz.prog][lu Tryz.prog](C:(PX p B c J).Good)(E:p.xl<2147483647)(h:At (PX p B c J) s w a)(H:wc p B s.V cs a w)(I:s.tag≠.sp)(hd:s.d0=0):∃RB us s' w' rep,zR p B cs us∧At (PX p B c J) s' w' (sk p B RB undef undef undef undef undef undef undef undef undef undef undef undef undef undef us)∧MF p B s'.V w'∧w'.heap[RB]?=some (.cells rep 140)∧rep.size=p.xl*2∧s'.V RB∧s'.W RB ∧
   (RB≠B.bS∧RB≠B.bN∧RB≠B.bC∧RB≠B.bG∧RB≠p.sp)∧s'.tag≠.sp∧s'.d0=0∧s'.got=s.got∧nu s s' w w'∧¬s.V RB∧Scope.base≤RB:=by
 obtain⟨s1,w1,a1,K,L,r1⟩:=h.walk C (fun g w k=>by obtain⟨_,a,l,f,t,_,_,_,_,e⟩:=k;rw[e];rfl) (J8 (W:=s.W) H);obtain⟨f1,F,listed,fuel,t,M,N,O,Q,rfl⟩:=L w1 (RK.refl _);have k1:=(nu.refl s w).same r1.V r1.W r1.heap;obtain⟨R,y,q⟩:=zI (P:=Tryz.prog) (t:=140) (n:=32) (by kernel_rfl);have hsz:((Tryz.prog.info? 140).map (·.size))=some 2:=by kernel_rfl
 have u:(((Tryz.prog.info? 140).bind (·.zero)).isSome)=true:=by kernel_rfl
 rw[y]at hsz u;simp only[dH,dR,dW]at hsz u;obtain⟨z,S⟩:=ep.1 u;obtain⟨s2,w2,RB,T,r2⟩:=K.new C rfl (o:=.cells (madeCells z.cells (p.xl*R.size)) 140) (a':=fun b=>G (mw.at ⟨#[.chan (some B.CB),.chan (some B.CF),.int .i64 p.xl,undef,undef,undef,.slice none 0 0,undef,undef,undef,.int .i64 p.xl,kx p b,undef,undef,undef,undef,undef,undef,undef,undef,undef,undef,undef,undef,undef,undef,undef,undef,undef,undef,undef,undef,undef,undef,undef,undef,undef,undef,undef],[]⟩ (.inRegion we [2]::[.code oV])) (xY F (Region.linearise.go .any kI fuel t (listed.setIfInBounds 7 true) []) cs)) (fun w₁=>by
  rw[J6 (b:=mw) (ops:=we) (i:=1) (t:=93) (e:=140) (x:=.tmp 10) (n:=p.xl) (a:=⟨#[.chan (some B.CB),.chan (some B.CF),.int .i64 p.xl,undef,undef,undef,.slice none 0 0,undef,undef,undef,.int .i64 p.xl]++Array.replicate 28 undef,[]⟩) rfl rfl (by decide) rfl (by simp[Act.eval]) Tryz.underlying93 y S (by rw[q];omega) (by omega)];walk_nrm;rfl)
 have k2:=k1.new r2;have v2:∀b,s.V b→s2.V b:=k2.V;have m:∀b,s.V b→RB≠b:=fun b hb e=>r2.out (by rw[r1.V,e];exact hb)
 have f2:MF p B s2.V w2:=by
  have:=f1.keep (w₁:=w2) fun b hb=>r2.heap b (by rw[r1.V];exact hb)
  exact⟨this.s,this.n,this.c,this.g,this.id,this.x,v2 _ f1.vs.1,v2 _ f1.vs.2.1,v2 _ f1.vs.2.2.1,v2 _ f1.vs.2.2.2.1,v2 _ f1.vs.2.2.2.2⟩
 have A:s2.V RB:=by rw[r2.V];exact .inr rfl
 have D:s2.W RB:=by rw[r2.W];exact .inr rfl
 obtain⟨U,w3,a3,X,Y,r⟩:=T.walk C (fun g w k=>by rw[k.1.2];rfl) (Goes.carry (W:=fun x=>s2.W x∧x≠RB) (b:=RB) A (fun k=>k.2 rfl) (fun x k=>k.1) r2.new (J9 (RB:=RB) f2));obtain⟨⟨f3,rfl⟩,Z⟩:=Y w3 (RK.refl _);have k3:=k2.same r.V r.W r.heap;exact⟨RB,_,U,w3,_,⟨F,listed,fuel,t,M,N,O,Q,rfl⟩,X,by rw[r.V];exact f3,Z,by rw[size_madeCells,hsz],by rw[r.V];exact A,by rw[r.W];exact D,
  ⟨m _ f1.vs.1,m _ f1.vs.2.1,m _ f1.vs.2.2.1,m _ f1.vs.2.2.2.1,m _ f1.vs.2.2.2.2⟩,fun e=>I (r1.sp.1 (r2.sp.1 (r.sp.1 e))),r.d0.trans (r2.d0.trans (r1.d0.trans hd)),r.got.trans (r2.got.trans r1.got),k3,fun e=>m _ e rfl,r2.base⟩
end
end
section
open Go.Conc Go.ConcN Go.Conc.Lib Go.ConcR.Gen Go.ConcN.Gen Go.Proofs.YtjnkcibpkkjniaaGreat.j7
open Go.ConcR (KK wgBlock WgAt stA smA rd wr mk DC0)
variable [Scope]
theorem Km(P:Program)(pk:Machine→Nat×Nat×Option (Nat×Nat))(m0:Machine)(t0:Trace)(B:Nat):∃Gt:Nat→Tape,∀i n j q,(kr P pk (B+i) m0 t0 n).1+j<(kr P pk (B+i) m0 t0 n).2 →
  Gt i (kp (kr P pk (B+i) m0 t0) n+j) q=uV P m0 t0 n ((kr P pk (B+i) m0 t0 n).1+j) q:=by
 have h:=fun i=>glue (uV P m0 t0) (kr P pk (B+i) m0 t0)
 exact⟨fun i=>(h i).choose,fun i=>(h i).choose_spec⟩
structure zS (p:WI) (d:JD) (Shun:Loc→Prop) (V0:Nat→Prop) (w0:World):Prop where
 Kn:∀i,i<p.xl→∀B S,(uo p B i (d.m i) (d.ρ i) (d.args i) (d.wS i) (d.R i) S).Good Tryz.prog
 rel:∀i,i<p.xl→HR (d.ρ i) (d.wS i) w0
 lt:∀i,i<p.xl→∀b pl,d.ρ i b=some pl→pl.block<w0.heap.size∧¬V0 pl.block∧∀l,kL pl.block l→¬Shun l
 apart:∀i i',i<p.xl→i'<p.xl→i≠i'→pV (d.ρ i) (d.ρ i')
 m:∀i,i<p.xl→w0.cell? ⟨p.nb,p.no+i,none⟩=some (d.m i)
structure zT (p:WI) (Shun:Loc→Prop) (V0:Nat→Prop) (w0:World):Prop where
 v:∀b,V0 b→b<w0.heap.size∧∀l,kL b l→¬Shun l
 sp:V0 p.sp
 nb:V0 p.nb
 mem:∀l,Shun l→l.isMemory=true
 low:∀l b,Shun l→kL b l→b<w0.heap.size
 base:Scope.base≤w0.heap.size
theorem uh.running{Wg bG CF:Nat}{g:Goroutine}{w:World}(h:uh Wg bG CF g w):g.status=.running:=by
 obtain⟨_,e,_⟩:=h;rw[e];rfl
theorem Ko[ki Tryz.prog][lu Tryz.prog](X:Scope.sync=false){p:WI}{d:JD}{Shun:Loc→Prop}{V0:Nat→Prop}{w0:World}{cs:List Frame}{gs:Array Goroutine}{sl:Option (Nat×Nat)}{t:Trace}{q:Nat→Nat}(h0:gs[0]?=some (G (wf.at ⟨#[p.s,p.mW]++Array.replicate 34 undef,[]⟩ [.code (Tryz.f35.body.getD .skip)]) cs))(hL:Leavers Tryz.prog t gs q)(hP:Past Shun w0.heap.size t)(hF:xV p w0)(ao:p.xl≤p.nl)(A:zT p Shun V0 w0)(M:zS p d Shun V0 w0):∃N0 c J RB us s1 w1 s' w' rep v8 v15 v16 v17 v18 v19 v20 v21 v22 v23 v24,let B:=WB.from w0.heap.size
   runNT Tryz.prog N0 (crowd gs w0 sl) t=(.next c.m0,c.t0)∧c.Shun=Shun∧d.is p B J∧zR p B cs us ∧
   (∀b,V0 b→s1.V b∧w1.heap[b]?=w0.heap[b]?)∧s1.V RB∧w1.heap[RB]?=some (.cells rep 140)∧Laid p rep s1∧MF p B s1.V w1 ∧
   (RB≠B.bS∧RB≠B.bN∧RB≠B.bC∧RB≠B.bG∧RB≠p.sp)∧¬V0 RB∧Scope.base≤RB∧c.m0.world.os=w0.os ∧
   vc (PX p B c J) s1 s' w1 (G (mw.at ⟨GT p B RB v8 (.chan (some B.CB)) (.chan (some B.CF)) (.tuple #[.int .i64 1,.bool false,lG,nJ]) v15 v16 v17 v18 v19 v20 v21 v22 v23 v24,[]⟩ [.inRegion qR [1,2,3],.code nE,.inBlock 1,.inLoop mG,.inBlock 0]) us) w':=by
 obtain⟨bS,h1⟩:∃x,nD x (w0.heap.size+0):=⟨_,rfl⟩;obtain⟨bN,h2⟩:∃x,nD x (w0.heap.size+1):=⟨_,rfl⟩;obtain⟨CB,h3⟩:∃x,nD x (w0.heap.size+2):=⟨_,rfl⟩;obtain⟨bC,h4⟩:∃x,nD x (w0.heap.size+3):=⟨_,rfl⟩;obtain⟨CF,h5⟩:∃x,nD x (w0.heap.size+4):=⟨_,rfl⟩;obtain⟨bG,h6⟩:∃x,nD x (w0.heap.size+5):=⟨_,rfl⟩;obtain⟨Wg,h7⟩:∃x,nD x (w0.heap.size+6):=⟨_,rfl⟩;have eB:WB.from w0.heap.size=⟨bS,bN,CB,bC,CF,bG,Wg⟩:=by
  unfold WB.from;have a1:w0.heap.size=bS:=h1.eq.symm;rw[←h2.eq,←h3.eq,←h4.eq,←h5.eq,←h6.eq,←h7.eq,a1]
 simp only[eB];have g1:=h1.eq;have g2:=h2.eq;have g3:=h3.eq;have g4:=h4.eq;have g5:=h5.eq;have g6:=h6.eq;have g7:=h7.eq;have a8:0<gs.size:=(dp.1 h0).1;have ap:Clean (lX ⟨gs.size,p.xl,Wg,CB,CF,Tryz.link.tWg,.tuple #[]⟩) t:=fun op aq=>lX.of_low (hP.seen op aq) (by show w0.heap.size≤Wg;omega) (by show w0.heap.size≤CB;omega) (by show w0.heap.size≤CF;omega)
 have u:∀b,w0.heap.size≤b→∀l,kL b l→¬Shun l:=fun b hb l C Y=>by have:=A.low l b Y C;omega
 obtain⟨N0,D,bb,w1,Z,t1,q1,r1,r2,r3,r4,r5,r6,rfl,E⟩:=JK (p:=p) (N:=⟨gs.size,p.xl,Wg,CB,CF,Tryz.link.tWg,.tuple #[]⟩) (Shun:=Shun) (cs:=cs) (Q:=fun g w=>g=G (wf.at ⟨#[p.s,p.mW,ptr bS,ptr bN,.slice none 0 0,ptr bC,ptr bG,ptr Wg,undef,p.s,p.s,.pointer (some ⟨p.sp,p.so+1,none⟩),.slice p.xa p.xl p.xc,.int .i64 p.xl,.chan (some CB),.chan (some CF),undef,undef,undef,undef,undef,undef,undef,undef,undef,undef,undef,undef,undef,undef,undef,undef,undef,undef,undef,undef],[]⟩ [.code oT]) cs∧Ext w0 #[.cells #[p.s] 33,.cells #[p.mW] 47,.chan p.xl #[] false 0 0 false,.cells #[.chan (some CB)] 141,.chan 0 #[] false 0 0 false,.cells #[.chan (some CF)] 142,wgBlock Tryz.link.tWg 0 0] w) hF h1 h2 h3 h4 h5 h6 h7 rfl u (A.v _ A.sp).2
  (fun w' E=>j8.done ⟨rfl,E⟩) gs sl t q h0 hL hP ap
 have a9:w1.heap.size=w0.heap.size+7:=by rw[E.size];rfl
 obtain⟨pk,ar⟩:=xE Tryz.prog;obtain⟨Gt,au⟩:=Km Tryz.prog pk (crowd D w1 Z) t1 D.size;have hold:∀b,b<w0.heap.size→w1.heap[b]?=w0.heap[b]?:=fun b hb=>E.old hb
 let B:WB:=⟨bS,bN,CB,bC,CF,bG,Wg⟩
 let c:PC:=⟨D.size,pk,crowd D w1 Z,t1,Gt,qM bG,uh Wg bG CF,5,Shun⟩
 let J:Nat→lC:=fun i=>uo p B i (d.m i) (d.ρ i) (d.args i) (d.wS i) (d.R i) (fun _=>False)
 have hX:(PX p B c J).Good :=
  {sync:=X
   pos:=by show 0<D.size;omega
   pW:=fun i y=>M.Kn i y B _
   anch:=JN ⟨rfl,rfl,rfl⟩ (by show bG≠Wg;omega)
   sT:=fun g w h=>h.running
   glue:=fun i n j q h=>au i n j q h
   pX:=hF.pX
   xP:=ar
   kq:=⟨by show Wg≠CB;omega,by show Wg≠CF;omega,by show CB≠CF;omega⟩
   oz:=fun l C=>⟨A.mem l C,fun Y=>by
    rcases Y.block with k|k|k
    ·exact u Wg (by omega) l k C
    ·exact u CB (by omega) l k C
    ·exact u CF (by omega) l k C,fun k=>u Wg (by omega) l k C,fun k=>u CB (by omega) l k C,fun k=>u CF (by omega) l k C⟩ }
 let L:Nat→Prop:=fun b=>V0 b∨b=bS∨b=bN∨b=bC∨b=bG
 have av:∀b,L b→b<w1.heap.size∧b≠Wg∧b≠CB∧b≠CF∧∀l,kL b l→¬Shun l:=fun b hb=>by
  rcases hb with k|k|k|k|k
  ·have:=A.v b k;exact⟨by omega,by omega,by omega,by omega,this.2⟩
  all_goals exact⟨by omega,by omega,by omega,by omega,u b (by omega)⟩
 have hZ:qJ (PX p B c J) (St.start (PX p B c J) q1 L fun _=>False) w1 :=
  {lt:=fun i y b pl hb=>by
    have hb:d.ρ i b=some pl:=hb;have k:=M.lt i y b pl hb;refine⟨by omega,fun I=>?_,by show pl.block≠Wg;omega,by show pl.block≠CB;omega,by show pl.block≠CF;omega⟩;rcases I with I|I|I|I|I
    ·exact k.2.1 I
    all_goals omega
   apart:=fun i i' y aw ax=>M.apart i i' y aw ax
   oz:=fun i y b pl l hb C=>(M.lt i y b pl hb).2.2 l C
   v:=fun b hb=>av b hb
   wv:=fun b hb=>hb.elim
   sj:=fun i y=>absurd y (g8 i)
   sc:=fun e=>absurd rfl e
   kq:=⟨by show Wg<_;omega,by show CB<_;omega,by show CF<_;omega⟩
   old:=fun l b Y C=>by have:=A.low l b Y C;omega }
 have F:∀i,w1.heap[w0.heap.size+i]?=(#[.cells #[p.s] 33,.cells #[p.mW] 47,.chan p.xl #[] false 0 0 false,.cells #[.chan (some CB)] 141,.chan 0 #[] false 0 0 false,.cells #[.chan (some CF)] 142,wgBlock Tryz.link.tWg 0 0]:Array Obj)[i]?:=E.get;have O:ku (PX p B c J) (St.start (PX p B c J) q1 L fun _=>False) 0 D w1 t1:=by
  refine ku.start hX rfl r4 r5 r6 ?_ ?_ ?_ (fun i y=>?_) hZ ?_ rfl
  ·show WgAt Tryz.link.tWg Wg w1 0 0;have:=F 6;rw[←g7]at this;exact this
  ·show w1.heap[CB]?=_;rw[g3];exact F 2
  ·show w1.heap[CF]?=_;rw[g5];exact F 4
  ·exact HR.leaves X (M.rel i y) (Leaves.block fun b pl hb=>hold _ (M.lt i y b pl hb).1) E.os
  ·have:=A.base;show Scope.base≤w1.heap.size;omega
 have ay:At (PX p B c J) (St.start (PX p B c J) q1 L fun _=>False) w1 _:=O.at_ hX (show runNT Tryz.prog 0 _ _=_ from rfl) r3;have az:MF p B L w1:=by
  have j3:=A.sp;have aa:=(A.v _ j3).1;refine⟨?_,?_,?_,?_,(E.zG aa _).trans hF.hid,(E.zG aa _).trans hF.hx,.inr (.inl rfl),.inr (.inr (.inl rfl)),.inr (.inr (.inr (.inl rfl))),.inr (.inr (.inr (.inr rfl))),.inl j3⟩
  ·exact E.cellAt (B:=bS) (i:=0) (o:=0) g1 rfl rfl
  ·exact E.cellAt (B:=bN) (i:=1) (o:=0) g2 rfl rfl
  ·exact E.cellAt (B:=bC) (i:=3) (o:=0) g4 rfl rfl
  ·exact E.cellAt (B:=bG) (i:=5) (o:=0) g6 rfl rfl
 obtain⟨s2,w2,a2,aA,q2,k2⟩:=ay.walk hX (fun g w k=>by rw[k.2];rfl) (JP (V:=L) (W:=fun _=>False) (cs:=cs) az);obtain⟨f2,rfl⟩:=q2 w2 (RK.refl _);have K:s2.V=L:=k2.V;have ab:s2.W=fun _=>False:=k2.W
 have ad:∀b,L b→w2.heap[b]?=w1.heap[b]?:=fun b hb=>k2.heap b hb id
 have hd:d.is p B J:=fun i y=>⟨_,rfl⟩
 obtain⟨J3,s3,w3,v8,v22,v23,v24,v25,v26,S,ae,aB,aC,aD,af,aE,aF,aG,f⟩:=rounds hF.pX ao p.xl 0 (dB _) hX hd aA (k2.sp.2 rfl) (k2.p.trans rfl) (k2.d0.trans rfl) (k2.j.trans rfl) (by rw[K];exact f2) (by rw[K];exact .inl A.nb) (by rw[ab];exact⟨id,id,id,id,id,id⟩)
  (fun i y=>(gv (ad _ (.inl A.nb)) _).trans ((gv (hold _ (A.v _ A.nb).1) _).trans (M.m i y)))
 obtain⟨s4,w4,a4,aH,aI,bc,aJ,aK,aL,r⟩:=J5 S rfl rfl aB aC aD af aE aG;obtain⟨RB,us,s5,w5,rep,hU,aM,aN,aO,ag,ah,ai,aj,aP,aQ,aR,z,ak,al⟩:=Kl S hF.pX aH aI aK aJ;have T:s5.got=[]:=aR.trans (aL.trans (aF.trans k2.got));obtain⟨s6,w6,s7,w7,am,b8,aS,aT,aU,aV,aW,aX,aY,aZ,a0,a3,H,an,ba,a5,a6,a7,U⟩:=Kk S ae aj (left p.xl s5.got) rfl aM aP aQ aN aO ah ai ⟨ag,fun k hk=>by rw[T]at hk;cases hk⟩;refine⟨N0,c,J3,RB,us,s6,w6,s7,w7,am,b8,aS,aT,aU,aV,aW,aX,aY,aZ,a0,a3,r1,rfl,ae,hU,fun b hb=>?_,an,a6,a7,a5,aj,fun I=>?_,al,E.os,U⟩
 ·have v2:s2.V b:=by rw[K];exact .inl hb
  have n2:¬s2.W b:=by rw[ab];exact id
  have v3:=f.V b v2;have n3:¬s3.W b:=fun k=>n2 (f.W b v2 k)
  have v4:=r.V b v3;have n4:¬s4.W b:=fun k=>n3 (r.W b v3 k)
  have v5:=z.V b v4;have n5:¬s5.W b:=fun k=>n4 (z.W b v4 k)
  exact⟨H.V b v5,(H.heap b v5 n5).trans ((z.heap b v4 n4).trans ((r.heap b v3 n3).trans ((f.heap b v2 n2).trans ((ad b (.inl hb)).trans (hold b (A.v b hb).1)))))⟩
 ·exact ak (r.V _ (f.V _ (by rw[K];exact .inl I)))
end
end Go.Proofs.YtjnkcibpkkjniaaGreat.kj
