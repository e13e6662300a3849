import Derived.Test.YtjnkcibpkkjniaaGreatA32
import Derived.Test.YtjnkcibpkkjniaaGreatA33
import Derived.Test.YtjnkcibpkkjniaaGreatA05
import Derived.Conc.Own
import Derived.Test.YtjnkcibpkkjniaaGreatA13
set_option linter.unusedVariables false
set_option linter.unusedSimpArgs false
set_option linter.unusedSectionVars false
namespace Go.Proofs.YtjnkcibpkkjniaaGreat.Pool
open Go Go.Conc Go.RowKit Go.Proofs.YtjnkcibpkkjniaaGreat.Sim
set_option maxRecDepth 20000
set_option maxHeartbeats 2000000
theorem GX.done {cs:List Frame} {Q:Frame→List Frame→World→Prop} {fr:Frame} {xs:List Frame} {w:World} (h:Q fr xs w):GX cs Q fr xs w:=by letI:Scope:=scopeM;exact GetsX.done h
noncomputable def alRest:Code:=match Tryz.f4.body with | some (.seq _ (.seq _ (.seq _ (.seq _ (.seq _ (.seq _ r))))))=>r | _=>.skip
noncomputable def alL:Code:=match alRest with | .seq (.seq _ (.block _ (.loop c))) _=>c | _=>.skip
noncomputable def alEnd:Code:=match alRest with | .seq _ c=>c | _=>.skip
noncomputable def alK:List Item:=[.inLoop alL, .inBlock 0, .code alEnd]
structure AF (a:Act) (tv:Value) (h:Int) (sp:Nat) (now spoke i:Int):Prop where
 d:a.defers=[]
 z:a.tmps.size=95
 f1:a.tmps[1]? = some tv
 f5:a.tmps[5]? = some (.int .i64 h)
 f6:a.tmps[6]? = some (.pointer (some ⟨sp,0,none⟩))
 f7:a.tmps[7]? = some (.int .i64 now)
 f8:a.tmps[8]? = some (.int .i64 spoke)
 f9:a.tmps[9]? = some (.int .i64 i)
theorem pickN_lt {c n:Int} (hn:0 < n):0≤pickN c n∧pickN c n < n:=by
 unfold pickN
 split
 ·exact ⟨Int.emod_nonneg _ (by omega),Int.emod_lt_of_pos _ hn⟩
 ·exact ⟨Int.emod_nonneg _ (by omega),Int.emod_lt_of_pos _ hn⟩
theorem al_to {Q:Frame→List Frame→World→Prop} {w:World} {hold:Int} (hh:-9223372036854775808≤hold∧hold≤9223372036854775807) {tv:Value}
  (hk:∀ (a:Act) (w':World) (h:Int) (sp xb xc:Nat) (Z:List Value) (p:Pz) (pa:Option Addr) (pl pc:Nat),3≤h→h≤60002→AF a tv h sp 0 0 0→Stnd w' sp xb xc Z 0 65000 200 p 3 h 0 0 pa pl pc →
   GX [] Q ((base 4).at a (.code alL::alK)) [] w') :
  GX [] Q ((base 4).at { tmps:=#[.int .i64 hold,tv]++Array.replicate 93 undef,defers:=[] } [.code (Tryz.f4.body.getD .skip)]) [] w:=by
 have HK:Hid (_):=hk
 clear hk
 (have g_v:=valTo_ok;have g_s:=skpTo_ok;have g_e:=entTo_ok;have g_c:=cell_again;have g_f:=frozen_again;have g_h:=heap_again)
 simp only [Tryz.f4,Option.getD_some]
 walk_nrm
 refine GX.seq ?_
 ((refine GX.region ?_);walk_nrm)
 ((refine GX.v rfl rfl (by kernel_rfl) (fun T K hK=>?_));unfold execOp;go_simp;(refine hK _ _ ?_);clear hK K;(refine GX.like (v:=w) ?_ rfl rfl);clear T;walk_nrm)
 refine GX.regionEnd ?_
 refine GX.seq ?_
 ((refine GX.region ?_);walk_nrm)
 ((refine GX.v rfl rfl (by kernel_rfl) (fun T K hK=>?_));unfold execOp;go_simp;(refine hK _ _ ?_);clear hK K;(refine GX.like (v:=w) ?_ rfl rfl);clear T;walk_nrm)
 refine GX.c rfl rfl (by kernel_rfl) (fun T K hK=>?_)
 unfold execOp
 go_simp
 refine hK _ _ _ (fun T'=>?_)
 clear hK K
 refine Calls.mono (pick_any hold 60000 hh (by decide) _) ?_
 rintro e w' ⟨rfl,rfl⟩
 refine ⟨_,rfl,GX.like (v:=w) ?_ rfl rfl⟩
 clear T'
 obtain ⟨p1,p2⟩:=pickN_lt (c:=hold) (n:=60000) (by decide)
 generalize pickN hold 60000=pk at p1 p2 ⊢
 have kw:IntKind.i64.wrap (3+pk)=3+pk:=by rw [IntKind.wrap_i64];omega
 walk_nrm
 iterate 2 ((refine GX.v rfl rfl (by kernel_rfl) (fun T K hK=>?_));unfold execOp;go_simp;(refine hK _ _ ?_);clear hK K;(refine GX.like (v:=w) ?_ rfl rfl);clear T;walk_nrm)
 refine GX.regionEnd ?_
 refine GX.seq ?_
 ((refine GX.region ?_);walk_nrm)
 ((refine GX.v rfl rfl (by kernel_rfl) (fun T K hK=>?_));unfold execOp;go_simp;(refine hK _ _ ?_);clear hK K;(refine GX.like (v:=w) ?_ rfl rfl);clear T;walk_nrm)
 refine GX.callMet (v0:=.int .i64 1) (v1:=.int .i64 (3+pk)) (v2:=.int .i64 0) (v3:=.int .i64 0) rfl rfl rfl (by kernel_rfl) rfl rfl rfl rfl ?_
 refine met_gx rfl (hd:=3+pk) (by omega) (by omega) (fun w2 sp xb xc Z p pa pl pc hS=>?_)
 have HS:Hid (Stnd w2 sp xb xc Z 0 65000 200 p 3 (3+pk) 0 0 pa pl pc):=hS
 clear hS
 rw [fin_at rfl]
 walk_nrm
 ((refine GX.v rfl rfl (by kernel_rfl) (fun T K hK=>?_));unfold execOp;go_simp;(refine hK _ _ ?_);clear hK K;(refine GX.like (v:=w2) ?_ rfl rfl);clear T;walk_nrm)
 refine GX.regionEnd ?_
 refine GX.seq ?_
 refine GX.seq ?_
 ((refine GX.region ?_);walk_nrm)
 iterate 2 ((refine GX.v rfl rfl (by kernel_rfl) (fun T K hK=>?_));unfold execOp;go_simp;(refine hK _ _ ?_);clear hK K;(refine GX.like (v:=w2) ?_ rfl rfl);clear T;walk_nrm)
 refine GX.regionEnd ?_
 refine GX.cond (t:=false) (by kernel_rfl) rfl ?_
 simp only [Bool.false_eq_true,if_false]
 refine GX.skipCode ?_
 refine GX.seq ?_
 ((refine GX.region ?_);walk_nrm)
 ((refine GX.v rfl rfl (by kernel_rfl) (fun T K hK=>?_));unfold execOp;go_simp;(refine hK _ _ ?_);clear hK K;(refine GX.like (v:=w2) ?_ rfl rfl);clear T;walk_nrm)
 refine GX.regionEnd ?_
 refine GX.seq ?_
 ((refine GX.region ?_);walk_nrm)
 ((refine GX.v rfl rfl (by kernel_rfl) (fun T K hK=>?_));unfold execOp;go_simp;(refine hK _ _ ?_);clear hK K;(refine GX.like (v:=w2) ?_ rfl rfl);clear T;walk_nrm)
 refine GX.regionEnd ?_
 refine GX.seq ?_
 refine GX.seq ?_
 ((refine GX.region ?_);walk_nrm)
 ((refine GX.v rfl rfl (by kernel_rfl) (fun T K hK=>?_));unfold execOp;go_simp;(refine hK _ _ ?_);clear hK K;(refine GX.like (v:=w2) ?_ rfl rfl);clear T;walk_nrm)
 refine GX.regionEnd ?_
 refine GX.block ?_
 refine GX.loop ?_
 have hfin:=HK.out
 unfold alK alL alEnd at hfin
 unfold alRest at hfin
 simp only [Tryz.f4] at hfin
 exact hfin _ w2 (3+pk) sp xb xc Z p pa pl pc (by omega) (by omega) ⟨rfl,rfl,rfl,rfl,rfl,rfl,rfl,rfl⟩ HS.out
end Go.Proofs.YtjnkcibpkkjniaaGreat.Pool
namespace Go.Proofs.YtjnkcibpkkjniaaGreat.Pool
open Go Go.Conc Go.RowKit Go.Proofs.YtjnkcibpkkjniaaGreat.Sim
noncomputable def alB:Code:=match alL with | .seq _ (.seq (.block _ (.seq _ (.seq _ (.seq _ (.seq _ r))))) _)=>r | _=>.skip
noncomputable def alStep:Code:=match alL with | .seq _ (.seq _ c)=>c | _=>.skip
noncomputable def alT:Code:=match alB with | .seq _ c=>c | _=>.skip
structure AG (a:Act) (t:Int) (want:ByteArray) (over:Bool):Prop where
 f10:a.tmps[10]? = some (.int .i64 t)
 f11:a.tmps[11]? = some (.string want)
 f12:a.tmps[12]? = some (.bool over)
noncomputable def alJ:Code:=match alT with | .seq _ (.seq _ c)=>c | _=>.skip
end Go.Proofs.YtjnkcibpkkjniaaGreat.Pool
namespace Go.Proofs.YtjnkcibpkkjniaaGreat.Sim
open Go.Conc
variable [Scope]
section
variable {P:Program} {cs:List Frame} {Q:Frame→List Frame→World→Prop} {b:Frame} {a:Act} {ops:Array Oper} {i:Nat} {l:List Nat} {k:List Item} {xs:List Frame} {wS:World} {o:Oper}
theorem FrX.mark {S:Loc→Prop} {ρ:Ren} {w:World} {fr fr':Frame} (h:FrX S ρ w fr fr') {t:Nat} {u:Value} {C:Array Value} (e:fr.tmps[t]? = some (mkF u C)):fr'.eval (.tmp t)=u∧∃ ad,Ptd u ad∧Hold S ρ w ad C:=by
 obtain ⟨v',e',k⟩:=h.tmps.at_ e
 have hev:fr'.eval (.tmp t)=v':=by show fr'.tmps.getD t undef=v';simp [Array.getD_eq_getD_getElem?,e']
 rcases k with k | ⟨C',ad,k1,k2,k3⟩
 ·exfalso
  cases k with
  | agg hs hg =>
   have:=hg 0 (.chan (some 0)) _ rfl (Array.getElem?_eq_getElem (by rw [←hs];exact Nat.zero_lt_succ _))
   cases this
 ·simp only [mkF,Value.agg.injEq,Array.mk.injEq,List.cons.injEq,and_true,true_and] at k1
  obtain ⟨rfl,rfl⟩:=k1
  exact ⟨hev,ad,k2,k3⟩
theorem FrX.int {S:Loc→Prop} {ρ:Ren} {w:World} {fr fr':Frame} (h:FrX S ρ w fr fr') {t:Nat} {q:IntKind} {n:Int} (e:fr.tmps[t]? = some (.int q n)):fr'.eval (.tmp t)=.int q n:=by
 obtain ⟨v',e',k⟩:=h.tmps.at_ e
 have hev:fr'.eval (.tmp t)=v':=by show fr'.tmps.getD t undef=v';simp [Array.getD_eq_getD_getElem?,e']
 have:=k.vr rfl
 cases this
 exact hev
theorem GetsX.op_mk (ho:ops[i]? = some o) (hw:Region.wanted o (yielded ops a.tmps)=true) (v:Value)
  (h:∀ S ρ (w:World) (fr':Frame),FrX S ρ w (b.at a (.inRegion ops (i::l)::k)) fr'→∃ v',VF S ρ w v v'∧∀ d,(execOp fr'.eval o).run P (w.at d)=.ok (.value v') (w.at d)∧∀ e∈(execOp fr'.eval o).events P (w.at d) #[],EvL S w.heap.size e)
  (hk:GetsX P cs Q (b.at (a.put o.dst v) (.inRegion ops l::k)) xs wS):GetsX P cs Q (b.at a (.inRegion ops (i::l)::k)) xs wS:=by
 refine GetsX.bind (Q:=fun f x u=>f=b.at (a.put o.dst v) (.inRegion ops l::k)∧x=xs∧u=wS) (fun Shun ρ gs w sl t q hs=>?_) (by rintro _ _ _ ⟨rfl,rfl,rfl⟩;exact hk)
 obtain ⟨fr',ys,h0,hf,hx⟩:=hs.main
 obtain ⟨v',hv,hrun⟩:=h Shun ρ w fr' hf
 have hfin:(b.at a (.inRegion ops (i::l)::k)).finish v=b.at (a.put o.dst v) (.inRegion ops l::k):=by rw [Frame.finish_at,ho];rfl
 have e:=hf.at_
 have hev:fr'.eval=(Act.mk fr'.tmps fr'.defers).eval:=by
  have:=Frame.eval_at' fr' ⟨fr'.tmps,fr'.defers⟩ (.inRegion ops (i::l)::k)
  rw [←e] at this;exact this
 have hfin2:fr'.finish v'=fr'.at (Act.put ⟨fr'.tmps,fr'.defers⟩ o.dst v') (.inRegion ops l::k):=by
  have:=Frame.finish_at fr' ⟨fr'.tmps,fr'.defers⟩ ops i l k v'
  rw [←e,ho] at this
  exact this
 obtain ⟨N,gs',g',w',sl',t',q',r1,r2,r3,r4,r5,rfl,d,rfl⟩:=main_step (P:=P) (Shun:=Shun) (w:=w) (g:=G fr' (ys++cs)) (Post:=fun g' w'=>g'=G (fr'.finish v') (ys++cs)∧∃ d,w'=w.at d) rfl (fun d=>by
  obtain ⟨e1,e2⟩:=hrun d
  have hyl:yielded ops fr'.tmps=yielded ops a.tmps:=(hf.tmps.yielded ops).symm
  rw [hev] at e1 e2
  have hst:=stepG_value (P:=P) (main:=true) (b:=fr') (a:=⟨fr'.tmps,fr'.defers⟩) (k:=k) (cs:=ys++cs) (rest:=l) ho (by rw [hyl];exact hw) (by rw [hf.kind.2];simp) e1
  rw [←e,←hfin2] at hst
  exact ⟨_,_,_,hst,fun x hx=>e2 x (mem_listed hx),Nat.le_refl _,rfl,d,rfl⟩) gs sl t q h0 hs.leave hs.past
 have hl:=Lasts.at Shun ρ w d
 exact ⟨N,gs',w.at d,sl',t',q',Shun,ρ,(b.at a (.inRegion ops (i::l)::k)).finish v,xs,wS,r1,Ren.le_refl _,⟨⟨_,ys,r3,(hf.lasts (Ren.le_refl _) hl).finishF (hv.lasts (Ren.le_refl _) hl),hx.lasts (Ren.le_refl _) hl⟩,⟨hs.hr.obj,hs.hr.inj,hs.hr.base,hs.hr.os,hs.hr.sync⟩,r4,r5,⟨hs.away.cell,hs.away.obj,hs.away.low,hs.away.out⟩⟩,⟨hfin,rfl,rfl⟩,hl⟩
theorem evl_read {S:Loc→Prop} {n:Nat} {a:Addr} (h:¬ S (.cell a)) (hn:a.block < n):EvL S n ⟨.cell a,false,false⟩:=by
 refine ⟨fun x hx hs=>?_,by simp,by simp,hn⟩
 have hxl:x.loc=.cell a:=by
  simp only [MemAct.ofEvent,MemAct.touch?] at hx
  split at hx <;> first | (cases hx;rfl) | cases hx
 rw [hxl] at hs
 exact absurd hs h
end
end Go.Proofs.YtjnkcibpkkjniaaGreat.Sim
namespace Go.Proofs.YtjnkcibpkkjniaaGreat.Pool
open Go Go.Conc Go.RowKit Go.Proofs.YtjnkcibpkkjniaaGreat.Sim
set_option maxRecDepth 20000
section
variable {cs:List Frame} {Q:Frame→List Frame→World→Prop} {b:Frame} {a:Act} {ops:Array Oper} {i:Nat} {l:List Nat} {k:List Item} {xs:List Frame} {w:World} {o:Oper} {t t2:Nat} {u:Value} {C:Array Value} {ad:Addr} {n cap:Nat}
theorem GX.mMove (ho:ops[i]? = some o) (hw:Region.wanted o (yielded ops a.tmps)=true) (hop:o.op=.move (.tmp t)) (ht:a.tmps[t]? = some (mkF u C)) (hk:GX cs Q (b.at (a.put o.dst (mkF u C)) (.inRegion ops l::k)) xs w):GX cs Q (b.at a (.inRegion ops (i::l)::k)) xs w:=by
 letI:Scope:=scopeM
 refine GetsX.op_mk ho hw (mkF u C) (fun S ρ w fr' hf=>?_) hk
 obtain ⟨e,ad,h1,h2⟩:=hf.mark (show (b.at a (.inRegion ops (i::l)::k)).tmps[t]? = _ from ht)
 refine ⟨u, .inr ⟨C,ad,rfl,h1,h2⟩,fun d=>?_⟩
 unfold execOp
 simp only [hop,e]
 refine ⟨rfl,fun x hx=>?_⟩
 simp [go_sem] at hx
theorem GX.mLen (ho:ops[i]? = some o) (hw:Region.wanted o (yielded ops a.tmps)=true) (hop:o.op=.call { callee:=.builtin .len,args:=#[.tmp t],argTypes:=#[31] }) (ht:a.tmps[t]? = some (mkF (.slice (some ad) n cap) C)) (hk:GX cs Q (b.at (a.put o.dst (.int .i64 n)) (.inRegion ops l::k)) xs w):GX cs Q (b.at a (.inRegion ops (i::l)::k)) xs w:=by
 letI:Scope:=scopeM
 refine GetsX.op_mk ho hw (.int .i64 n) (fun S ρ w fr' hf=>?_) hk
 obtain ⟨e,_⟩:=hf.mark (show (b.at a (.inRegion ops (i::l)::k)).tmps[t]? = _ from ht)
 refine ⟨.int .i64 n, .inl (.int .i64 n),fun d=>?_⟩
 unfold execOp
 simp only [hop,List.map_toArray,List.map_cons,List.map_nil,e]
 refine ⟨?_,?_⟩
 ·go_simp
 ·go_simp
theorem GX.mIndex (ho:ops[i]? = some o) (hw:Region.wanted o (yielded ops a.tmps)=true) (hop:o.op=.indexAddr 31 (.tmp t) (.tmp t2)) (ht:a.tmps[t]? = some (mkF (.slice (some ad) n cap) C)) {j:Int} (h2:a.tmps[t2]? = some (.int .i64 j)) (j0:0≤j) (j1:j < n) (hk:GX cs Q (b.at (a.put o.dst (mkF (.pointer (some (ad.add j.toNat))) C)) (.inRegion ops l::k)) xs w):GX cs Q (b.at a (.inRegion ops (i::l)::k)) xs w:=by
 letI:Scope:=scopeM
 refine GetsX.op_mk ho hw (mkF (.pointer (some (ad.add j.toNat))) C) (fun S ρ w fr' hf=>?_) hk
 obtain ⟨e,ad',hp,hh⟩:=hf.mark (show (b.at a (.inRegion ops (i::l)::k)).tmps[t]? = _ from ht)
 have e2:=hf.int (show (b.at a (.inRegion ops (i::l)::k)).tmps[t2]? = _ from h2)
 obtain rfl:ad'=ad:=by
  rcases hp with hp | ⟨_,_,hp⟩
  ·cases hp
  ·cases hp;rfl
 have hbk:(ad'.add j.toNat).block=ad'.block:=by unfold Addr.add;split <;> rfl
 refine ⟨.pointer (some (ad'.add j.toNat)), .inr ⟨C,ad'.add j.toNat,rfl, .inl rfl,by unfold Hold;rw [hbk];exact hh⟩,fun d=>?_⟩
 have n0:¬ (j < 0):=by omega
 have n1:¬ ((n:Int)≤j):=by omega
 unfold execOp
 simp only [hop,e,e2]
 refine ⟨?_,?_⟩
 ·go_simp
 ·go_simp
theorem GX.mLoad (ho:ops[i]? = some o) (hw:Region.wanted o (yielded ops a.tmps)=true) (hop:o.op=.load 3 (.tmp t)) (ht:a.tmps[t]? = some (mkF (.pointer (some ad)) C)) (hs:ad.spot=none) {z:Int} (hz:C[ad.off]? = some (.int .i64 z)) (hk:GX cs Q (b.at (a.put o.dst (.int .i64 z)) (.inRegion ops l::k)) xs w):GX cs Q (b.at a (.inRegion ops (i::l)::k)) xs w:=by
 letI:Scope:=scopeM
 refine GetsX.op_mk ho hw (.int .i64 z) (fun S ρ w fr' hf=>?_) hk
 obtain ⟨e,ad',hp,⟨ty,fr,hh⟩,_,hsh⟩:=hf.mark (show (b.at a (.inRegion ops (i::l)::k)).tmps[t]? = _ from ht)
 obtain rfl:ad'=ad:=by
  rcases hp with hp | ⟨_,_,hp⟩
  ·cases hp;rfl
  ·cases hp
 have hlt:=(Array.getElem?_eq_some_iff.1 hh).1
 have hc:∀ d,(w.at d).cell? ad'=some (.int .i64 z):=fun d=>by
  have hh':(w.at d).heap[ad'.block]? = some (.cells C ty fr):=hh
  obtain ⟨bl,of,sp⟩:=ad'
  simp only at hs hz hh'
  subst hs
  simp [World.cell?,hh',hz]
 refine ⟨.int .i64 z, .inl (.int .i64 z),fun d=>?_⟩
 have hcd:=hc d
 unfold execOp
 simp only [hop,e]
 refine ⟨?_,?_⟩
 ·go_simp
 ·have hev:∀ x:Event,x=⟨.cell ad',false,false⟩→EvL S w.heap.size x:=fun x hx=>by subst hx;exact evl_read (hsh.1 ad' rfl) hlt
  go_simp
end
end Go.Proofs.YtjnkcibpkkjniaaGreat.Pool
