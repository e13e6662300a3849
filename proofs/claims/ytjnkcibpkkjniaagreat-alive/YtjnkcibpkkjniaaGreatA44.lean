/- Proved: waypostkeep.Alive answers true for every hold time and every list of ticks that can be read as data, on every schedule, and leaves both as they were; no condition of ours stands behind it. -/
import Derived.Test.YtjnkcibpkkjniaaGreatA35
import Derived.Test.YtjnkcibpkkjniaaGreatA36
import Derived.Test.YtjnkcibpkkjniaaGreatA37
import Derived.Test.YtjnkcibpkkjniaaGreatA38
import Derived.Test.YtjnkcibpkkjniaaGreatA39
import Derived.Test.YtjnkcibpkkjniaaGreatA40
import Derived.Test.YtjnkcibpkkjniaaGreatA41
import Derived.Test.YtjnkcibpkkjniaaGreatA42
import Derived.Test.YtjnkcibpkkjniaaGreatA43
import Derived.Laws.Closers25
import Derived.Test.YtjnkcibpkkjniaaGreatRows
import Derived.Conc.LeavingOf
import Derived.ChangeSlices
import Derived.Carry
set_option linter.unusedVariables false
set_option linter.unusedSimpArgs false
set_option linter.unusedSectionVars false
namespace Go.Proofs.YtjnkcibpkkjniaaGreat.Pool
open Go Go.Conc Go.RowKit Go.Proofs.YtjnkcibpkkjniaaGreat.Sim
set_option maxRecDepth 20000
theorem full_str {xs:List Int} (h:0 < xs.length):(strOfNums xs).toList.isEmpty=false:=by
 rw [←decide_eq_emptyBytes]
 refine decide_eq_false fun e=>?_
 have:=strOfNums_size xs
 rw [e] at this
 simp at this
 omega
def TkC (ad:Addr) (n:Nat) (C:Array Value):Prop:=∀ i,i < n→∃ z,(-9223372036854775808≤z∧z≤9223372036854775807)∧(ad.add i).spot=none∧C[(ad.add i).off]? = some (.int .i64 z)
theorem al_loop {ad:Addr} {n cap:Nat} {C:Array Value} {h:Int} (h3:3≤h) (h6:h≤60002) (hz:TkC ad n C) :
  ∀ (m i:Nat) (a:Act) (w:World) (now spoke:Int) (sp xb xc:Nat) (Z:List Value) (p:Pz) (pa:Option Addr) (pl pc:Nat),n≤i+m→AF a (mkF (.slice (some ad) n cap) C) h sp now spoke i→Stnd w sp xb xc Z now 65000 200 p 3 h 0 spoke pa pl pc→0≤spoke→spoke≤now→now≤i * 1048576→i≤400 →
   GX [] (AtEndA fun _=>True) ((base 4).at a (.code alL::alK)) [] w:=by
 intro m
 induction m with
 | zero =>
  intro i a w now spoke sp xb xc Z p pa pl pc hm hA hS b1 b2 b3 b4
  exact al_out hA (.inl (by omega)) trivial
 | succ m ih =>
  intro i a w now spoke sp xb xc Z p pa pl pc hm hA hS b1 b2 b3 b4
  by_cases hn:n≤i
  ·exact al_out hA (.inl (by omega)) trivial
  by_cases h4:400≤i
  ·exact al_out hA (.inr (by omega)) trivial
  obtain ⟨z,hz1,hz2,hz3⟩:=hz i (by omega)
  refine al_tick hA (by omega) (by omega) (by omega) hz1 (by rw [Int.toNat_natCast];exact hz2) (by rw [Int.toNat_natCast];exact hz3) ⟨by omega,by omega⟩ fun a1 hA1 g10 g11 g12=>?_
  obtain ⟨p1,p2⟩:=pickN_lt (c:=z) (n:=1048576) (by decide)
  generalize pickN z 1048576=t at hA1 g10 g12 p1 p2
  have hn1:now+t≤1099511627776:=by omega
  have hsane:Sane (now+t):=⟨by omega,by omega⟩
  by_cases ho:h≤now+t
  ·rw [decide_eq_true ho] at g12
   refine al_over hA1 ⟨g10,g11,g12⟩ fun a2 w2 hA2 hG2 hB2=>?_
   have hS2:=hS.keep fun b hb=>hB2.block b hb
   refine al_turn hA2 hG2 hS2 (fun hcf k=>gx_silent hcf hS2 (by omega) p1 hn1 hsane ⟨by decide,by decide⟩ (by
    have:(0:Int)≠h:=by omega
    simp [silentB,ho];omega) k) fun a3 w3 outv Z' p' pa' pl' pc' hA3 hG3 f13 f14 hS3 hO=>?_
   rcases hO with ⟨e,_⟩ | ⟨_,nb,nc,rfl,o0,o1,o2⟩
   ·exact absurd e (by simp [msgL])
   exact al_j_over (full_str (by rw [msgL_len];omega)) hA3 hG3 f13 f14 o0 o1 o2 hS3 (by omega) p1 (by omega) fun _=>trivial
  ·rw [decide_eq_false ho] at g12
   have hsb:silentB 3 h 0 (now+t)=false:=by simp [silentB];omega
   by_cases hq:h / 3≤now+t - spoke
   ·refine al_owes hA1 ⟨g10,g11,g12⟩ ⟨by omega,by omega⟩ ⟨by omega,by omega⟩ ⟨b1,by omega⟩ hq fun a2 w2 hA2 hG2 hB2=>?_
    have hS2:=hS.keep fun b hb=>hB2.block b hb
    refine al_turn hA2 hG2 hS2 (fun hcf k=>gx_owes hcf hS2 (by omega) p1 hn1 hsane ⟨by decide,by decide⟩ ⟨by omega,by omega⟩ ⟨by omega,by omega⟩ hsb (by simp [owesB];omega) k) fun a3 w3 outv Z' p' pa' pl' pc' hA3 hG3 f13 f14 hS3 hO=>?_
    rcases hO with ⟨e,_⟩ | ⟨_,nb,nc,rfl,o0,o1,o2⟩
    ·exact absurd e (by simp [msgL])
    refine al_j_owes (full_str (by rw [msgL_len];omega)) hA3 hG3 f13 f14 o0 o1 o2 ⟨by omega,by omega⟩ fun a4 hA4=>?_
    exact ih (i+1) a4 w3 (now+t) (now+t) sp xb xc Z' p' pa' pl' pc' (by omega) (by rw [Int.natCast_succ];exact hA4) hS3 (by omega) (by omega) (by rw [Int.natCast_succ];omega) (by omega)
   ·refine al_none hA1 ⟨g10,g11,g12⟩ ⟨by omega,by omega⟩ ⟨by omega,by omega⟩ ⟨b1,by omega⟩ hq fun a2 hA2 hG2=>?_
    refine al_turn hA2 hG2 hS (fun hcf k=>gx_none hcf hS (by omega) p1 hn1 hsane ⟨by decide,by decide⟩ ⟨by omega,by omega⟩ ⟨by omega,by omega⟩ hsb (by simp [owesB];omega) k) fun a3 w3 outv Z' p' pa' pl' pc' hA3 hG3 f13 f14 hS3 hO=>?_
    obtain rfl:outv=.slice none 0 0:=by
     rcases hO with ⟨_,_,e⟩ | ⟨e,_⟩
     ·exact e
     ·exact absurd e (by simp)
    refine al_j_none hA3 hG3 f13 f14 ⟨by omega,by omega⟩ fun a4 hA4=>?_
    exact ih (i+1) a4 w3 (now+t) spoke sp xb xc Z' p' pa' pl' pc' (by omega) (by rw [Int.natCast_succ];exact hA4) hS3 b1 (by omega) (by rw [Int.natCast_succ];omega) (by omega)
theorem alive_gets {w:World} {hold:Int} (hh:-9223372036854775808≤hold∧hold≤9223372036854775807) {tv:Value} (ht:tv=.slice none 0 0∨∃ ad n cap C,tv=mkF (.slice (some ad) n cap) C∧TkC ad n C) :
  GX [] (AtEndA fun _=>True) ((base 4).at { tmps:=#[.int .i64 hold,tv]++Array.replicate 93 undef,defers:=[] } [.code (Tryz.f4.body.getD .skip)]) [] w:=by
 refine al_to hh fun a w' h sp xb xc Z p pa pl pc h3 h6 hA hS=>?_
 rcases ht with rfl | ⟨ad,n,cap,C,rfl,hz⟩
 ·exact al_out0 hA (by decide) trivial
 ·exact al_loop h3 h6 hz n 0 a w' 0 0 sp xb xc Z p pa pl pc (by omega) hA hS (by decide) (by decide) (by decide) (by decide)
end Go.Proofs.YtjnkcibpkkjniaaGreat.Pool
namespace Go.Proofs.YtjnkcibpkkjniaaGreat
open Go.ChangeShapes Go.WideShapes Go.ChangeAt Go.RowKit Go.Conc Go.Proofs.YtjnkcibpkkjniaaGreat.Sim Go.Proofs.YtjnkcibpkkjniaaGreat.Pool
theorem Tryz.own:ownKnob Tryz.prog.godebug=none:=by kernel_rfl
theorem Tryz.laidOut:laidOutB Tryz.prog=true:=by kernel_rfl
theorem Tryz.cellsInt:Tryz.prog.cellsOf 3=1:=by kernel_rfl
theorem alive_runs (W:World) {hold:Int} (hh:-9223372036854775808≤hold∧hold≤9223372036854775807) {tv:Value} (ht:tv=.slice none 0 0∨∃ ad n cap C ty fr,tv=.slice (some ad) n cap∧W.heap[ad.block]? = some (.cells C ty fr)∧TkC ad n C) :
  ∃ N last o w' t',runNT Tryz.prog (N+1) (solo (G (Frame.enter Tryz.prog 4 #[.int .i64 hold,tv] .normal) []) W) #[]=(.ended o w',t')∧runN Tryz.prog N (solo (G (Frame.enter Tryz.prog 4 #[.int .i64 hold,tv] .normal) []) W)=.next last∧step Tryz.prog last=.ended o w' ∧
   Conc.Good Tryz.prog (fun v w'=>v=.bool true∧(∀ B,B < W.heap.size→w'.heap[B]? = W.heap[B]?)∧w'.os=W.os∧w'.output=W.output) last o w' t':=by
 obtain ⟨sv,hsv,hm⟩:∃ sv,(sv=.slice none 0 0∨∃ ad n cap C,sv=mkF (.slice (some ad) n cap) C∧TkC ad n C)∧@VF scopeM (fun _=>False) (fun _=>none) W sv tv:=by
  rcases ht with rfl | ⟨ad,n,cap,C,ty,fr,rfl,hC,hT⟩
  ·exact ⟨_, .inl rfl, .inl (@VR.slice0 scopeM _ _ _)⟩
  ·exact ⟨_, .inr ⟨ad,n,cap,C,rfl,hT⟩, .inr ⟨C,ad,rfl, .inr ⟨_,_,rfl⟩,⟨ty,fr,hC⟩,fun y p h=>by (cases h),⟨fun _ _ h=>h,fun h=>h⟩⟩⟩
 have he:∀ sv,Frame.enter Tryz.prog 4 #[.int .i64 hold,sv] .normal=(base 4).at { tmps:=#[.int .i64 hold,sv]++Array.replicate 93 undef,defers:=[] } [.code (Tryz.f4.body.getD .skip)]:=fun sv=>by
  unfold Frame.enter
  simp only [Tryz.func4]
  rfl
 have hg:=alive_gets (w:=W) hh hsv
 rw [←he] at hg
 exact @ends_goodX scopeM Tryz.prog _ _ _ (.bool true) _ _ Tryz.func4 rfl (by kernel_rfl) (fun ρ v' h=>by cases h;rfl) rfl #[.int .i64 hold,sv] #[.int .i64 hold,tv] W (fun _=>none)
  (@HR.mk scopeM _ _ _ (fun b p h=>by cases h) (fun b b' p p' h=>by cases h) (Nat.zero_le _) rfl (fun _=>⟨rfl,fun b p h=>by cases h⟩))
  (@VsF.mk scopeM _ _ _ _ _ rfl fun i v v' a b=>by
   match i,a,b with
   | 0,a,b=>simp at a b;subst a;subst b;exact .inl (@VR.int scopeM _ _ _)
   | 1,a,b=>simp at a b;subst a;subst b;exact hm
   | i+2,a,b=>simp at a) hg
  (fun ρ' wS' w' _ _ _ h1 h2 h3=>⟨rfl,fun B hB=>h1 B hB (fun b p h=>by cases h),h2,h3⟩)
theorem spot_of {w:World} {a:Addr} {v:Value} (h:w.cell? a=some v):a.spot=none:=by
 unfold World.cell? at h
 cases hs:a.spot with
 | none=>rfl
 | some s =>
  simp [hs] at h
  split at h
  ·cases h
  ·cases h
theorem cell_in {w:World} {a:Addr} {v:Value} {C:Array Value} {ty:TypeId} {fr:Nat×Nat} (h:w.cell? a=some v) (hC:w.heap[a.block]? = some (.cells C ty fr)):C[a.off]? = some v:=by
 have hs:=spot_of h
 simpa [World.cell?,hs,hC] using h
set_option maxRecDepth 100000 in
theorem alive_lifted (os:Os) (started:os.Started) (H:Type) (enc:TypeId×Value→H) :
  ReturnsInLeavingWide {} Tryz.checked os 4 .any (Rows.aliveSpec.pre6 enc Tryz.prog Tryz.f4 Rows.aliveRow.domain false) (Rows.aliveSpec.post enc Tryz.prog Tryz.f4 false true false false):=by
 refine returnsInLeavingWide_of_change_sized (C:=Tryz.checked) Tryz.own started Tryz.func4
  (ChangeSpec.witness6 (enc:=enc) (C:=Tryz.checked) false ⟨#[],#[.int .i64 0, .slice none 0 0],[]⟩ 8 (by kernel_rfl) (by kernel_rfl) (by kernel_rfl) (by kernel_rfl)) ?_
 intro W base args ds gs before hval0 hW _ _ _
 have hval:∀ (j:Nat) t v,Tryz.f4.params[j]? = some t→args[j]? = some v→Value.okWide Tryz.prog W .any base t v:=hval0
 have hW':=hW
 obtain ⟨p,q,hA0,hV,rfl,_,_⟩:=hW
 have hA:DataW.TrodAll enc Tryz.prog W 0 (fun _=>true) true Tryz.f4.params.toList args.toList ds p:=hA0
 rw [Tryz.params4] at hA hval
 obtain ⟨v0,v1,d0,d1,p0,p1,rfl,rfl,rfl,h0,h1⟩:=trodAll_two hA
 obtain ⟨rfl,rfl⟩:=trodVars_none hV
 clear hA0 hval0 hA
 simp only [List.append_nil] at hW'
 have hlt:∀ x∈p0++p1,x.block < W.heap.size:=fun x hx=>by simpa using hW'.lt x hx
 obtain ⟨hold,rfl⟩:=okWide_int Tryz.underlying3 (hval 0 3 v0 rfl rfl)
 obtain ⟨a0,len,cap,rfl⟩:=okWide_slice Tryz.underlying31 (hval 1 31 v1 rfl rfl)
 have hh:-9223372036854775808≤hold∧hold≤9223372036854775807:=by
  have h:=hval 0 3 (.int .i64 hold) rfl rfl
  simp only [Value.okWide,Tryz.underlying3,Cell.okWide,Cell.ok] at h
  exact h.2
 have hs:=hval 1 31 (.slice a0 len cap) rfl rfl
 have ht:(Value.slice a0 len cap=.slice none 0 0)∨∃ ad n cap' C ty fr,Value.slice a0 len cap=.slice (some ad) n cap'∧W.heap[ad.block]? = some (.cells C ty fr)∧TkC ad n C:=by
  obtain ⟨fuel,hf⟩:=h1
  rcases open_ints Tryz.underlying31 Tryz.underlying3 Tryz.cellsInt hf with ⟨hcs,hx⟩ | ⟨a,len',cap',zs,hcs,_,hl,hm,hz,hx,hcell,hwz⟩
  ·simp [Value.cells] at hcs
   exact .inl (by simp [hcs])
  ·simp [Value.cells] at hcs
   obtain ⟨rfl,rfl,rfl⟩:=hcs
   simp only [if_true] at hz
   simp only [Value.okWide,Tryz.underlying31,Cell.okWide,Cell.ok,World.has] at hs
   obtain ⟨_,_,_,_,row,cells,hsh,_⟩:=hs
   obtain ⟨C,fr,hC⟩:∃ C fr,W.heap[a.block]? = some (.cells C row fr):=by
    unfold World.shape? at hsh
    split at hsh
    ·rename_i c e f hc
     simp only [Option.some.injEq,Prod.mk.injEq] at hsh
     obtain ⟨rfl,_⟩:=hsh
     exact ⟨c,f,hc⟩
    ·cases hsh
   refine .inr ⟨a,_,_,C,row,fr,rfl,hC,fun i hi=>?_⟩
   have hi':i < zs.length:=by omega
   have hc:=hcell i hi'
   have hbk:(a.add i).block=a.block:=by unfold Addr.add;split <;> rfl
   refine ⟨zs.getD i 0,?_,spot_of hc,cell_in hc (by rw [hbk];exact hC)⟩
   have hw:=hwz (zs.getD i 0) (by rw [List.getD_eq_getElem?_getD,List.getElem?_eq_getElem hi'];exact List.getElem_mem hi')
   have m1:IntKind.i64.min=-9223372036854775808:=rfl
   have m2:IntKind.i64.max=9223372036854775807:=rfl
   simp only [Lit.wf,Bool.and_eq_true,decide_eq_true_eq] at hw
   omega
 obtain ⟨N,last,o,w',t',r1,r2,r3,r4⟩:=alive_runs W hh ht
 refine ⟨N,last,o,w',t',r1,r2,r3,r4.mono fun v hp=>?_⟩
 obtain ⟨rfl,hb,hos,hout⟩:=hp
 have hsz:W.heap.size≤w'.heap.size:=by
  rcases Nat.lt_or_ge w'.heap.size W.heap.size with h | h
  ·have:=hb _ h
   rw [Array.getElem?_eq_none (Nat.le_refl _),Array.getElem?_eq_getElem h] at this
   cases this
  ·exact h
 have hB:Below W.heap.size W { w' with tape:=W.tape }:=⟨hos,rfl,hout,hsz,hb⟩
 have hA2:DataW.TrodAll enc Tryz.prog { w' with tape:=W.tape } 0 (fun b=>decide (b < W.heap.size)) true [3,31] [.int .i64 hold, .slice a0 len cap] [d0,d1] (p0++p1) :=
  trodAll_mk2 (Below.trod Tryz.laidOut (by kernel_rfl) (of_decide_eq_true (by kernel_rfl)) h0 hB fun x hx=>hlt x (List.mem_append_left _ hx)) (Below.trod Tryz.laidOut (by kernel_rfl) (of_decide_eq_true (by kernel_rfl)) h1 hB fun x hx=>hlt x (List.mem_append_right _ hx))
 have hA3:DataW.TrodAll enc Tryz.prog w' 0 (fun b=>decide (b < W.heap.size)) true [3,31] [.int .i64 hold, .slice a0 len cap] [d0,d1] (p0++p1):=DataW.TrodAll.of_heap (w':=w') (show ({ w' with tape:=W.tape }:World).heap=w'.heap from rfl) hA2
 have hk:=hB.frame fun p=>p∈p0++p1∧(p∈[]∨p∈p0++p1∨p∈[])
 refine ⟨[d0,d1],[],p0++p1,[],p0++p1,[],hW',?_,?_,rfl,⟨hk.1,hk.2.1,hk.2.2⟩,fun h=>by cases h⟩
 ·exact trodAll_mk1 (shut_bool Tryz.underlying4 true)
 ·exact hA3
theorem alive_holds:Rows.AliveSaid :=
 OpenClaim.holds_of_wide_leaving 4 Tryz.f4 rfl rfl rfl rfl rfl rfl rfl ⟨rfl,rfl,rfl,rfl,rfl⟩ rfl rfl rfl rfl rfl (by kernel_rfl) Tryz.func4 (by kernel_rfl)
  (of_decide_eq_true (by kernel_rfl)) (by unfold Func.isWrapper;rw [if_neg (of_decide_eq_false (by kernel_rfl))];exact ⟨rfl,rfl⟩)
  (fun os started H enc _=>alive_lifted os started H enc)
end Go.Proofs.YtjnkcibpkkjniaaGreat
