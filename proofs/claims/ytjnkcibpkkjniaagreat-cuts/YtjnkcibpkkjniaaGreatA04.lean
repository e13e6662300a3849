import Derived.Test.YtjnkcibpkkjniaaGreatA00
import Derived.Test.YtjnkcibpkkjniaaGreatA03
import Derived.Test.YtjnkcibpkkjniaaGreatA02
import Derived.Conc.CrowdSel
import Derived.Conc.CompanyDraw
import Derived.Test.YtjnkcibpkkjniaaGreatChecked
import Derived.Conc.BesideWords
import Derived.Laws.Build
import Derived.Laws.ByValue
set_option linter.all false
set_option maxHeartbeats 8000000
set_option maxRecDepth 100000
namespace Go.Proofs.YtjnkcibpkkjniaaGreat
def gY:=@Go.Conc.offersAt_of_not_blocked
end Go.Proofs.YtjnkcibpkkjniaaGreat
namespace Go.Proofs.YtjnkcibpkkjniaaGreat.kN
section
open Go.Conc Go.ConcN Go.ConcN.Gen Go.RowKit Go.Conc.Lib Go.ConcR.Gen
open Go.ConcR (KK wgBlock WgAt stA smA rd wr mk DC0)
theorem fZ{P:Program}{b:Frame}{a:Act}{k:List Item}{cs:List Frame}{n d:Nat}{ops:Array Oper}{i:Nat}{rest:List Nat}{o:Oper}{v:Value}(h:QuitsD P n d (G (b.at (a.put o.dst v) (.inRegion ops rest::k)) cs))(e:ops[i]?=some o:=by rfl)(hw:Region.wanted o (yielded ops a.tmps)=true:=by rfl)(r:b.kind≠.early:=by k_ne)(y:∀w,(execOp a.eval o).run P w=.ok (.value v) w:=by(intro _;go_simp<;>rfl))(z:∀w,Sem.events P (execOp a.eval o) w #[]=#[]:=by(intro _;simp[go_sem, *])):QuitsD P (n+1) d (G (b.at a (.inRegion ops (i::rest)::k)) cs) :=
 QuitsD.value v e hw r y z h
section
variable (P:Program) (mn:Bool) (R:World→World→Prop) (ty:TypeId) (Wg:Nat)
def C0 (g:Goroutine) (w:World):Prop :=
 g.status=.running∧mayWake P g=true∧(WgAt ty Wg w 0 0→∃g',stepG P mn g w=.go g' (w.setCell (smA Wg) (.int .u32 1)) (semEvents (smA Wg))∧∃q,QuitsD P q 1 g')
def C4 (g:Goroutine) (w:World):Prop :=
 g.status=.running∧(WgAt ty Wg w 1 0→∃g',stepG P mn g w=.go g' (w.setCell (stA Wg) (.int .u64 0)) #[wr (stA Wg)]∧∃m,Goes P mn R DC0 (C0 P mn ty Wg) m g' (w.setCell (stA Wg) (.int .u64 0)))
def C5 (g:Goroutine) (w:World):Prop :=
 g.status=.running∧(WgAt ty Wg w 1 0→∃g',stepG P mn g w=.go g' w #[rd (stA Wg)]∧∃m,Goes P mn R DC0 (C4 P mn R ty Wg) m g' w)
def C6 (g:Goroutine) (w:World):Prop :=
 g.status=.running∧∀v wt:Nat,wt≤1→v<2147483647→WgAt ty Wg w (((v:Int)+1)*KK+wt) 0 →
  ∃g',stepG P mn g w=.go g' (w.setCell (stA Wg) (.int .u64 ((v:Int)*KK+wt))) #[rd (stA Wg),wr (stA Wg)] ∧
   ((v=0∧wt=1)→∃m,Goes P mn R DC0 (C5 P mn R ty Wg) m g' (w.setCell (stA Wg) (.int .u64 ((v:Int)*KK+wt))))∧(¬(v=0∧wt=1)→∃q,QuitsD P q 1 g')
def C7:Goroutine→World→Prop:=oT P mn R (mk .disable) (C6 P mn R ty Wg)
def vH:Goroutine→World→Prop:=oT P mn R (mk (.releaseMerge (stA Wg))) (C7 P mn R ty Wg)
end
section
variable {P:Program} {R:World→World→Prop} {F:World→Prop} {L:WgLink} {Wg:Nat}
 {b₀:Frame} {a₀:Act} {ops₀:Array Oper} {i₀:Nat} {rest₀:List Nat} {k₀:List Item} {cs:List Frame} {qt:Nat}
theorem JK(H:WgLib P L)(T:sX R F L.tWg Wg)(C:QuitsD P qt 0 (G (b₀.at (a₀.put ((ops₀[i₀]?).bind (·.dst)) (.tuple #[])) (.inRegion ops₀ rest₀::k₀)) cs))(w:World)(hF:F w∧WgLive L.tWg Wg w):Goes P false R DC0 (vH P false R L.tWg Wg) 20 (G ((base L.add).at ⟨#[.pointer (some ⟨Wg,0,none⟩),.int .i64 (-1)]++Array.replicate 115 undef,[]⟩ [.code (body_add L)]) (b₀.at a₀ (.inRegion ops₀ (i₀::rest₀)::k₀)::cs)) w:=by
 lib_facts
 simp only[body_add,addFn,eE];walk_nrm
 u_c stepG_seq T.rl hF
 u_cnd true T.rl hF
 iterate 2 (u_c stepG_seq T.rl hF)
 u_reg T.rl hF
 iterate 2 (u_op T.rl hF)
 u_c stepG_region_end T.rl hF
 u_cnd true T.rl hF
 u_reg T.rl hF
 u_op T.rl hF
 u_conv H.underlying_tWgP H.room_tWg (WgLive.cell0 hF.2).choose_spec T.rl hF
 refine fQ (fun I e=>?_);replace hF:=T.rl hF e;clear e;refine⟨rfl,_,fT .releaseMerge (by simp) rfl rfl (by k_ne) rfl H.f_relMerge (x_relMerge_n L) (x_relMerge_b L) (x_relMerge_x L) (x_relMerge_f L) (by simp[Act.eval,stA]),10,?_⟩;walk_nrm
 u_c stepG_region_end T.rl hF
 u_c stepG_seq T.rl hF
 u_reg T.rl hF
 refine fQ (fun w₁ e=>?_);replace hF:=T.rl hF e;clear e;refine⟨rfl,_,fR .disable (by simp) rfl rfl (by k_ne) rfl H.f_disable (x_disable_n L) (x_disable_b L) (x_disable_x L) (x_disable_f L),50,?_⟩;walk_nrm
 u_c stepG_region_end T.rl hF
 u_reg T.rl hF
 u_defer T.rl hF
 u_c stepG_region_end T.rl hF
 u_c stepG_seq T.rl hF
 u_reg T.rl hF
 u_op T.rl hF
 u_c stepG_region_end T.rl hF
 iterate 2 (u_c stepG_seq T.rl hF)
 u_reg T.rl hF
 u_bub T.rl hF
 u_c stepG_region_end T.rl hF
 u_cnd false T.rl hF
 u_c stepG_skip T.rl hF
 u_c stepG_seq T.rl hF
 u_reg T.rl hF
 iterate 6 (u_op T.rl hF)
 u_call H.f_uAdd (nm_uAdd L) uAddFn T.rl hF
 u_c stepG_seq T.rl hF
 u_reg T.rl hF
 u_op T.rl hF
 u_c stepG_region_end T.rl hF
 u_c stepG_seq T.rl hF
 u_reg T.rl hF
 iterate 4 (u_op T.rl hF)
 refine fQ (fun h e=>?_);replace hF:=T.rl hF e;clear e;refine⟨rfl,fun v wt U W hw=>?_⟩;have K:IntKind.u64.wrap (KK+1+18446744069414584320)=1:=by decide
 by_cases r:v=0∧wt=1
 ·obtain⟨rfl,rfl⟩:=r;replace hw:WgAt L.tWg Wg h (KK+1) 0:=by simpa using hw
  have z:((0:Nat):Int)*KK+((1:Nat):Int)=1:=by simp
  rw[z];refine⟨_,(fS rfl rfl (by k_ne) rfl H.f_addU64 (x_addU64_n L) (x_addU64_b L) (x_addU64_x L) .u64 (x_addU64_f L) rfl rfl hw.cellSt (hw.thaw 0)).trans (by rw[K];rfl),fun _=>⟨120,?_⟩,fun E=>absurd ⟨rfl,rfl⟩ E⟩;replace hF:F (h.setCell (stA Wg) (.int .u64 1))∧WgLive L.tWg Wg (h.setCell (stA Wg) (.int .u64 1)):=⟨T.own _ _ _ rfl hF.1,⟨_,_,hw.setSt 1⟩⟩;clear hw;walk_nrm
  u_op T.rl hF
  u_c stepG_region_end T.rl hF
  u_c stepG_ret' T.rl hF
  u_leave1 H.f_uAdd T.rl hF
  u_op T.rl hF
  u_c stepG_region_end T.rl hF
  iterate 2 (u_c stepG_seq T.rl hF)
  u_reg T.rl hF
  iterate 4 (u_op T.rl hF)
  iterate 2 (first|u_op T.rl hF|u_skip T.rl hF)
  u_op T.rl hF
  u_c stepG_region_end T.rl hF
  u_cnd false T.rl hF
  u_c stepG_skip T.rl hF
  u_c stepG_seq T.rl hF
  u_reg T.rl hF
  iterate 4 (u_op T.rl hF)
  u_c stepG_region_end T.rl hF
  u_c stepG_seq T.rl hF
  u_reg T.rl hF
  iterate 4 (u_op T.rl hF)
  u_c stepG_region_end T.rl hF
  iterate 2 (u_c stepG_seq T.rl hF)
  u_reg T.rl hF
  u_op T.rl hF
  iterate 2 (first|u_op T.rl hF|u_skip T.rl hF)
  iterate 2 (u_op T.rl hF)
  iterate 4 (first|u_op T.rl hF|u_skip T.rl hF)
  u_op T.rl hF
  u_c stepG_region_end T.rl hF
  u_cnd false T.rl hF
  u_c stepG_skip T.rl hF
  iterate 2 (u_c stepG_seq T.rl hF)
  u_reg T.rl hF
  iterate 2 (u_op T.rl hF)
  u_c stepG_region_end T.rl hF
  u_cnd false T.rl hF
  u_c stepG_skip T.rl hF
  iterate 2 (u_c stepG_seq T.rl hF)
  u_reg T.rl hF
  iterate 3 (u_op T.rl hF)
  iterate 2 (first|u_op T.rl hF|u_skip T.rl hF)
  iterate 2 (u_op T.rl hF)
  iterate 4 (first|u_op T.rl hF|u_skip T.rl hF)
  u_op T.rl hF
  u_c stepG_region_end T.rl hF
  u_cnd false T.rl hF
  u_c stepG_skip T.rl hF
  iterate 2 (u_c stepG_seq T.rl hF)
  u_reg T.rl hF
  iterate 3 (u_op T.rl hF)
  iterate 2 (first|u_op T.rl hF|u_skip T.rl hF)
  u_op T.rl hF
  u_c stepG_region_end T.rl hF
  u_cnd false T.rl hF
  u_c stepG_skip T.rl hF
  iterate 2 (u_c stepG_seq T.rl hF)
  u_reg T.rl hF
  iterate 3 (u_op T.rl hF)
  u_call H.f_uLoad (nm_uLoad L) uLoadFn T.rl hF
  u_c stepG_seq T.rl hF
  u_reg T.rl hF
  u_op T.rl hF
  u_c stepG_region_end T.rl hF
  u_c stepG_seq T.rl hF
  u_reg T.rl hF
  iterate 3 (u_op T.rl hF)
  refine fQ (fun M e=>?_);replace hF:=T.rl hF e;clear e;refine⟨rfl,fun hw=>⟨_,fX rfl rfl (by k_ne) rfl H.f_loadU64 (x_loadU64_n L) (x_loadU64_b L) (x_loadU64_x L) .u64 (x_loadU64_f L) rfl hw.cellSt,40,?_⟩⟩;clear hw;walk_nrm
  u_op T.rl hF
  u_c stepG_region_end T.rl hF
  u_c stepG_ret' T.rl hF
  u_leave1 H.f_uLoad T.rl hF
  iterate 2 (u_op T.rl hF)
  u_c stepG_region_end T.rl hF
  u_cnd false T.rl hF
  u_c stepG_skip T.rl hF
  u_c stepG_seq T.rl hF
  u_reg T.rl hF
  iterate 3 (u_op T.rl hF)
  u_call H.f_uStore (nm_uStore L) uStoreFn T.rl hF
  u_reg T.rl hF
  iterate 4 (u_op T.rl hF)
  refine fQ (fun y e=>?_);replace hF:=T.rl hF e;clear e;refine⟨rfl,fun hw=>⟨_,stepG_store_atomic rfl rfl (by k_ne) rfl H.f_storeU64 (x_storeU64_n L) (x_storeU64_b L) (x_storeU64_x L) (x_storeU64_f L) rfl rfl hw.cellSt (hw.thaw 0),50,?_⟩⟩;replace hF:F (y.setCell (stA Wg) (.int .u64 0))∧WgLive L.tWg Wg (y.setCell (stA Wg) (.int .u64 0)):=⟨T.own _ _ _ rfl hF.1,⟨_,_,hw.setSt 0⟩⟩;clear hw;walk_nrm
  u_c stepG_region_end T.rl hF
  u_c fY T.rl hF
  u_leave0 H.f_uStore T.rl hF
  u_c stepG_region_end T.rl hF
  iterate 2 (u_c stepG_seq T.rl hF)
  u_reg T.rl hF
  u_op T.rl hF
  u_c stepG_region_end T.rl hF
  u_cnd false T.rl hF
  u_c stepG_skip T.rl hF
  u_c stepG_block T.rl hF
  u_c stepG_loop T.rl hF
  iterate 2 (u_c stepG_seq T.rl hF)
  u_reg T.rl hF
  iterate 2 (u_op T.rl hF)
  u_c stepG_region_end T.rl hF
  u_cnd true T.rl hF
  u_c stepG_skip T.rl hF
  u_c stepG_seq T.rl hF
  u_c stepG_block T.rl hF
  u_reg T.rl hF
  iterate 3 (u_op T.rl hF)
  refine fQ (fun O e=>?_);replace hF:=T.rl hF e;clear e;refine⟨rfl,mayWake_entry rfl rfl H.f_semrelease (x_semrelease_b L),fun hw=>⟨_,(stepG_semrelease rfl rfl (by k_ne) rfl H.f_semrelease (x_semrelease_n L) (x_semrelease_b L) (x_semrelease_x L) (x_semrelease_f L) (by simp[Act.eval,smA]) hw.cellSm (hw.thaw 1)).trans (by rfl),qt+19,?_⟩⟩;clear hw;walk_nrm
  q_c stepG_region_end
  q_c stepG_inBlock
  q_reg
  iterate 3 ((refine fZ ?_;walk_nrm))
  q_c stepG_region_end
  q_c stepG_inLoop
  iterate 2 (q_c stepG_seq)
  q_reg
  iterate 2 ((refine fZ ?_;walk_nrm))
  q_c stepG_region_end
  q_cond false
  q_exit
  q_c fY
  q_enable
  q_leave0 H.f_add
  exact C
 ·have A:wt=0∨wt=1:=by omega
  obtain⟨S,hS⟩:∃S:Int,S=(v:Int)*KK+wt:=⟨_,rfl⟩;have Q:IntKind.u64.wrap (((v:Int)+1)*KK+wt+18446744069414584320)=S:=by rw[IntKind.wrap_u64,hS];simp only[KK];omega
  have Y:S / 4294967296=(v:Int):=by rw[hS];simp only[KK];omega
  have b1:bits .and .u64 S 2147483648=0:=by rw[hS];have:=st_flag v wt (by omega) (by omega);simpa[KK]using this
  have b2:bits .and .u64 S 2147483647=(wt:Int):=by rw[hS];have:=st_waiters v wt (by omega) (by omega);simpa[KK]using this
  have c1:IntKind.i32.wrap (v:Int)=(v:Int):=by rw[IntKind.wrap_i32];omega
  have c2:IntKind.u32.wrap (wt:Int)=(wt:Int):=by rw[IntKind.wrap_u32];omega
  have Z:decide ((v:Int)<0)=false:=fU (by omega);have n0:IntKind.u32.wrap 0=0:=by decide
  have n1:IntKind.u32.wrap 1=1:=by decide
  have n2:IntKind.i32.wrap 0=0:=by decide
  rw[←hS];refine⟨_,(fS rfl rfl (by k_ne) rfl H.f_addU64 (x_addU64_n L) (x_addU64_b L) (x_addU64_x L) .u64 (x_addU64_f L) rfl rfl hw.cellSt (hw.thaw 0)).trans (by rw[Q];rfl),fun E=>absurd E r,fun _=>⟨qt+89,?_⟩⟩;clear hw hS Q K;rcases fb v with rfl|V
  ·obtain rfl:wt=0:=by omega
   walk_nrm
   (refine fZ ?_;walk_nrm)
   q_c stepG_region_end
   q_c stepG_ret'
   q_leave1 H.f_uAdd
   (refine fZ ?_;walk_nrm)
   q_c stepG_region_end
   iterate 2 (q_c stepG_seq)
   q_reg
   iterate 4 ((refine fZ ?_;walk_nrm))
   iterate 2 (first|(refine fZ ?_;walk_nrm)|q_skip)
   (refine fZ ?_;walk_nrm)
   q_c stepG_region_end
   q_cond false
   q_c stepG_skip
   q_c stepG_seq
   q_reg
   iterate 4 ((refine fZ ?_;walk_nrm))
   q_c stepG_region_end
   q_c stepG_seq
   q_reg
   iterate 4 ((refine fZ ?_;walk_nrm))
   q_c stepG_region_end
   iterate 2 (q_c stepG_seq)
   q_reg
   (refine fZ ?_;walk_nrm)
   iterate 2 (first|(refine fZ ?_;walk_nrm)|q_skip)
   iterate 2 ((refine fZ ?_;walk_nrm))
   iterate 4 (first|(refine fZ ?_;walk_nrm)|q_skip)
   (refine fZ ?_;walk_nrm)
   q_c stepG_region_end
   q_cond false
   q_c stepG_skip
   iterate 2 (q_c stepG_seq)
   q_reg
   iterate 2 ((refine fZ ?_;walk_nrm))
   q_c stepG_region_end
   q_cond false
   q_c stepG_skip
   iterate 2 (q_c stepG_seq)
   q_reg
   iterate 3 ((refine fZ ?_;walk_nrm))
   iterate 2 (first|(refine fZ ?_;walk_nrm)|q_skip)
   iterate 2 ((refine fZ ?_;walk_nrm))
   iterate 4 (first|(refine fZ ?_;walk_nrm)|q_skip)
   (refine fZ ?_;walk_nrm)
   q_c stepG_region_end
   q_cond false
   q_c stepG_skip
   iterate 2 (q_c stepG_seq)
   q_reg
   iterate 3 ((refine fZ ?_;walk_nrm))
   iterate 2 (first|(refine fZ ?_;walk_nrm)|q_skip)
   (refine fZ ?_;walk_nrm)
   q_c stepG_region_end
   q_cond true
   q_c stepG_ret'
   q_enable
   q_leave0 H.f_add
   exact C
  ·have q4:decide (0<(v:Int))=true:=decide_eq_true (by omega);have q5:((v:Int) == 0)=false:=by simp;omega
   have q6:decide ((v:Int)=0)=false:=fU (by omega);obtain rfl|rfl:=A
   ·walk_nrm
    (refine fZ ?_;walk_nrm)
    q_c stepG_region_end
    q_c stepG_ret'
    q_leave1 H.f_uAdd
    (refine fZ ?_;walk_nrm)
    q_c stepG_region_end
    iterate 2 (q_c stepG_seq)
    q_reg
    iterate 4 ((refine fZ ?_;walk_nrm))
    iterate 2 (first|(refine fZ ?_;walk_nrm)|q_skip)
    (refine fZ ?_;walk_nrm)
    q_c stepG_region_end
    q_cond false
    q_c stepG_skip
    q_c stepG_seq
    q_reg
    iterate 4 ((refine fZ ?_;walk_nrm))
    q_c stepG_region_end
    q_c stepG_seq
    q_reg
    iterate 4 ((refine fZ ?_;walk_nrm))
    q_c stepG_region_end
    iterate 2 (q_c stepG_seq)
    q_reg
    (refine fZ ?_;walk_nrm)
    iterate 2 (first|(refine fZ ?_;walk_nrm)|q_skip)
    iterate 2 ((refine fZ ?_;walk_nrm))
    iterate 4 (first|(refine fZ ?_;walk_nrm)|q_skip)
    (refine fZ ?_;walk_nrm)
    q_c stepG_region_end
    q_cond false
    q_c stepG_skip
    iterate 2 (q_c stepG_seq)
    q_reg
    iterate 2 ((refine fZ ?_;walk_nrm))
    q_c stepG_region_end
    q_cond false
    q_c stepG_skip
    iterate 2 (q_c stepG_seq)
    q_reg
    iterate 3 ((refine fZ ?_;walk_nrm))
    iterate 2 (first|(refine fZ ?_;walk_nrm)|q_skip)
    iterate 2 ((refine fZ ?_;walk_nrm))
    iterate 4 (first|(refine fZ ?_;walk_nrm)|q_skip)
    (refine fZ ?_;walk_nrm)
    q_c stepG_region_end
    q_cond false
    q_c stepG_skip
    iterate 2 (q_c stepG_seq)
    q_reg
    iterate 3 ((refine fZ ?_;walk_nrm))
    iterate 2 (first|(refine fZ ?_;walk_nrm)|q_skip)
    (refine fZ ?_;walk_nrm)
    q_c stepG_region_end
    q_cond true
    q_c stepG_ret'
    q_enable
    q_leave0 H.f_add
    exact C
   ·walk_nrm
    (refine fZ ?_;walk_nrm)
    q_c stepG_region_end
    q_c stepG_ret'
    q_leave1 H.f_uAdd
    (refine fZ ?_;walk_nrm)
    q_c stepG_region_end
    iterate 2 (q_c stepG_seq)
    q_reg
    iterate 4 ((refine fZ ?_;walk_nrm))
    iterate 2 (first|(refine fZ ?_;walk_nrm)|q_skip)
    (refine fZ ?_;walk_nrm)
    q_c stepG_region_end
    q_cond false
    q_c stepG_skip
    q_c stepG_seq
    q_reg
    iterate 4 ((refine fZ ?_;walk_nrm))
    q_c stepG_region_end
    q_c stepG_seq
    q_reg
    iterate 4 ((refine fZ ?_;walk_nrm))
    q_c stepG_region_end
    iterate 2 (q_c stepG_seq)
    q_reg
    (refine fZ ?_;walk_nrm)
    iterate 2 (first|(refine fZ ?_;walk_nrm)|q_skip)
    iterate 2 ((refine fZ ?_;walk_nrm))
    iterate 4 (first|(refine fZ ?_;walk_nrm)|q_skip)
    (refine fZ ?_;walk_nrm)
    q_c stepG_region_end
    q_cond false
    q_c stepG_skip
    iterate 2 (q_c stepG_seq)
    q_reg
    iterate 2 ((refine fZ ?_;walk_nrm))
    q_c stepG_region_end
    q_cond false
    q_c stepG_skip
    iterate 2 (q_c stepG_seq)
    q_reg
    iterate 3 ((refine fZ ?_;walk_nrm))
    iterate 2 (first|(refine fZ ?_;walk_nrm)|q_skip)
    iterate 2 ((refine fZ ?_;walk_nrm))
    iterate 4 (first|(refine fZ ?_;walk_nrm)|q_skip)
    (refine fZ ?_;walk_nrm)
    q_c stepG_region_end
    q_cond false
    q_c stepG_skip
    iterate 2 (q_c stepG_seq)
    q_reg
    iterate 3 ((refine fZ ?_;walk_nrm))
    iterate 2 (first|(refine fZ ?_;walk_nrm)|q_skip)
    (refine fZ ?_;walk_nrm)
    q_c stepG_region_end
    q_cond true
    q_c stepG_ret'
    q_enable
    q_leave0 H.f_add
    exact C
end
end
section
open Go.Conc Go.ConcN Go.Proofs.YtjnkcibpkkjniaaGreat.kx
open Go.ConcR (KK wgBlock WgAt stA smA rd wr mk DC0)
section
variable {P:Program} {main:Bool} {R:World→World→Prop} {D D':World→World→Array Event→Prop} {S1 S2:Goroutine→World→Prop}
theorem Goes.vI(r:∀w w' es,D w w' es→D' w w' es):∀{n:Nat}{g:Goroutine}{w:World},Goes P main R D S1 n g w→Goes P main R D' S1 n g w:=by
 intro n
 induction n with
 |zero=>intro g w h;exact h
 |succ n y =>
  intro g w h;rcases h with h|⟨z,h⟩
  ·exact .inl h
  ·refine .inr ⟨z,fun w₁ e=>?_⟩;have:=h w₁ e;revert this
   cases stepG P main g w₁<;>simp only[GStep.goes,imp_self]
   exact fun⟨d,x⟩=>⟨r _ _ _ d,y x⟩
theorem Goes.bind(refl:∀w,R w w){m2:Nat}(r:∀g w,S1 g w→Goes P main R D S2 m2 g w):∀{n:Nat}{g:Goroutine}{w:World},Goes P main R D S1 n g w→Goes P main R D S2 (n+m2) g w:=by
 intro n
 induction n with
 |zero=>intro g w h;rw[dG];exact r g w (h w (refl w))
 |succ n y =>
  intro g w h;rcases h with h|⟨z,h⟩
  ·exact Goes.mono (r g w (h w (refl w))) (by omega)
  ·rw[show n+1+m2=(n+m2)+1 by omega];refine .inr ⟨z,fun w₁ e=>?_⟩;have:=h w₁ e;revert this
   cases stepG P main g w₁<;>simp only[GStep.goes,imp_self]
   exact fun⟨d,x⟩=>⟨d,y x⟩
end
structure RK (ty:TypeId) (Wg:Nat) (S:Nat→Prop) (w w₁:World):Prop where
 keep:∀b,S b→w₁.heap[b]?=w.heap[b]?
 live:WgLive ty Wg w→WgLive ty Wg w₁
variable {ty:TypeId} {Wg:Nat} {S:Nat→Prop}
theorem RK.refl(w:World):RK ty Wg S w w:=⟨fun _ _=>rfl,id⟩
theorem RK.trans{ty:TypeId}{Wg:Nat}{S:Nat→Prop}(a b c:World)(h:RK ty Wg S a b)(k:RK ty Wg S b c):RK ty Wg S a c:=⟨fun x hx=>(k.keep x hx).trans (h.keep x hx),fun e=>k.live (h.live e)⟩
theorem RK.at(w:World)(d:Nat):RK ty Wg S w (w.at d):=⟨fun _ _=>rfl,id⟩
def DQ (S:Nat→Prop) (w w':World) (es:Array Event):Prop:=(∃d,w'=w.at d)∧∀e∈es,∃a:Addr,e=⟨.cell a,false,false⟩∧S a.block
variable {w w':World}
theorem DQ.p9{es:Array Event}(h:DC0 w w' es):DQ S w w' es:=by
 obtain⟨rfl,rfl⟩:=h;exact⟨⟨_,rfl⟩,by simp⟩
structure nj where
 B:Nat
 n:Nat
 Wg:Nat
 CB:Nat
 CF:Nat
 ty:TypeId
 z:Value
structure JL where
 S:Nat→Prop
 f:FuncId
 args:Array Value
 mg:Array Value
 wS:World
 ok:Value→Prop
 msg:Value→Value
variable [Scope]
structure me extends JL where
 ρ:j7
 R:Value→World→Prop
structure me.Good (P:Program) (J:me):Prop where
 C8:Scope.ok J.f=true
 rel:ki J.ρ J.args J.mg
 calls:∀T,Calls P J.f J.args { J.wS with tape:=T,drawn:=0 } fun e w'=>∃v,e=.returned v∧J.R v w'
 shape:∀v w ρ v',J.R v w→VR ρ v v'→J.ok v'
def Leaves (ρ:j7) (w w':World):Prop:=∀b p,ρ b=some p→match p.part with
 |none=>w'.heap[p.block]?=w.heap[p.block]?
 |some x=>∀C E,w.heap[p.block]?=some (.cells C E (0,0))→∃C',w'.heap[p.block]?=some (.cells C' E (0,0))∧C'.size=C.size∧∀i:Nat,x.start≤i→i<x.start+x.len→C'[i]?=C[i]?
theorem Leaves.refl(ρ:j7)(w:World):Leaves ρ w w:=by
 intro b p h;split
 ·rfl
 ·exact fun C E e=>⟨C,e,rfl,fun _ _ _=>rfl⟩
theorem Leaves.of_heap{ρ:j7}(h:w'.heap=w.heap):Leaves ρ w w':=by
 intro b p hb;rw[h];exact Leaves.refl ρ w b p hb
theorem Leaves.block{ρ:j7}{w w':World}(h:∀b p,ρ b=some p→w'.heap[p.block]?=w.heap[p.block]?):Leaves ρ w w':=by
 intro b p hb;rw[h b p hb];exact Leaves.refl ρ w b p hb
theorem Leaves.obj{ρ:j7}{w w':World}(y:Scope.sync=false)(h:Leaves ρ w w'){b:Nat}{p:kx.Place}{o o':Obj}(hb:ρ b=some p)(z:w.heap[p.block]?=some o)(r:mD ρ p o' o):∃A,w'.heap[p.block]?=some A∧mD ρ p o' A:=by
 have:=h b p hb;unfold mD at r ⊢;split at this
 ·rename_i e;rw[e]at r ⊢;exact⟨o,this.trans z,r⟩
 ·rename_i x e;rw[e]at r ⊢;rcases r with⟨E,_⟩|⟨c,C,rfl,rfl,hd,hp⟩
  ·rw[y]at E;cases E
  obtain⟨C',I,G,K⟩:=this C _ z;refine⟨_,I,.inr ⟨c,C',rfl,rfl,⟨hd.1,G.trans hd.2⟩,hp.size,by rw[G];exact hp.room,fun i v H=>?_⟩⟩;have M:i<x.len:=by have:=(dv.1 H).1;rw[hp.size]at this;exact this
  obtain⟨v',k1,k2⟩:=hp.get i v H;exact⟨v',by rw[K (x.start+i) (by omega) (by omega)];exact k1,k2⟩
theorem HR.leaves{ρ:j7}{wS w w':World}(r:Scope.sync=false)(h:HR ρ wS w)(z:Leaves ρ w w')(y:w'.os=w.os):HR ρ wS w' :=
 ⟨fun b p hb=>by
  obtain⟨o,o',A,C,E⟩:=h.obj b p hb;obtain⟨G,k1,k2⟩:=Leaves.obj r z hb C E;exact⟨o,G,A,k1,k2⟩,h.inj,h.base,y.trans h.os,fun e=>by rw[r]at e;cases e⟩
theorem nP.leaves{P:Program}{m0:Machine}{K:Nat}{T:Tape}{ρ:j7}{cs:List Frame}{k D:Nat}{gS g:Goroutine}{wS w w':World}(e:Scope.sync=false)(h:nP P m0 K T ρ cs k D gS wS g w)(y:Leaves ρ w w')(r:w'.os=w.os):nP P m0 K T ρ cs k D gS wS g w' :=
 ⟨h.run,h.gr,HR.leaves e h.hr y r,h.tape,h.drawn,h.le⟩
structure WD where
 stage:Nat
 fuel:Nat
 deaf:Nat
 ρ:j7
 v:Value
section
variable (P:Program) (N:nj)
def AtSend (S:Nat→Prop) (v:Value) (g:Goroutine) (w:World):Prop :=
 g.status=.running∧stepG P false g w=.comm g #[scase N.CB v N.z] true .send w #[]∧∃m,Goes P false (RK N.ty N.Wg S) (DQ S) (vH P false (RK N.ty N.Wg S) N.ty N.Wg) m (Go.Conc.served g undef) w
def wU (J:me) (c:Frame) (cs:List Frame) (w:World):Prop :=
 ∀v',J.ok v'→∃m,Goes P false (RK N.ty N.Wg J.S) (DQ J.S) (AtSend P N J.S (J.msg v')) m { frame:=c.finish v',callers:=cs,status:=.running,dying:=none } w
def yk (J:me) (g:Goroutine) (w:World):Prop :=
 g.status=.running∧∃c cs,(∀w₁,RK N.ty N.Wg J.S w w₁→stepG P false g w₁=.go { frame:=Frame.enter P J.f J.mg .normal,callers:=c::cs,status:=.running,dying:=none } w₁ #[])∧wU P N J c cs w
def Gn (J:me) (ρ:j7):Prop:=J.ρ.le ρ∧∀b p,ρ b=some p→J.ρ b=some p∨(p.part=none∧Scope.base≤p.block)
theorem Gn.refl(J:me):Gn J J.ρ:=⟨j7.le_refl _,fun _ _ h=>.inl h⟩
theorem Gn.grow{J:me}{ρ ρ':j7}{w:World}(h:Gn J ρ)(e:Scope.base≤w.heap.size)(g:Grow ρ w ρ'):Gn J ρ' :=
 ⟨j7.le_trans h.1 g.le,fun b p hb=>by
  rcases g.new b p hb with k|⟨k,k2⟩
  ·exact h.2 b p k
  ·exact .inr ⟨k,by omega⟩⟩
def Done (J:me) (ρ:j7) (v':Value) (w:World):Prop:=J.ok v'∧Gn J ρ∧∃v wE,HR ρ wE w∧VR ρ v v'∧J.R v wE
def Ac (J:me) (T:Tape):Machine:=lone (Frame.enter P J.f J.args .normal) [cap P] { J.wS with tape:=T,drawn:=0 }
variable (pk:Machine→Nat×Nat×Option (Nat×Nat)) (m0:Machine) (t0:Trace) (Gt:Nat→Tape) (J:Nat→me)
inductive WSit (i n:Nat):WD→Goroutine→World→Prop
 |pre {m:Nat} {g:Goroutine} {w:World}:Goes P false (RK N.ty N.Wg (J i).S) (DQ (J i).S) (yk P N (J i)) m g w→HR (J i).ρ (J i).wS w→WSit i n ⟨10,m,0,(J i).ρ,undef⟩ g w
 |si {k K d0 D:Nat} {T:Tape} {ρ:j7} {c:Frame} {cs:List Frame} {gS g:Goroutine} {wS w wE:World} {oC:Frame} {v:Value} :
   T=(fun x q=>Gt i (d0+x) q)→d0+D=kI (kK P pk (N.B+i) m0 t0) n→vB P (Ac P (J i) T) K oC wE→oC.leaving P wE (.returned v)→(J i).R v wE →
   nP P (Ac P (J i) T) K T ρ (c::cs) k D gS wS g w→wU P N (J i) c cs w→Gn (J i) ρ→WSit i n ⟨9,K-k,0,ρ,undef⟩ g w
 |post {m:Nat} {ρ:j7} {v':Value} {g:Goroutine} {w:World}:Goes P false (RK N.ty N.Wg (J i).S) (DQ (J i).S) (AtSend P N (J i).S ((J i).msg v')) m g w→Done (J i) ρ v' w→WSit i n ⟨8,m,0,ρ,v'⟩ g w
 |r0 {m:Nat} {ρ:j7} {v':Value} {g:Goroutine} {w:World}:Goes P false (RK N.ty N.Wg (J i).S) (DQ (J i).S) (vH P false (RK N.ty N.Wg (J i).S) N.ty N.Wg) m g w→Done (J i) ρ v' w→WSit i n ⟨7,m,0,ρ,v'⟩ g w
 |k1 {m:Nat} {ρ:j7} {v':Value} {g:Goroutine} {w:World}:Goes P false (RK N.ty N.Wg (J i).S) DC0 (C7 P false (RK N.ty N.Wg (J i).S) N.ty N.Wg) m g w→Done (J i) ρ v' w→WSit i n ⟨6,m,0,ρ,v'⟩ g w
 |d1 {m:Nat} {ρ:j7} {v':Value} {g:Goroutine} {w:World}:Goes P false (RK N.ty N.Wg (J i).S) DC0 (C6 P false (RK N.ty N.Wg (J i).S) N.ty N.Wg) m g w→Done (J i) ρ v' w→WSit i n ⟨5,m,1,ρ,v'⟩ g w
 |d2 {m:Nat} {ρ:j7} {v':Value} {g:Goroutine} {w:World}:Goes P false (RK N.ty N.Wg (J i).S) DC0 (C5 P false (RK N.ty N.Wg (J i).S) N.ty N.Wg) m g w→Done (J i) ρ v' w→WSit i n ⟨4,m,1,ρ,v'⟩ g w
 |d3 {m:Nat} {ρ:j7} {v':Value} {g:Goroutine} {w:World}:Goes P false (RK N.ty N.Wg (J i).S) DC0 (C4 P false (RK N.ty N.Wg (J i).S) N.ty N.Wg) m g w→Done (J i) ρ v' w→WSit i n ⟨3,m,1,ρ,v'⟩ g w
 |d4 {m:Nat} {ρ:j7} {v':Value} {g:Goroutine} {w:World}:Goes P false (RK N.ty N.Wg (J i).S) DC0 (C0 P false N.ty N.Wg) m g w→Done (J i) ρ v' w→WSit i n ⟨2,m,1,ρ,v'⟩ g w
 |quit {q d:Nat} {ρ:j7} {v':Value} {g:Goroutine} {w:World}:QuitsD P q d g→Done (J i) ρ v' w→WSit i n ⟨1,q,d,ρ,v'⟩ g w
end
section
variable {P:Program} {N:nj} {pk:Machine→Nat×Nat×Option (Nat×Nat)} {m0:Machine} {t0:Trace} {Gt:Nat→Tape} {J:Nat→me} {i n:Nat} {d:WD} {g:Goroutine} {w w₁:World}
theorem Done.leaves(e:Scope.sync=false){J:me}{ρ:j7}{v':Value}(h:Done J ρ v' w)(y:Leaves ρ w w₁)(r:w₁.os=w.os):Done J ρ v' w₁:=by
 obtain⟨z,A,v,wE,C,E,G⟩:=h;exact⟨z,A,v,wE,HR.leaves e C y r,E,G⟩
theorem wU.rely{J:me}{c:Frame}{cs:List Frame}(h:wU P N J c cs w)(hr:RK N.ty N.Wg J.S w w₁):wU P N J c cs w₁:=fun v' e=>by
 obtain⟨m,hm⟩:=h v' e;exact⟨m,ga RK.trans hm hr⟩
theorem WSit.rely(e:Scope.sync=false){n':Nat}(C:kI (kK P pk (N.B+i) m0 t0) n'=kI (kK P pk (N.B+i) m0 t0) n)(h:WSit P N pk m0 t0 Gt J i n d g w)(hr:RK N.ty N.Wg (J i).S w w₁)(A:Leaves d.ρ w w₁)(r:w₁.os=w.os):WSit P N pk m0 t0 Gt J i n' d g w₁:=by
 cases h with
 |pre y z=>exact .pre (ga RK.trans y hr) (HR.leaves e z A r)
 |si y z E G H I K M=>exact .si y (z.trans C.symm) E G H (nP.leaves e I A r) (K.rely hr) M
 |post y z=>exact .post (ga RK.trans y hr) (z.leaves e A r)
 |r0 y z=>exact .r0 (ga RK.trans y hr) (z.leaves e A r)
 |k1 y z=>exact .k1 (ga RK.trans y hr) (z.leaves e A r)
 |d1 y z=>exact .d1 (ga RK.trans y hr) (z.leaves e A r)
 |d2 y z=>exact .d2 (ga RK.trans y hr) (z.leaves e A r)
 |d3 y z=>exact .d3 (ga RK.trans y hr) (z.leaves e A r)
 |d4 y z=>exact .d4 (ga RK.trans y hr) (z.leaves e A r)
 |quit y z=>exact .quit y (z.leaves e A r)
theorem WSit.status(h:WSit P N pk m0 t0 Gt J i n d g w):g.status=.running∨g.status=.finished:=by
 cases h with
 |pre e _=>exact .inl (gb (fun _ _ x=>x.1) w (RK.refl w) e)
 |si _ _ _ _ _ r _ _=>exact .inl r.gr.status.2
 |post e _=>exact .inl (gb (fun _ _ x=>x.1) w (RK.refl w) e)
 |r0 e _=>exact .inl (gb (fun _ _ x=>x.1) w (RK.refl w) e)
 |k1 e _=>exact .inl (gb (fun _ _ x=>x.1) w (RK.refl w) e)
 |d1 e _=>exact .inl (gb (fun _ _ x=>x.1) w (RK.refl w) e)
 |d2 e _=>exact .inl (gb (fun _ _ x=>x.1) w (RK.refl w) e)
 |d3 e _=>exact .inl (gb (fun _ _ x=>x.1) w (RK.refl w) e)
 |d4 e _=>exact .inl (gb (fun _ _ x=>x.1) w (RK.refl w) e)
 |quit e _=>exact e.status
theorem WSit.runs(h:WSit P N pk m0 t0 Gt J i n d g w)(hd:d.stage≠1):g.status=.running:=by
 cases h with
 |pre e _=>exact gb (fun _ _ x=>x.1) w (RK.refl w) e
 |si _ _ _ _ _ r _ _=>exact r.gr.status.2
 |post e _=>exact gb (fun _ _ x=>x.1) w (RK.refl w) e
 |r0 e _=>exact gb (fun _ _ x=>x.1) w (RK.refl w) e
 |k1 e _=>exact gb (fun _ _ x=>x.1) w (RK.refl w) e
 |d1 e _=>exact gb (fun _ _ x=>x.1) w (RK.refl w) e
 |d2 e _=>exact gb (fun _ _ x=>x.1) w (RK.refl w) e
 |d3 e _=>exact gb (fun _ _ x=>x.1) w (RK.refl w) e
 |d4 e _=>exact gb (fun _ _ x=>x.1) w (RK.refl w) e
 |quit _ _=>exact absurd rfl hd
theorem WSit.woken(h:WSit P N pk m0 t0 Gt J i n d g w)(a a':Goroutine)(w':World):woken P a a' w' g=g:=by
 unfold Go.Conc.woken;split
 ·exact again_running _ h.status
 ·rfl
theorem WSit.JM(h:WSit P N pk m0 t0 Gt J i n d g w):6≤d.stage→d.deaf=0:=by cases h<;>simp
theorem WSit.done(h:WSit P N pk m0 t0 Gt J i n d g w):d.stage≤8→Done (J i) d.ρ d.v w:=by cases h<;>simp<;>assumption
end
inductive Tg where
 |sp|kd|anch|w1|w2 (vs:Nat)|wr|w3|blk|w4|ke|acq|cl|qt
def phi (n v:Nat):Tg→Nat
 | .sp=>0
 | .kd=>8*n+7
 | .anch=>8*v+6
 | .w1=>8*v+5
 | .w2 vs=>8*vs+4
 | .wr=>11
 | .w3=>10
 | .blk=>10
 | .w4=>9
 | .ke=>4
 | .acq=>3
 | .cl=>2
 | .qt=>1
section
variable (P:Program) (N:nj) (Sc:Nat→Prop) (mw:Goroutine→World→Prop)
def AtClose (g:Goroutine) (w:World):Prop :=
 g.status=.running∧mayWake P g=true∧(w.heap[N.CF]?=some (.chan 0 #[] false 0 0 false)→∃g',stepG P false g w=.go g' (w.setChan N.CF 0 #[] true 0 0 false) #[⟨.obj N.CF,false,true⟩,⟨.obj N.CF,true,true⟩]∧∃q,QuitsD P q 0 g')
def Nx (m:Nat) (g:Goroutine) (w:World):Prop:=Goes P false (RK N.ty N.Wg Sc) (DQ Sc) (AtClose P N) m g w
inductive CSit (mC:Nat):Tg→Nat→Nat→Goroutine→World→Prop
 |kd {m:Nat} {g:Goroutine} {w:World}:Goes P false (RK N.ty N.Wg Sc) (DQ Sc) (oT P false (RK N.ty N.Wg Sc) (mk .disable) mw) m g w→CSit mC .kd m 0 g w
 |anch {m:Nat} {g:Goroutine} {w:World}:Goes P false (RK N.ty N.Wg Sc) DC0 mw m g w→CSit mC .anch m 1 g w
 |w1 {m:Nat} {g:Goroutine} {w:World}:Goes P false (RK N.ty N.Wg Sc) DC0 (wT P false (RK N.ty N.Wg Sc) N.ty N.Wg mw (Nx P N Sc mC)) m g w→CSit mC .w1 m 1 g w
 |w2 {vs m:Nat} {g:Goroutine} {w:World}:Goes P false (RK N.ty N.Wg Sc) DC0 (CZ P false (RK N.ty N.Wg Sc) N.ty N.Wg mw (Nx P N Sc mC) vs) m g w→CSit mC (.w2 vs) m 1 g w
 |wr {m:Nat} {g:Goroutine} {w:World}:Goes P false (RK N.ty N.Wg Sc) DC0 (CY P false (RK N.ty N.Wg Sc) N.ty N.Wg (Nx P N Sc mC)) m g w→CSit mC .wr m 1 g w
 |w3 {m:Nat} {g:Goroutine} {w:World}:Goes P false (RK N.ty N.Wg Sc) DC0 (Ab P false (RK N.ty N.Wg Sc) N.ty N.Wg (Nx P N Sc mC)) m g w→CSit mC .w3 (m+1) 1 g w
 |blk {g:Goroutine} {w:World}:(∀w₁,(RK N.ty N.Wg Sc) w w₁→Ab P false (RK N.ty N.Wg Sc) N.ty N.Wg (Nx P N Sc mC) g w₁)→CSit mC .blk 0 1 { g with status:=.blocked } w
 |w4 {m:Nat} {g:Goroutine} {w:World}:Goes P false (RK N.ty N.Wg Sc) DC0 (CX P false (RK N.ty N.Wg Sc) N.ty N.Wg (Nx P N Sc mC)) m g w→CSit mC .w4 m 1 g w
 |ke {m:Nat} {g:Goroutine} {w:World}:Goes P false (RK N.ty N.Wg Sc) DC0 (Aa P false (RK N.ty N.Wg Sc) N.Wg (Nx P N Sc mC)) m g w→CSit mC .ke m 1 g w
 |acq {m:Nat} {g:Goroutine} {w:World}:Goes P false (RK N.ty N.Wg Sc) DC0 (oT P false (RK N.ty N.Wg Sc) (mk (.acquire (stA N.Wg))) (Nx P N Sc mC)) m g w→CSit mC .acq m 0 g w
 |cl {m:Nat} {g:Goroutine} {w:World}:Goes P false (RK N.ty N.Wg Sc) (DQ Sc) (AtClose P N) m g w→CSit mC .cl m 0 g w
 |qt {q d:Nat} {g:Goroutine} {w:World}:QuitsD P q d g→CSit mC .qt q d g w
end
section
variable {P:Program} {N:nj} {Sc:Nat→Prop} {mw:Goroutine→World→Prop} {mC:Nat} {tag:Tg} {f d:Nat} {a:Goroutine} {w w':World}
theorem CSit.rely(h:CSit P N Sc mw mC tag f d a w)(hr:RK N.ty N.Wg Sc w w'):CSit P N Sc mw mC tag f d a w':=by
 have tr:=@RK.trans N.ty N.Wg Sc
 cases h with
 |kd h=>exact .kd (ga tr h hr)
 |anch h=>exact .anch (ga tr h hr)
 |w1 h=>exact .w1 (ga tr h hr)
 |w2 h=>exact .w2 (ga tr h hr)
 |wr h=>exact .wr (ga tr h hr)
 |w3 h=>exact .w3 (ga tr h hr)
 |blk h=>exact .blk (fun e r=>h e (tr _ _ _ hr r))
 |w4 h=>exact .w4 (ga tr h hr)
 |ke h=>exact .ke (ga tr h hr)
 |acq h=>exact .acq (ga tr h hr)
 |cl h=>exact .cl (ga tr h hr)
 |qt h=>exact .qt h
theorem CSit.status(r:∀g w,mw g w→g.status=.running)(h:CSit P N Sc mw mC tag f d a w):(a.status=.running∧tag≠.blk)∨(a.status=.blocked∧tag=.blk)∨(a.status=.finished∧tag=.qt):=by
 cases h with
 |kd h=>exact .inl ⟨gb (fun _ _ x=>x.1) w (.refl w) h,by simp⟩
 |anch h=>exact .inl ⟨gb r w (.refl w) h,by simp⟩
 |w1 h=>exact .inl ⟨gb (fun _ _ x=>x.1) w (.refl w) h,by simp⟩
 |w2 h=>exact .inl ⟨gb (fun _ _ x=>x.1) w (.refl w) h,by simp⟩
 |wr h=>exact .inl ⟨gb (fun _ _ x=>x.1) w (.refl w) h,by simp⟩
 |w3 h=>exact .inl ⟨gb (fun _ _ x=>x.1) w (.refl w) h,by simp⟩
 |blk h=>exact .inr (.inl ⟨rfl,rfl⟩)
 |w4 h=>exact .inl ⟨gb (fun _ _ x=>x.1) w (.refl w) h,by simp⟩
 |ke h=>exact .inl ⟨gb (fun _ _ x=>x.1) w (.refl w) h,by simp⟩
 |acq h=>exact .inl ⟨gb (fun _ _ x=>x.1) w (.refl w) h,by simp⟩
 |cl h=>exact .inl ⟨gb (fun _ _ x=>x.1) w (.refl w) h,by simp⟩
 |qt h=>exact h.status.elim (fun e=>.inl ⟨e,by simp⟩) fun e=>.inr (.inr ⟨e,rfl⟩)
theorem CSit.wokenBy(e:∀g w,mw g w→g.status=.running)(h:CSit P N Sc mw mC tag f d a w)(hr:RK N.ty N.Wg Sc w w')(g g':Goroutine):∃tag' z,CSit P N Sc mw mC tag' z d (woken P g g' w' a) w'∧z≤f+1∧(tag'=tag∨(tag=.blk∧tag'=.w3))∧(mayWake P g=true→g'.status=.running→tag'≠.blk):=by
 have h':=h.rely hr;unfold Go.Conc.woken;split
 ·rcases h'.status e with⟨r,y⟩|⟨_,rfl⟩|⟨r,rfl⟩
  ·exact⟨tag,f,by rw[again_running _ (.inl r)];exact h',by omega,.inl rfl,fun _ _=>y⟩
  ·cases h' with
   |blk hb =>
    rename_i g0;have A:=hb w' (.refl w');exact⟨.w3,0+1,by rw[Go.ConcR.again_blocked A.1 A.2.1];exact .w3 (fQ hb),by omega,.inr ⟨rfl,rfl⟩,fun _ _=>by simp⟩
  ·exact⟨.qt,f,by rw[again_running _ (.inr r)];exact h',by omega,.inl rfl,fun _ _=>by simp⟩
 ·rename_i C;exact⟨tag,f,h',by omega,.inl rfl,fun E G=>absurd (by simp[E,G]) C⟩
end
def cnt (d:WD):Nat:=if 5≤d.stage then 1 else 0
def Vc (j:Nat) (D:Nat→WD):Nat:=sumTo j fun i=>cnt (D i)
def Ssum (j:Nat) (D:Nat→WD):Nat:=sumTo j fun i=>(D i).stage
def Fsum (j:Nat) (D:Nat→WD):Nat:=sumTo j fun i=>(D i).fuel
def isOpen:Tg→Prop
 | .sp | .kd | .anch | .w1 | .w2 _=>True
 |_=>False
def isW3:Tg→Prop
 | .wr | .w3 | .blk=>True
 |_=>False
def isFin:Tg→Prop
 | .w4 | .ke | .acq | .cl | .qt=>True
 |_=>False
def OpenSt (j:Nat) (D:Nat→WD):Prop:=∀i,i<j→5≤(D i).stage∨(D i).stage=1
def AllQuit (j:Nat) (D:Nat→WD):Prop:=∀i,i<j→(D i).stage=1
inductive Mode (j p:Nat) (D:Nat→WD):Tg→Int→Int→Prop
 |opn {tag:Tg}:isOpen tag→OpenSt j D→(∀vs,tag=.w2 vs→Vc j D≤vs∧1≤vs)→Mode j p D tag (((Vc j D+p:Nat):Int)*KK) 0
 |reg {tag:Tg}:isW3 tag→p=0→OpenSt j D→1≤Vc j D→Mode j p D tag (((Vc j D:Nat):Int)*KK+1) 0
 |last {tag:Tg} (L:Nat):isW3 tag→p=0→L<j→((D L).stage=4∨(D L).stage=3∨(D L).stage=2)→(∀i,i<j→i≠L→(D i).stage=1)→Mode j p D tag (if(D L).stage=2 then 0 else 1) 0
 |sema {tag:Tg}:(tag=.w3∨tag=.wr)→p=0→AllQuit j D→Mode j p D tag 0 1
 |fin {tag:Tg}:isFin tag→p=0→AllQuit j D→Mode j p D tag 0 0
theorem phi_mono(n:Nat){v v':Nat}(h:v'≤v)(tag:Tg):phi n v' tag≤phi n v tag:=by
 cases tag<;>simp only[phi]<;>omega
variable {tag tag':Tg}
theorem phi_retag(n v:Nat)(e:tag'=tag∨(tag=.blk∧tag'=.w3)):phi n v tag'=phi n v tag:=by
 rcases e with rfl|⟨rfl,rfl⟩<;>rfl
variable {j p:Nat} {D:Nat→WD} {st sm:Int}
theorem Mode.retag(h:Mode j p D tag st sm)(e:tag'=tag∨(tag=.blk∧tag'=.w3)):Mode j p D tag' st sm:=by
 rcases e with rfl|⟨rfl,rfl⟩
 ·exact h
 ·cases h with
  |opn r _ _=>exact r.elim
  |reg _ y z A=>exact .reg trivial y z A
  |last L _ y z A C=>exact .last L trivial y z A C
  |sema h _ _=>rcases h with h|h<;>cases h
  |fin r _=>exact r.elim
variable {i:Nat}
theorem Vc_upd(D:Nat→WD)(x:WD)(e:i<j):Vc j (upd D i x)+cnt (D i)=Vc j D+cnt x:=fh D x cnt e
theorem Vc_le(j:Nat)(D:Nat→WD):Vc j D≤j:=by
 have:=sumTo_le (f:=fun i=>cnt (D i)) (c:=1) (j:=j) fun i _=>by simp only[cnt];split<;>omega
 simpa[Vc]using this
theorem JN(h:Vc j D=0)(r:OpenSt j D):AllQuit j D:=by
 intro i e;have:=le_sumTo (f:=fun i=>cnt (D i)) e;rw[show sumTo j (fun i=>cnt (D i))=Vc j D from rfl,h]at this;rcases r i e with y|z
 ·simp only[cnt,y,dn]at this;omega
 ·exact z
theorem JO(h:AllQuit j D):Vc j D=0:=by
 have:Vc j D=sumTo j fun _=>0:=sumTo_congr fun i e=>by simp[cnt,h i e]
 rw[this];have:=sumTo_le (f:=fun _=>0) (c:=0) (j:=j) fun _ _=>dD _
 omega
theorem Mode.congr{D':Nat→WD}(h:∀a,a<j→(D' a).stage=(D a).stage)(hm:Mode j p D tag st sm):Mode j p D' tag st sm:=by
 have E:Vc j D'=Vc j D:=sumTo_congr fun a r=>by simp only[cnt,h a r]
 cases hm with
 |opn z y C=>rw[←E];exact .opn z (fun a r=>by rw[h a r];exact y a r) (fun vs e=>by rw[E];exact C vs e)
 |reg z A y C=>rw[←E];exact .reg z A (fun a r=>by rw[h a r];exact y a r) (by rw[E];exact C)
 |last L z A y C G=>rw[←h L y];exact .last L z A y (by rw[h L y];exact C) (fun a r e=>by rw[h a r];exact G a r e)
 |sema z A y=>exact .sema z A fun a r=>by rw[h a r];exact y a r
 |fin z A y=>exact .fin z A fun a r=>by rw[h a r];exact y a r
theorem Mode.counted(hm:Mode j p D tag st sm)(y:i<j)(I:5≤(D i).stage){x:WD}(E:5≤x.stage):Mode j p (upd D i x) tag st sm:=by
 have z:Vc j (upd D i x)=Vc j D:=by
  have:=Vc_upd D x y;have c1:cnt (D i)=1:=by simp[cnt,I]
  have c2:cnt x=1:=by simp[cnt,E]
  omega
 have G:OpenSt j D→OpenSt j (upd D i x):=fun h a K=>by
  by_cases e:a=i
  ·subst e;rw[fl];exact .inl E
  ·rw[fp D _ e];exact h a K
 cases hm with
 |opn A r C=>rw[←z];exact .opn A (G r) (fun vs e=>by rw[z];exact C vs e)
 |reg A H r C=>rw[←z];exact .reg A H (G r) (by rw[z];exact C)
 |last L A H r C M =>
  by_cases e:i=L
  ·subst e;omega
  ·have:=M i y e;omega
 |sema _ _ r=>have:=r i y;omega
 |fin _ _ r=>have:=r i y;omega
theorem Mode.isLast(hm:Mode j p D tag st sm)(y:i<j)(h:(D i).stage=4∨(D i).stage=3∨(D i).stage=2):isW3 tag∧p=0∧(∀a,a<j→a≠i→(D a).stage=1)∧st=(if(D i).stage=2 then 0 else 1)∧sm=0:=by
 cases hm with
 |opn _ r _=>have:=r i y;omega
 |reg _ _ r _=>have:=r i y;omega
 |last L A C r E z =>
  by_cases e:i=L
  ·subst e;exact⟨A,C,z,rfl,rfl⟩
  ·have:=z i y e;omega
 |sema _ _ r=>have:=r i y;omega
 |fin _ _ r=>have:=r i y;omega
theorem others_uncounted(h:i<j)(r:Vc j D=1)(A:cnt (D i)=1):∀a,a<j→a≠i→cnt (D a)=0:=by
 intro a y e;have z:=Vc_upd D (⟨0,0,0,fun _=>none,undef⟩:WD) h;have c0:cnt (⟨0,0,0,fun _=>none,undef⟩:WD)=0:=rfl;have:=le_sumTo (f:=fun x=>cnt (upd D i ⟨0,0,0,fun _=>none,undef⟩ x)) y;simp only[fp D _ e]at this;simp only[Vc]at z r;omega
end
section
open Go.Conc Go.ConcN
variable {P:Program} {main:Bool} {b:Frame} {a:Act} {k:List Item} {cs:List Frame} {w:World}
def nk (f:FuncId) (caps:Array Value):Value:=.func (.func f) #[] caps
def pf (f:FuncId) (caps:Array Value):Deferred:={ target:=.fn (.func f) caps,args:=#[] }
noncomputable def qW (P:Program):Frame:={ (default:Frame)with fn:=P.funcs.size,defers:=[],mode:=.panicking [goexitEntry] }
variable {ops:Array Oper} {i:Nat} {rest:List Nat} {o:Oper} {f:FuncId} {caps:Array Value} {x:Operand}
theorem JP(y:ops[i]?=some o)(hw:Region.wanted o (yielded ops a.tmps)=true)(A:b.kind≠.early)(e:o.op=.defer { callee:=.value x,args:=#[],argTypes:=#[] })(z:a.eval x=nk f caps):stepG P main (G (b.at a (.inRegion ops (i::rest)::k)) cs) w=.go (G (b.at (Act.put ⟨a.tmps,pf f caps::a.defers⟩ o.dst undef) (.inRegion ops rest::k)) cs) w #[]:=by
 have hr:(execOp a.eval o).run P w=.ok (.defer (pf f caps)) w:=by
  unfold execOp;simp[e,resolve,Deferred.ofValue,z,pf,nk]
 have he:(execOp a.eval o).events P w #[]=#[]:=by
  unfold execOp;simp[e,resolve,Deferred.ofValue,z,nk]
 have h:(b.at ⟨a.tmps,pf f caps::a.defers⟩ (.inRegion ops (i::rest)::k)).finish undef=b.at (Act.put ⟨a.tmps,pf f caps::a.defers⟩ o.dst undef) (.inRegion ops rest::k):=by rw[ft,y];rfl
 have r:(b.kind == CallKind.early)=false:=by simpa using A
 rw[stepG_oper y hw,←h];simp[stepG.apply,hr,he,G,Frame.at,r,GStep.after,gd]
variable {todo:List Item} {fn:Func} {c:Code}
theorem JQ{ds:List Deferred}(hd:a.defers=pf f caps::ds)(h:P.funcs[f]?=some fn)(e:(fn.name == "runtime.NumGoroutine")=false)(hb:fn.body=some c):stepG P main (G { b.at a todo with mode:=.returning } cs) w =
   .go (G ((baseD f).at { tmps:=caps++Array.replicate (fn.ntmps-caps.size) undef,defers:=[] } [.code c]) ({ b.at ⟨a.tmps,ds⟩ todo with mode:=.returning }::cs)) w #[]:=by
 have r:¬fn.name = "runtime.NumGoroutine":=by simpa using e
 rw[←enter_atD caps h hb];simp[G,stepG,unwind,callDeferred,Frame.at,hd,pf,invoke,callFunc,h,r,hb,GStep.after,gd]
theorem JS{K:Goroutine→World→Array Event→Prop}(C:ops[i]?=some o)(hw:Region.wanted o (yielded ops a.tmps)=true)(E:b.kind≠.early)(r:o.op=.call { callee:=.value x,args:=#[],argTypes:=#[] })(z:a.eval x=nk f caps)(y:P.funcs[f]?=some fn)(e:(fn.name == "runtime.NumGoroutine")=false)(hb:fn.body=some c)(h:K (G ((base f).at { tmps:=caps++Array.replicate (fn.ntmps-caps.size) undef,defers:=[] } [.code c]) (b.at a (.inRegion ops (i::rest)::k)::cs)) w #[]):(stepG P main (G (b.at a (.inRegion ops (i::rest)::k)) cs) w).goes K:=by
 have A:¬fn.name = "runtime.NumGoroutine":=by simpa using e
 have hr:(execOp a.eval o).run P w=.ok (.enter f caps) w:=by
  unfold execOp;simp[r,resolve,Deferred.ofValue,z,nk,invoke,callFunc,y,A,hb]
 have he:(execOp a.eval o).events P w #[]=#[]:=by
  unfold execOp;simp[r,resolve,Deferred.ofValue,z,nk,invoke,callFunc,y,A,hb]
 rw[stepG_enter C hw E hr,enter_at _ y hb];have:listed P b.fn a o w=#[]:=by unfold listed;rw[he];exact gd P _
 rw[this];exact h
theorem C9(h:P.funcs[f]?=some fn)(e:(fn.name == "runtime.NumGoroutine")=false)(hb:fn.body=some c):stepG P false (born P (pf f caps)) w=.go (G ((baseD f).at ⟨caps++Array.replicate (fn.ntmps-caps.size) undef,[]⟩ [.code c]) [qW P]) w #[]:=by
 have r:¬fn.name = "runtime.NumGoroutine":=by simpa using e
 rw[←enter_atD caps h hb];simp[born,pf,stepG,unwind,callDeferred,invoke,callFunc,h,r,hb,gd,GStep.after,G,qW]
theorem Da{T:Array Value}(e:P.funcs[f]?=some fn)(hr:fn.results=#[]):QuitsD P 2 0 (G { (baseD f).at ⟨T,[]⟩ todo with mode:=.returning } [qW P]):=by
 refine QuitsD.ctl (g':=G (qW P) []) rfl (fun w=>?_) ?_
 ·simp[G,stepG,unwind,doReturn,results,Frame.at,baseD,e,hr,gd,GStep.after,goexitEntry,qW]
 refine QuitsD.ctl (g':={ G (qW P) []with status:=.finished }) rfl (fun w=>?_) ⟨rfl,rfl⟩;simp[G,stepG,unwind,qW,goexitEntry,Frame.catches]
 try rfl
theorem JU{c:Frame}(e:a.defers=[])(h:P.funcs[f]?=some fn)(hr:fn.results=#[])(r:c.mode=.returning):stepG P main (G { (baseD f).at a todo with mode:=.returning } (c::cs)) w=.go (G c cs) w #[]:=by
 simp[G,stepG,unwind,doReturn,results,Frame.at,e,h,hr,r,gd,GStep.after,baseD]
theorem JV{c:Frame}(r:ops[i]?=some o)(hw:Region.wanted o (yielded ops a.tmps)=true)(e:o.op=.call { callee:=.builtin .recover,args:=#[],argTypes:=#[] })(y:c.mode=.returning):stepG P main (G ((baseD f).at a (.inRegion ops (i::rest)::k)) (c::cs)) w=.go (G ((baseD f).at (a.put o.dst .nilIface) (.inRegion ops rest::k)) (c::cs)) w #[]:=by
 have hr:(execOp a.eval o).run P w=.ok .recover w:=by
  unfold execOp;simp[e,resolve,invoke,builtin]
 have he:(execOp a.eval o).events P w #[]=#[]:=by
  unfold execOp;simp[e,resolve,invoke,builtin]
 have h:((baseD f).at a (.inRegion ops (i::rest)::k)).finish .nilIface=(baseD f).at (a.put o.dst .nilIface) (.inRegion ops rest::k):=by rw[ft,r];rfl
 rw[stepG_oper r hw,←h];simp[stepG.apply,hr,he,G,Frame.at,GStep.after,gd,baseD,tryRecover,y]
end
section
open Go.Conc
structure mQ (ops:Array Oper) (val:Nat→Value) (fix:List (Nat×Value)) (T:Nat) (listed:Array Bool) (a:Act):Prop where
 defers:a.defers=[]
 size:a.tmps.size=T
 fix:∀x∈fix,a.tmps[x.1]?=some x.2
 val:∀(i:Nat) o (d:Nat),ops[i]?=some o→listed.getD i false=true→o.dst=some d→a.tmps[d]?=some (val i)
 kR:listed.size=ops.size
 qC:∀(i:Nat) o,ops[i]?=some o→listed.getD i false=true→∀e∈o.after,Region.binds .any e=true→listed.getD e.on false=true
def lh (ops:Array Oper) (nf:List Nat) (T:Nat):Bool :=
 (List.range ops.size).all fun i=>match ops[i]? with
  |some o=>(match o.dst with
   |some d=>(!nf.contains d)&&decide (d<T)&&(List.range ops.size).all fun j=>decide (i=j) || decide (((ops[j]?).bind (·.dst))≠some d)
   |none=>true)&&o.after.all (fun e=>decide (e.on<i))&&o.guard.isNone
  |none=>true
variable {ops:Array Oper} {nf:List Nat} {T i:Nat}
theorem tM(h:lh ops nf T=true){o:Oper}(A:ops[i]?=some o):(∀d,o.dst=some d→d ∉ nf∧d<T∧∀(j:Nat) o',ops[j]?=some o'→o'.dst=some d→j=i)∧(∀e∈o.after,e.on<i)∧o.guard=none:=by
 have E:i<ops.size:=(dv.1 A).1;have:=eu.1 h i (gg.2 E);simp only[A,ep]at this;obtain⟨⟨r,G⟩,H⟩:=this;refine⟨fun d hd=>?_,fun e he=>by simpa using(dB.1 G e he),by simpa using H⟩;rw[hd]at r;simp only[ep,ej]at r;refine⟨by have:=r.1.1;simpa using this,r.1.2,fun j o' C y=>?_⟩;have z:j<ops.size:=(dv.1 C).1;have:=eu.1 r.2 j (gg.2 z);simp only[eh,ej,C,ed,y]at this;rcases this with e|e
 ·exact e.symm
 ·exact absurd rfl e
theorem mX(l:Array Bool)(i j:Nat)(e:i<l.size)(d:Bool):(l.setIfInBounds i true).getD j d=if j=i then true else l.getD j d:=by
 rw[dA,dA,dx]
 by_cases h:i=j
 ·subst h;simp[e]
 ·simp[h,dJ h]
theorem mQ.put{ops:Array Oper}{val r:Nat→Value}{fix:List (Nat×Value)}{T:Nat}(E:lh ops (fix.map (·.1)) T=true){listed:Array Bool}{a:Act}(h:mQ ops val fix T listed a){i:Nat}{o:Oper}(G:ops[i]?=some o){v:Value}(hr:i∈Region.ready .any ops listed)(U:r i=v)(H:∀j,listed.getD j false=true→r j=val j):mQ ops r fix T (listed.setIfInBounds i true) (a.put o.dst v):=by
 have Q:i<ops.size:=(dv.1 G).1;obtain⟨I,_,_⟩:=tM E G;have K:(a.put o.dst v).tmps=match o.dst with|some d=>a.tmps.setIfInBounds d v|none=>a.tmps:=by cases hd:o.dst<;>rfl
 have V:(a.put o.dst v).defers=a.defers:=by cases hd:o.dst<;>rfl
 refine⟨V.trans h.defers,?_,fun x M=>?_,fun j o' d z y hd=>?_,by simpa using h.kR,fun j o' z y e he hb=>?_⟩
 ·rw[K];cases o.dst<;>simp[h.size]
 ·rw[K]
  cases hd:o.dst with
  |none=>exact h.fix x M
  |some d =>
   have A:d≠x.1:=fun e=>(I d hd).1 (by rw[e];exact List.mem_map_of_mem M)
   simp only;rw[dO A];exact h.fix x M
 ·rw[mX _ _ _ (by rw[h.kR];exact Q)]at y;rw[K]
  by_cases e:j=i
  ·subst e;rw[G]at z;obtain rfl:=ff z;rw[hd];simp only;rw[fj (by rw[h.size];exact(I d hd).2.1),U]
  ·rw[dt e]at y;rw[H j y]
   cases O:o.dst with
   |none=>exact h.val j o' d z y hd
   |some d' =>
    simp only;have A:d'≠d:=fun C=>by
     subst C;exact e ((I d' O).2.2 j o' z hd)
    rw[dO A];exact h.val j o' d z y hd
 ·rw[mX _ _ _ (by rw[h.kR];exact Q)]at y ⊢;split
  ·rfl
  by_cases C:j=i
  ·subst C;obtain⟨_,W,k1,k2⟩:=gh.1 hr;rw[z]at k1;obtain rfl:=ff k1;exact k2 e he hb
  ·rw[dt C]at y;exact h.qC j o' z y e he hb
def mY (ops:Array Oper) (listed:Array Bool):Nat:=((List.range ops.size).filter fun i=>!listed.getD i false).length
variable {listed:Array Bool}
theorem uI(h:mY ops listed=0):∀i,i<ops.size→listed.getD i false=true:=by
 intro i e;have:=List.length_eq_zero_iff.1 h;rw[List.filter_eq_nil_iff]at this;have:=this i (gg.2 e);simpa using this
theorem rz(y:i<ops.size)(A:listed.size=ops.size)(z:listed.getD i false=false):mY ops (listed.setIfInBounds i true)<mY ops listed:=by
 unfold mY;have h:((List.range ops.size).filter fun j=>!(listed.setIfInBounds i true).getD j false)=((List.range ops.size).filter fun j=>!listed.getD j false).filter (fun j=>decide (j≠i)):=by
  rw[List.filter_filter];refine List.filter_congr fun j _=>?_
  rw[mX _ _ _ (by omega)]
  by_cases e:j=i<;>simp[e]
 rw[h];have r:i∈(List.range ops.size).filter fun j=>!listed.getD j false:=gi.2 ⟨gg.2 y,by simp[z]⟩
 refine Nat.lt_of_le_of_ne (gj _ _) fun e=>?_
 have:=gl.1 e i r;simp at this
theorem uJ(h:lh ops nf T=true)(E:listed.size=ops.size)(hr:Region.ready .any ops listed=[]):∀i,i<ops.size→listed.getD i false=true:=by
 intro i
 induction i using Nat.strongRecOn with
 |_ i A =>
  intro C;refine gn fun y=>?_
  have z:ops[i]?=some ops[i]:=dw C;have hm:i∈Region.ready .any ops listed:=gh.2 ⟨by
   have:listed[i]?=some listed[i]:=dw (by omega);rw[dA,this]at y ⊢;simpa using y,_,z,fun e he _=>by
   have r:=(tM h z).2.1 e he;exact A e.on r (by omega)⟩
  rw[hr]at hm
  cases hm
section
variable {P:Program} {mn:Bool} {R:World→World→Prop} {S:Nat→Prop} {ops:Array Oper} {val:Nat→Value} {fix:List (Nat×Value)} {T:Nat} {sp L0:Nat→Bool} {Sok:World→Prop} {b:Frame} {k:List Item} {cs:List Frame}
def Db (ops:Array Oper) (val:Nat→Value) (fix:List (Nat×Value)) (T:Nat) (sp L0:Nat→Bool) (Sok:World→Prop) (b:Frame) (k:List Item) (cs:List Frame) (g:Goroutine) (w:World):Prop :=
  Sok w∧∃ a listed,mQ ops val fix T listed a∧(∀ j,sp j=true→listed.getD j false=L0 j) ∧
    ((∃ i fuel t,sp i=true∧i∈Region.ready .any ops listed∧mY ops listed≤fuel+1∧g=G (b.at a (.inRegion ops (i::Region.linearise.go .any ops fuel t (listed.setIfInBounds i true) [])::k)) cs) ∨
     ((∀ i,i < ops.size→listed.getD i false=true)∧g=G (b.at a (.inRegion ops []::k)) cs))
theorem wV(trans:∀a b c,R a b→R b c→R a c)(r:∀w w₁,R w w₁→Sok w→Sok w₁)(A:lh ops (fix.map (·.1)) T=true)(hb:b.kind≠.early)(Q:∀(i:Nat) o (listed:Array Bool) (a:Act) (w:World),ops[i]?=some o→i∈Region.ready .any ops listed→sp i=false→mQ ops val fix T listed a→Sok w→(execOp a.eval o).run P w=.ok (.value (val i)) w∧∀e∈(execOp a.eval o).events P w #[],∃ad:Addr,e=⟨.cell ad,false,false⟩∧S ad.block):∀(fuel t:Nat)(listed:Array Bool)(a:Act)(w:World),mQ ops val fix T listed a→(∀j,sp j=true→listed.getD j false=L0 j)→Sok w→mY ops listed≤fuel →
   Goes P mn R (DQ S) (Db ops val fix T sp L0 Sok b k cs) fuel (G (b.at a (.inRegion ops (Region.linearise.go .any ops fuel t listed [])::k)) cs) w:=by
 intro fuel
 induction fuel with
 |zero =>
  intro t listed a w y H E hu;exact fun w₁ h=>⟨r _ _ h E,a,listed,y,H,.inr ⟨uI (by omega),by simp[Region.linearise.go]⟩⟩
 |succ fuel Y =>
  intro t listed a w y H E hu;simp only[Region.linearise.go];change Goes P mn R (DQ S) (Db ops val fix T sp L0 Sok b k cs) (fuel+1) (G (b.at a (.inRegion ops (match(Region.ready .any ops listed)[t % (Region.ready .any ops listed).length]? with
   |some i=>Region.linearise.go .any ops fuel (t / (Region.ready .any ops listed).length) (listed.setIfInBounds i true) [i]
   |none=>[].reverse)::k)) cs) w
  cases U:(Region.ready .any ops listed)[t % (Region.ready .any ops listed).length]? with
  |none =>
   have I:Region.ready .any ops listed=[]:=by
    cases hr:Region.ready .any ops listed with
    |nil=>rfl
    |cons x xs =>
     rw[hr]at U;have V:t % (x::xs).length<(x::xs).length:=gp _ (by simp);simp at U;simp at V;omega
   exact fQ fun w₁ h=>⟨r _ _ h E,a,listed,y,H,.inr ⟨uJ A y.kR I,rfl⟩⟩
  |some i =>
   simp only[];rw[linearise_go_acc,gq,gu];have z:i∈Region.ready .any ops listed:=gv U;obtain⟨K,o,M,_⟩:=gh.1 z;have C:i<ops.size:=(dv.1 M).1;have O:listed.getD i false=false:=by
    have hsz:i<listed.size:=by rw[y.kR];exact C
    rw[dA,dw hsz]at K ⊢;simpa using K
   cases kp:sp i with
   |true=>exact fQ fun w₁ h=>⟨r _ _ h E,a,listed,y,H,.inl ⟨i,fuel,_,kp,z,hu,rfl⟩⟩
   |false =>
    refine gx rfl fun w₁ h=>?_
    obtain⟨Z,e2⟩:=Q i o listed a w₁ M z kp y (r _ _ h E);have hg:=(tM A M).2.2;have hw:Region.wanted o (yielded ops a.tmps)=true:=by simp[Region.wanted,hg]
    rw[gy M hw hb Z];refine⟨⟨⟨w₁.drawn,rfl⟩,fun e he=>e2 e (gz he)⟩,?_⟩;refine Y _ _ _ _ (y.put A M z rfl fun _ _=>rfl) (fun j W=>?_) (r _ _ h E) ?_
    ·rw[mX _ _ _ (by rw[y.kR];exact C),dt (fun e=>by rw[e,kp]at W;cases W)];exact H j W
    have:=rz C y.kR O;omega
end
end
end Go.Proofs.YtjnkcibpkkjniaaGreat.kN
namespace Go.Proofs
abbrev Tryz.link:Go.Conc.Lib.WgLink:={ add:=75,done:=78,wait:=62,relMerge:=108,disable:=80,enable:=82,inBubble:=88,associate:=109,fatal:=110,uOr:=111,uAdd:=112,raceRead:=113,uLoad:=81,uStore:=114,disassociate:=86,semrelease:=115,acquire:=83,isAssociated:=84,uCas:=85,raceWrite:=87,semacquire:=89,orU64:=137,addU64:=138,loadU64:=120,storeU64:=139,casU64:=121,tWgP:=168,tUP:=175,tAssoc:=208,tWg:=151,tAU:=149,tU64:=147,tUint:=119,tU32:=22,tPU32:=179,tPAU:=218,tPU64:=220,tNoCopy:=144,tANoCopy:=145,tAlign64:=146 }
theorem Tryz.uK:Go.Conc.Lib.WgLib Tryz.prog Tryz.link :=
 ⟨Tryz.func75,Tryz.func78,Tryz.func62,Tryz.func108,Tryz.func80,Tryz.func82,Tryz.func88,Tryz.func109,Tryz.func110,Tryz.func111,Tryz.func112,Tryz.func113,Tryz.func81,Tryz.func114,Tryz.func86,Tryz.func115,Tryz.func83,Tryz.func84,Tryz.func85,Tryz.func87,Tryz.func89,Tryz.func137,Tryz.func138,Tryz.func120,Tryz.func139,Tryz.func121,Tryz.underlying168,Tryz.runUnderlying168,Tryz.sizeOf168,Tryz.isAgg168,Tryz.zeroValue168,Tryz.underlying175,Tryz.runUnderlying175,Tryz.sizeOf175,Tryz.isAgg175,Tryz.zeroValue175,Tryz.underlying208,Tryz.runUnderlying208,Tryz.sizeOf208,Tryz.isAgg208,Tryz.zeroValue208,Tryz.underlying151,Tryz.runUnderlying151,Tryz.sizeOf151,Tryz.isAgg151,Tryz.zeroValue151,Tryz.underlying149,Tryz.runUnderlying149,Tryz.sizeOf149,Tryz.isAgg149,Tryz.zeroValue149,Tryz.underlying147,Tryz.runUnderlying147,Tryz.sizeOf147,Tryz.isAgg147,Tryz.zeroValue147,Tryz.underlying119,Tryz.runUnderlying119,Tryz.sizeOf119,Tryz.isAgg119,Tryz.zeroValue119,Tryz.underlying22,Tryz.runUnderlying22,Tryz.sizeOf22,Tryz.isAgg22,Tryz.zeroValue22,Tryz.underlying179,Tryz.runUnderlying179,Tryz.sizeOf179,Tryz.isAgg179,Tryz.zeroValue179,Tryz.underlying218,Tryz.runUnderlying218,Tryz.sizeOf218,Tryz.isAgg218,Tryz.zeroValue218,Tryz.underlying220,Tryz.runUnderlying220,Tryz.sizeOf220,Tryz.isAgg220,Tryz.zeroValue220,Tryz.underlying0,Tryz.runUnderlying0,Tryz.sizeOf0,Tryz.isAgg0,Tryz.zeroValue0,Tryz.underlying3,Tryz.runUnderlying3,Tryz.sizeOf3,Tryz.isAgg3,Tryz.zeroValue3,Tryz.underlying4,Tryz.runUnderlying4,Tryz.sizeOf4,Tryz.isAgg4,Tryz.zeroValue4,Tryz.underlying9,Tryz.runUnderlying9,Tryz.sizeOf9,Tryz.isAgg9,Tryz.zeroValue9,Tryz.underlying20,Tryz.runUnderlying20,Tryz.sizeOf20,Tryz.isAgg20,Tryz.zeroValue20,Tryz.underlying21,Tryz.runUnderlying21,Tryz.sizeOf21,Tryz.isAgg21,Tryz.zeroValue21,(by kernel_rfl),(by kernel_rfl)⟩
end Go.Proofs
namespace Go.Proofs.YtjnkcibpkkjniaaGreat.kN
section
open Go.Conc Go.ConcN Go.Conc.Lib
open Go.ConcR (KK wgBlock WgAt stA smA rd wr mk DC0)
structure Wk where
 Wg:Nat
 CB:Nat
 bW:Nat
 bF:Nat
 bC:Nat
 bI:Nat
 bS:Nat
 bN:Nat
 i:Nat
 sp:Nat
 so:Nat
 id:Int
 xb:Nat
 xo:Nat
 xl:Nat
 xc:Nat
 nb:Nat
 no:Nat
 nl:Nat
 nc:Nat
 m:Value
def Wk.S (p:Wk) (b:Nat):Prop:=b=p.bW∨b=p.bF∨b=p.bC∨b=p.bI∨b=p.bS∨b=p.bN∨b=p.sp∨b=p.nb
def box (b:Nat):Value:=.pointer (some ⟨b,0,none⟩)
def Wk.fix (p:Wk):List (Nat×Value):=[(0,box p.bC),(1,box p.bI),(2,box p.bS),(3,box p.bN)]
def Wk.caps (p:Wk):Array Value:=#[box p.bC,box p.bI,box p.bS,box p.bN]
structure WF (p:Wk) (w:World):Prop where
 hW:w.cell? ⟨p.bW,0,none⟩=some (box p.Wg)
 hF:w.cell? ⟨p.bF,0,none⟩=some (nk 59 p.caps)
 hC:w.cell? ⟨p.bC,0,none⟩=some (.chan (some p.CB))
 hI:w.cell? ⟨p.bI,0,none⟩=some (.int .i64 p.i)
 hS:w.cell? ⟨p.bS,0,none⟩=some (.pointer (some ⟨p.sp,p.so,none⟩))
 hid:w.cell? ⟨p.sp,p.so,none⟩=some (.int .i64 p.id)
 hx:w.cell? ⟨p.sp,p.so+1,none⟩=some (.slice (some ⟨p.xb,p.xo,none⟩) p.xl p.xc)
 hN:w.cell? ⟨p.bN,0,none⟩=some (.slice (some ⟨p.nb,p.no,none⟩) p.nl p.nc)
 hm:w.cell? ⟨p.nb,p.no+p.i,none⟩=some p.m
 lx:p.i<p.xl
 ln:p.i<p.nl
 live:WgLive Tryz.link.tWg p.Wg w
variable {p:Wk} {w:World}
theorem WF.rely{w₁:World}(h:WF p w)(r:RK Tryz.link.tWg p.Wg p.S w w₁):WF p w₁ where
 hW:=(gA (r.keep _ (by simp[Wk.S])) 0).trans h.hW
 hF:=(gA (r.keep _ (by simp[Wk.S])) 0).trans h.hF
 hC:=(gA (r.keep _ (by simp[Wk.S])) 0).trans h.hC
 hI:=(gA (r.keep _ (by simp[Wk.S])) 0).trans h.hI
 hS:=(gA (r.keep _ (by simp[Wk.S])) 0).trans h.hS
 hid:=(gA (r.keep _ (by simp[Wk.S])) _).trans h.hid
 hx:=(gA (r.keep _ (by simp[Wk.S])) _).trans h.hx
 hN:=(gA (r.keep _ (by simp[Wk.S])) 0).trans h.hN
 hm:=(gA (r.keep _ (by simp[Wk.S])) _).trans h.hm
 lx:=h.lx
 ln:=h.ln
 live:=r.live h.live
noncomputable def kS:Array Oper:=match Tryz.f59.body with
 |some (.region _ ops _)=>ops
 |_=>#[]
def Wk.val (p:Wk) (ret:Value):Nat→Value
 |0=>.chan (some p.CB)
 |1|6|13=>.int .i64 p.i
 |2|3|8|9|10=>.pointer (some ⟨p.sp,p.so,none⟩)
 |4=>.pointer (some ⟨p.sp,p.so+1,none⟩)
 |5=>.slice (some ⟨p.xb,p.xo,none⟩) p.xl p.xc
 |7=>.pointer (some ⟨p.xb,p.xo+p.i*14,none⟩)
 |11=>.int .i64 p.id
 |12=>.slice (some ⟨p.nb,p.no,none⟩) p.nl p.nc
 |14=>.pointer (some ⟨p.nb,p.no+p.i,none⟩)
 |15=>p.m
 |16=>ret
 |17=>.agg (#[.int .i64 p.i]++ret.cells)
 |_=>undef
theorem wW:lh kS [0,1,2,3] 22=true:=by kernel_rfl
variable {ops:Array Oper} {listed:Array Bool} {a:Act} {i:Nat} {o:Oper}
theorem dep{val:Nat→Value}{fix:List (Nat×Value)}{T:Nat}(y:mQ ops val fix T listed a)(z:ops[i]?=some o)(hr:i∈Region.ready .any ops listed):∀e∈o.after,e.on<ops.size→Region.binds .any e=true→∀o' d,ops[e.on]?=some o'→o'.dst=some d→a.tmps[d]?=some (val e.on):=by
 intro e he A hb o' d h hd;obtain⟨_,E,r,C⟩:=gh.1 hr;rw[z]at r;obtain rfl:=ff r;exact y.val e.on o' d h (C e he hb) hd
theorem JW{ret:Value}(h:kS[i]?=some o)(hr:i∈Region.ready .any kS listed)(kp:(i == 16 || i == 18)=false)(y:i≠17)(r:mQ kS (p.val ret) p.fix 22 listed a)(hF:WF p w):(execOp a.eval o).run Tryz.prog w=.ok (.value (p.val ret i)) w∧∀e∈(execOp a.eval o).events Tryz.prog w #[],∃ad:Addr,e=⟨.cell ad,false,false⟩∧p.S ad.block:=by
 have hd:=dep r h hr;have z:i<19:=(dv.1 h).1;have f0:a.tmps[0]?=some (box p.bC):=r.fix (0,box p.bC) (by simp[Wk.fix]);have f1:a.tmps[1]?=some (box p.bI):=r.fix (1,box p.bI) (by simp[Wk.fix]);have f2:a.tmps[2]?=some (box p.bS):=r.fix (2,box p.bS) (by simp[Wk.fix]);have f3:a.tmps[3]?=some (box p.bN):=r.fix (3,box p.bN) (by simp[Wk.fix]);have hC:=hF.hC;have hI:=hF.hI;have hS:=hF.hS;have hid:=hF.hid;have hx:=hF.hx;have hN:=hF.hN;have hm:=hF.hm;have lx:=hF.lx;have ln:=hF.ln;clear hr;obtain rfl|rfl|rfl|rfl|rfl|rfl|rfl|rfl|rfl|rfl|rfl|rfl|rfl|rfl|rfl|rfl|rfl|rfl|rfl:i=0∨i=1∨i=2∨i=3∨i=4∨i=5∨i=6∨i=7∨i=8∨i=9∨i=10∨i=11∨i=12∨i=13∨i=14∨i=15∨i=16∨i=17∨i=18:=by omega
 all_goals first|(exfalso;revert kp;decide)|exact absurd rfl y|skip
 all_goals
  simp only[kS,Tryz.f59]at h hd;simp only[fV,gB,fW,dW]at h hd;subst h;simp[Region.binds]at hd
 all_goals(refine⟨?_,?_⟩)
 all_goals unfold execOp
 all_goals simp only[Act.eval,Wk.val,dA,hd,f0,f1,f2,f3,eE,box]
 all_goals first|go_simp|trace_state
 all_goals simp[Wk.S]
variable {S:Nat→Prop}
theorem DQ.nil:DQ S w w #[]:=⟨⟨w.drawn,rfl⟩,by simp⟩
variable {P:Program} {main:Bool} {R:World→World→Prop} {D:World→World→Array Event→Prop} {n:Nat} {F:World→Prop}
theorem Goes.cl{S:Goroutine→World→Prop}{g g':Goroutine}(hF:F w)(k:∀w w₁,F w→R w w₁→F w₁)(d:∀w,D w w #[])(y:g.status=.running)(e:∀w,stepG P main g w=.go g' w)(h:∀w,F w→Goes P main R D S n g' w):Goes P main R D S (n+1) g w:=.inr ⟨y,fun w₁ r=>by rw[e];exact⟨d _,h _ (k _ _ hF r)⟩⟩
theorem Goes.op{S:Goroutine→World→Prop}{T:Event→Prop}{b:Frame}{k:List Item}{cs:List Frame}{rest:List Nat}(hF:F w)(y:∀w w₁,F w→R w w₁→F w₁)(d:∀w es,(∀e∈es,T e)→D w w es)(z:ops[i]?=some o)(hw:Region.wanted o (yielded ops a.tmps)=true)(A:b.kind≠.early)(h:∀w,F w→∀K:Act→World→Prop,(∀a',(∀e∈(execOp a.eval o).events P w #[],T e)→Goes P main R D S n (G (b.at a' (.inRegion ops rest::k)) cs) w→K a' w)→uponK o a K ((execOp a.eval o).run P w)):Goes P main R D S (n+1) (G (b.at a (.inRegion ops (i::rest)::k)) cs) w:=by
 refine gx rfl (fun w₁ r=>gC z hw A (fun K C=>?_));exact h _ (y _ _ hF r) K (fun a' t g=>C _ _ ⟨d _ _ fun e he=>t e (gz he),g⟩)
theorem DQ.drew:DQ S w { w with drawn:=w.drawn+1 } #[]:=⟨⟨w.drawn+1,rfl⟩,by simp⟩
variable {c0 c1:Value}
theorem JX(h:kS[17]?=some o)(hr:17∈Region.ready .any kS listed)(r:mQ kS (p.val (.agg #[c0,c1])) p.fix 22 listed a):(execOp a.eval o).run Tryz.prog w=.ok (.value (p.val (.agg #[c0,c1]) 17)) w∧∀e∈(execOp a.eval o).events Tryz.prog w #[],False:=by
 have hd:=dep r h hr;clear hr;simp only[kS,Tryz.f59]at h hd;simp only[fV,gB,fW,dW]at h hd;subst h;simp[Region.binds]at hd;refine⟨?_,?_⟩
 all_goals unfold execOp
 all_goals simp only[Act.eval,Wk.val,dA,hd,eE,eC,gD,List.map_nil,Value.cells]
 ·rw[gE,run_build w _ _ #[.int .i64 p.i,c0,c1] (by kernel_rfl)];rfl
 ·intro e he;simp[go_sem]at he
theorem Ad(i:Nat)(o:Oper)(listed:Array Bool)(a:Act)(w:World)(h:kS[i]?=some o)(hr:i∈Region.ready .any kS listed)(kp:(i == 16 || i == 18)=false)(r:mQ kS (p.val (.agg #[c0,c1])) p.fix 22 listed a)(hF:WF p w):(execOp a.eval o).run Tryz.prog w=.ok (.value (p.val (.agg #[c0,c1]) i)) w∧∀e∈(execOp a.eval o).events Tryz.prog w #[],∃ad:Addr,e=⟨.cell ad,false,false⟩∧p.S ad.block:=by
 by_cases e:i=17
 ·subst e;obtain⟨y,z⟩:=JX (w:=w) h hr r;exact⟨y,fun e he=>(z e he).elim⟩
 ·exact JW h hr kp e r hF
theorem JY(m:Bool)(t:Nat):Region.schedule m kS t=Region.linearise .any kS t:=by
 have:Region.departs kS=false:=by kernel_rfl
 simp[Region.schedule,this]
abbrev wX (i:Nat):Bool:=i == 16 || i == 18
theorem sk:kS.size=19:=by kernel_rfl
theorem Dc:∃o,kS[16]?=some o∧o.dst=some 20∧o.op=.call { callee:=.value (.func 60),args:=#[.tmp 11,.tmp 15,.tmp 19],argTypes:=#[100,3,44] }∧o.guard=none:=⟨_,rfl,rfl,rfl,rfl⟩
end
section
open Go.Conc Go.ConcN Go.Conc.Lib Go.ConcR.Gen Go.ConcN.Gen Go.Proofs.YtjnkcibpkkjniaaGreat.kx
open Go.ConcR (KK wgBlock WgAt stA smA rd wr mk DC0)
variable [Scope]
def Wk.kJ (p:Wk) (B n CF:Nat):nj:=⟨B,n,p.Wg,p.CB,CF,Tryz.link.tWg,.tuple #[]⟩
def Wk.vJ (p:Wk) (ρ:j7) (args:Array Value) (wS:World) (R:Value→World→Prop):me :=
 {S:=p.S,f:=60,args:=args,mg:=#[.pointer (some ⟨p.xb,p.xo+p.i*14,none⟩),.int .i64 p.id,p.m],wS:=wS,
  ok:=fun v=>∃sa sl sc sb,v=.agg #[.slice sa sl sc,.bool sb],msg:=fun v=>.agg (#[.int .i64 p.i]++v.cells),ρ:=ρ,R:=R }
noncomputable def JZ:Array Oper:=match Tryz.f76.body with
 |some (.seq _ (.region _ ops _))=>ops
 |_=>#[]
noncomputable def J0 (p:Wk):Frame:=(baseD 76).at ⟨#[box p.bW,box p.bF,nk 77 #[box p.bW],nk 59 p.caps,undef],[pf 77 #[box p.bW]]⟩ [.inRegion JZ [1]]
noncomputable def under (p:Wk):List Frame:=[J0 p,qW Tryz.prog]
noncomputable def lit:Frame:=base 59
abbrev pg (p:Wk):World→World→Prop:=RK Tryz.link.tWg p.Wg p.S
def J1 (p:Wk) (g:Goroutine) (w:World):Prop:=WF p w∧∃m t,g=G (lit.at ⟨p.caps++Array.replicate 18 undef,[]⟩ [.inRegion kS (Region.schedule m kS t)]) (under p)
theorem J2{p:Wk}{w:World}(hF:WF p w):Goes Tryz.prog false (pg p) (DQ p.S) (J1 p) 10 (born Tryz.prog (pf 76 #[box p.bW,box p.bF])) w:=by
 refine gx rfl fun w₁ h=>?_
 replace hF:=hF.rely h;clear h;rw[C9 Tryz.func76 rfl rfl];simp only[fA];refine⟨DQ.nil,?_⟩
 walk_nrmf Tryz.f76
 ((refine gx rfl (fun _ h=>?_);replace hF:=WF.rely hF h;clear h);rw[stepG_seq];simp only[fA];refine⟨DQ.nil,?_⟩)
 ((refine gx rfl (fun _ h=>?_);replace hF:=WF.rely hF h;clear h);rw[fy];simp only[fA,gF,gG,gH,Nat.reduceAdd,dG,List.range,List.range.loop];refine⟨DQ.nil,?_⟩)
 ((refine gx rfl (fun _ h=>?_);replace hF:=WF.rely hF h;clear h);refine gC rfl rfl (by decide) (fun K y=>?_);have z:=WF.hW hF;have A:=WF.hF hF;simp only[box]at *;go_simp;refine y _ _ ⟨⟨⟨_,rfl⟩,fun e he=>?_⟩,?_⟩;(focus(have hm:=gz he;simp[go_sem, *]at hm;(try(subst hm;exact⟨_,rfl,by simp[Wk.S]⟩))));clear y K z A)
 (refine gx rfl (fun _ h=>?_);replace hF:=WF.rely hF h;clear h);rw[JP rfl rfl (by decide) rfl rfl];simp only[fA];refine⟨DQ.nil,?_⟩;walk_nrm
 ((refine gx rfl (fun _ h=>?_);replace hF:=WF.rely hF h;clear h);rw[stepG_region_end];simp only[fA];refine⟨DQ.nil,?_⟩)
 ((refine gx rfl (fun _ h=>?_);replace hF:=WF.rely hF h;clear h);rw[fy];simp only[fA,gF,gG,gH,Nat.reduceAdd,dG,List.range,List.range.loop];refine⟨DQ.nil,?_⟩)
 ((refine gx rfl (fun _ h=>?_);replace hF:=WF.rely hF h;clear h);refine gC rfl rfl (by decide) (fun K y=>?_);have z:=WF.hW hF;have A:=WF.hF hF;simp only[box]at *;go_simp;refine y _ _ ⟨⟨⟨_,rfl⟩,fun e he=>?_⟩,?_⟩;(focus(have hm:=gz he;simp[go_sem, *]at hm;(try(subst hm;exact⟨_,rfl,by simp[Wk.S]⟩))));clear y K z A)
 (refine gx rfl (fun _ h=>?_);replace hF:=WF.rely hF h;clear h);refine JS rfl rfl (by decide) rfl rfl Tryz.func59 rfl rfl ⟨DQ.nil,?_⟩
 (refine gx rfl (fun _ h=>?_);replace hF:=WF.rely hF h;clear h);rw[stepG_region_draw];simp only[fA];refine⟨DQ.drew,fQ fun C r=>?_⟩;exact⟨hF.rely ⟨fun b hb=>r.keep b hb,fun E=>r.live E⟩,_,_,rfl⟩
end
section
open Go.Conc Go.ConcN Go.Conc.Lib Go.ConcR.Gen Go.ConcN.Gen Go.Proofs.YtjnkcibpkkjniaaGreat.kx
open Go.ConcR (KK wgBlock WgAt stA smA rd wr mk DC0)
variable [Scope]
theorem J4(p:Wk)(ret:Value):mQ kS (p.val ret) p.fix 22 (Array.replicate kS.size false) ⟨p.caps++Array.replicate 18 undef,[]⟩ where
 defers:=rfl
 size:=by simp[Wk.caps]
 fix:=fun x hx=>by
  simp only[Wk.fix,fN,fO,fP]at hx;rcases hx with rfl|rfl|rfl|rfl<;>(simp only;rw[gI (by simp[Wk.caps])];rfl)
 val:=fun i o d _ e=>by
  simp[dA,dz]at e;split at e<;>simp at e
 kR:=by simp
 qC:=fun i o _ e=>by
  simp[dA,dz]at e;split at e<;>simp at e
variable {i:Nat}
theorem yl(h:wX i=true):i=16∨i=18:=by simpa[wX]using h
theorem Dd(ops:Array Oper)(l:Array Bool):mY ops l≤ops.size:=by
 unfold mY;exact dE (gj _ _) (by simp)
variable {listed:Array Bool}
theorem ym{ops:Array Oper}(r:listed.size=ops.size)(h:i∈Region.ready .any ops listed):listed.getD i false=false:=by
 obtain⟨e,o,y,_⟩:=gh.1 h;have z:i<listed.size:=by rw[r];exact(dv.1 y).1
 rw[dA,dw z]at e ⊢;simpa using e
theorem wY:lit.kind≠.early:=by decide
variable {val:Nat→Value} {fix:List (Nat×Value)} {T:Nat} {a:Act}
theorem De(y:mQ kS val fix T listed a)(hr:18∈Region.ready .any kS listed):listed.getD 16 false=true∧listed.getD 17 false=true∧listed.getD 0 false=true:=by
 obtain⟨_,o,r,h⟩:=gh.1 hr;have e:kS[18]?=some o:=r;simp only[kS,Tryz.f59,fV,gB,fW,dW]at e;subst e;simp[Region.binds]at h;simp only[dA];exact⟨h.2.2,h.2.1,h.1⟩
theorem J5(y:mQ kS val fix T listed a)(h:listed.getD 17 false=true):listed.getD 16 false=true:=by
 obtain⟨o,r⟩:∃o,kS[17]?=some o:=⟨_,rfl⟩;have hd:=y.qC 17 o r h;have e:kS[17]?=some o:=r;simp only[kS,Tryz.f59,fV,gB,fW,dW]at e;subst e;simp[Region.binds]at hd;rw[dA];exact hd.2
variable {p:Wk}
theorem J6{ret:Value}(r:mQ kS (p.val ret) p.fix 22 listed a)(hr:16∈Region.ready .any kS listed):a.tmps[11]?=some (p.val ret 7)∧a.tmps[15]?=some (p.val ret 11)∧a.tmps[19]?=some (p.val ret 15):=by
 obtain⟨o,h,y,z,A⟩:=Dc;have hd:=dep r h hr;have e:kS[16]?=some o:=h;simp only[kS,Tryz.f59,fV,gB,fW,dW]at e;subst e;exact⟨hd ⟨7,.data⟩ (by simp) (by rw[sk];decide) rfl _ 11 (by rfl) rfl,hd ⟨11,.data⟩ (by simp) (by rw[sk];decide) rfl _ 15 (by rfl) rfl,hd ⟨15,.data⟩ (by simp) (by rw[sk];decide) rfl _ 19 (by rfl) rfl⟩
noncomputable def tN (p:Wk) (a:Act) (l:List Nat):Goroutine:=G (lit.at a [.inRegion kS l]) (under p)
variable {ρ:j7} {args:Array Value} {wS w:World} {R:Value→World→Prop} {B n CF:Nat}
theorem J7(hsend:∀(c0 c1:Value)(a:Act)(listed:Array Bool)(fuel t:Nat)(w:World),WF p w→mQ kS (p.val (.agg #[c0,c1])) p.fix 22 listed a→listed.getD 16 false=true→listed.getD 18 false=false→mY kS listed≤fuel →
   ∃m,Goes Tryz.prog false (pg p) (DQ p.S) (AtSend Tryz.prog (p.kJ B n CF) p.S (.agg (#[.int .i64 p.i]++#[c0,c1]))) m (tN p a (Region.linearise.go .any kS fuel t listed [])) w)(hF:WF p w)(m:Bool)(t:Nat):Goes Tryz.prog false (pg p) (DQ p.S) (yk Tryz.prog (p.kJ B n CF) (p.vJ ρ args wS R)) 19 (G (lit.at ⟨p.caps++Array.replicate 18 undef,[]⟩ [.inRegion kS (Region.schedule m kS t)]) (under p)) w:=by
 rw[JY];unfold Region.linearise;have hw:=wV (P:=Tryz.prog) (mn:=false) (R:=pg p) (S:=p.S) (ops:=kS) (val:=p.val (.agg #[undef,undef])) (fix:=p.fix) (T:=22) (sp:=wX) (L0:=fun _=>false) (Sok:=WF p) (b:=lit) (k:=[]) (cs:=under p)
  RK.trans (fun w w₁ h hF=>hF.rely h) wW wY Ad kS.size t _ _ w (J4 p _) (fun j _=>by simp[dA,dz];split<;>rfl) hF (Dd _ _)
 rw[show kS.size=19 from sk]at hw ⊢;refine Goes.bind (m2:=0) RK.refl (fun g w0 hs=>fQ fun w' h'=>?_) hw;obtain⟨r,a,listed,z,A,⟨i,fuel,t',hi,hr,hu,rfl⟩|⟨C,rfl⟩⟩:=hs
 ·rcases yl hi with rfl|rfl
  ·replace r:=r.rely h';obtain⟨O,Q,U⟩:=J6 z hr;obtain⟨o,V,od,E,og⟩:=Dc;have H:16<listed.size:=by rw[z.kR,sk];decide
   have y:#[Operand.tmp 11,Operand.tmp 15,Operand.tmp 19].map a.eval=(p.vJ ρ args wS R).mg:=by
    simp[Act.eval,dA,O,Q,U,Wk.vJ,Wk.val]
   refine⟨rfl,lit.at a [.inRegion kS (16::Region.linearise.go .any kS fuel t' (listed.setIfInBounds 16 true) [])],under p,fun w₁ _=>?_,fun v' M=>?_⟩
   ·have W:Region.wanted o (yielded kS a.tmps)=true:=by simp[Region.wanted,og]
    rw[stepG_enter V W wY (run_call_body E Tryz.func60 rfl rfl),y];have:listed=listed:=rfl;have hl:Go.Conc.listed Tryz.prog lit.fn a o w₁=#[]:=by unfold Go.Conc.listed;rw[events_call_body E Tryz.func60 rfl rfl];exact gd _ _
    rw[hl];rfl
   ·obtain⟨sa,sl,sc,sb,M⟩:=M;generalize(Value.slice sa sl sc)=c0,(Value.bool sb)=c1 at M;subst M;have hT:mQ kS (p.val (.agg #[c0,c1])) p.fix 22 (listed.setIfInBounds 16 true) (a.put o.dst (.agg #[c0,c1])):=z.put wW V hr rfl fun j Y=>by
     have Z:j≠16:=fun e=>by
      subst e;rw[A 16 rfl]at Y
      cases Y
     have aa:j≠17:=fun e=>by
      subst e;have:=J5 z Y;rw[A 16 rfl]at this
      cases this
     unfold Wk.val;split<;>first|rfl|exact absurd rfl Z|exact absurd rfl aa
    have I:(listed.setIfInBounds 16 true).getD 16 false=true:=by rw[mX _ _ _ H,dr rfl]
    have K:(listed.setIfInBounds 16 true).getD 18 false=false:=by rw[mX _ _ _ H,dt (by decide)];exact A 18 rfl
    have ab:=rz (ops:=kS) (listed:=listed) (i:=16) (by rw[sk];decide) z.kR (A 16 rfl);obtain⟨m,hm⟩:=hsend c0 c1 _ _ fuel t' w' r hT I K (by omega);refine⟨m,?_⟩;have e:({ frame:=(lit.at a [.inRegion kS (16::Region.linearise.go .any kS fuel t' (listed.setIfInBounds 16 true) [])]).finish (.agg #[c0,c1]),callers:=under p,status:=.running,dying:=none }:Goroutine)=tN p (a.put o.dst (.agg #[c0,c1])) (Region.linearise.go .any kS fuel t' (listed.setIfInBounds 16 true) []):=by
     rw[ft,V];rfl
    rw[e];exact hm
  ·have:=(De z hr).1;rw[A 16 rfl]at this
   cases this
 ·have:=C 16 (by rw[sk];decide);rw[A 16 rfl]at this
  cases this
theorem J8:∃o,kS[18]?=some o∧o.dst=none∧o.op=.send (.tmp 4) (.tmp 21)∧o.guard=none:=⟨_,rfl,rfl,rfl,rfl⟩
theorem J9{mo:Nat}(A:∀(a:Act)(w:World),WF p w→a.defers=[]→Goes Tryz.prog false (pg p) (DQ p.S) (vH Tryz.prog false (pg p) Tryz.link.tWg p.Wg) mo (tN p a []) w){c0 c1:Value}{fuel t:Nat}(hF:WF p w)(hT:mQ kS (p.val (.agg #[c0,c1])) p.fix 22 listed a)(M:listed.getD 16 false=true)(O:listed.getD 18 false=false)(hu:mY kS listed≤fuel):∃m,Goes Tryz.prog false (pg p) (DQ p.S) (AtSend Tryz.prog (p.kJ B n CF) p.S (.agg (#[.int .i64 p.i]++#[c0,c1]))) m (tN p a (Region.linearise.go .any kS fuel t listed [])) w:=by
 have hw:=wV (P:=Tryz.prog) (mn:=false) (R:=pg p) (S:=p.S) (ops:=kS) (val:=p.val (.agg #[c0,c1])) (fix:=p.fix) (T:=22) (sp:=wX) (L0:=fun i=>i == 16) (Sok:=WF p) (b:=lit) (k:=[]) (cs:=under p)
  RK.trans (fun w w₁ h hF=>hF.rely h) wW wY Ad fuel t _ _ w hT (fun j Q=>by rcases yl Q with rfl|rfl<;>simp[M,O]) hF hu
 refine⟨_,Goes.bind (m2:=0) RK.refl (fun g w0 U=>fQ fun w' h'=>?_) hw⟩;obtain⟨r,a,listed,y,C,⟨i,fuel,t',V,hr,hu,rfl⟩|⟨z,rfl⟩⟩:=U
 ·rcases yl V with rfl|rfl
  ·have:=ym y.kR hr;rw[C 16 rfl]at this
   cases this
  ·replace r:=r.rely h';obtain⟨o,W,od,E,og⟩:=J8;obtain⟨Y,Z,k0⟩:=De y hr;obtain⟨o0,aa,ab⟩:∃o,kS[0]?=some o∧o.dst=some 4:=⟨_,rfl,rfl⟩;obtain⟨ad,H,I⟩:∃o,kS[17]?=some o∧o.dst=some 21:=⟨_,rfl,rfl⟩;have e4:=y.val 0 o0 4 aa k0 ab;have ae:=y.val 17 ad 21 H Z I;have af:18<listed.size:=by rw[y.kR,sk];decide
   have ag:Region.wanted o (yielded kS a.tmps)=true:=by simp[Region.wanted,og]
   have K:(execOp a.eval o).run Tryz.prog w'=.ok (.comm #[scase p.CB (.agg (#[.int .i64 p.i]++#[c0,c1])) (.tuple #[])] true .send) w':=by
    unfold execOp;simp[E,scase,Act.eval,dA,e4,ae,Wk.val,Value.cells]
   have ah:(execOp a.eval o).events Tryz.prog w' #[]=#[]:=by
    unfold execOp;simp[E]
   refine⟨rfl,?_,?_⟩
   ·rw[stepG_comm W ag wY K];unfold Go.Conc.listed;rw[ah,gd];rfl
   ·have ai:mQ kS (p.val (.agg #[c0,c1])) p.fix 22 (listed.setIfInBounds 18 true) (a.put o.dst undef):=y.put wW W hr rfl fun _ _=>rfl
    have aj:=rz (ops:=kS) (listed:=listed) (i:=18) (by rw[sk];decide) y.kR (C 18 rfl);have hw:=wV (P:=Tryz.prog) (mn:=false) (R:=pg p) (S:=p.S) (ops:=kS) (val:=p.val (.agg #[c0,c1])) (fix:=p.fix) (T:=22) (sp:=wX) (L0:=fun _=>true) (Sok:=WF p) (b:=lit) (k:=[]) (cs:=under p)
     RK.trans (fun w w₁ h hF=>hF.rely h) wW wY Ad fuel t' _ _ w' ai (fun j Q=>by
      rw[mX _ _ _ af];rcases yl Q with rfl|rfl
      ·rw[dt (by decide)];exact Y
      ·rw[dr rfl]) r (by omega)
    obtain⟨e⟩:Nonempty (Go.Conc.served (G (lit.at a [.inRegion kS (18::Region.linearise.go .any kS fuel t' (listed.setIfInBounds 18 true) [])]) (under p)) undef=tN p (a.put o.dst undef) (Region.linearise.go .any kS fuel t' (listed.setIfInBounds 18 true) [])):=⟨by
     unfold Go.Conc.served tN G;simp only;rw[ft,W];rfl⟩
    rw[e];refine⟨_,Goes.bind (m2:=mo) RK.refl (fun g w0 U=>?_) hw⟩;obtain⟨r,a,listed,y,C,⟨i,fuel,t',V,hr,hu,rfl⟩|⟨z,rfl⟩⟩:=U
    ·have:=ym y.kR hr;rw[C i V]at this
     cases this
    ·exact A a w0 r y.defers
 ·have:=z 18 (by rw[sk];decide);rw[C 18 rfl]at this
  cases this
theorem Kc(p:Wk):sX (pg p) (fun _=>True) Tryz.link.tWg p.Wg:=⟨RK.trans,fun _ _ h=>h.live,fun _ _ _ h=>h,fun _ _ _ _ h=>h⟩
theorem Kd(d:Nat)(w:World)(es:Array Event):(Op.equalIn (d+1) 20 .nilIface .nilIface).events Tryz.prog w es=es:=by
 have h:=Tryz.underlying20;simp[Op.equalIn,underlying,h]
theorem Ke(w:World)(es:Array Event):(Op.equal 20 .nilIface .nilIface).events Tryz.prog w es=es:=Kd 9999 w es
noncomputable def Ae:Array Oper:=match Tryz.f78.body with
 |some (.region _ ops _)=>ops
 |_=>#[]
noncomputable def Kf:Array Oper:=match Tryz.f77.body with
 |some (.seq _ (.region _ ops _))=>ops
 |_=>#[]
variable {c:Frame} {cs:List Frame} {q:Nat}
theorem Kg(e:c.mode=.returning)(h:QuitsD Tryz.prog q 0 (G c cs))(r y:Array Value):QuitsD Tryz.prog (q+6) 0 (G ((base 78).at (Act.put ⟨r,[]⟩ ((Ae[1]?).bind (·.dst)) (.tuple #[])) [.inRegion Ae []]) ((baseD 77).at ⟨y,[]⟩ [.inRegion Kf [1]]::c::cs)):=by
 q_c stepG_region_end
 q_c fY
 refine QuitsD.leave0 rfl rfl Tryz.func78 rfl ?_
 q_c stepG_region_end
 q_c fY
 refine QuitsD.ctl rfl (fun _=>JU rfl Tryz.func77 rfl e) ?_;exact h
theorem Kh(C:c.mode=.returning)(H:QuitsD Tryz.prog q 0 (G c cs))(w:World)(hF:WF p w):Goes Tryz.prog false (pg p) (DQ p.S) (vH Tryz.prog false (pg p) Tryz.link.tWg p.Wg) 50 (G ((baseD 77).at ⟨#[box p.bW]++Array.replicate 7 undef,[]⟩ [.code (Tryz.f77.body.getD .skip)]) (c::cs)) w:=by
 simp only[Tryz.f77,eE];walk_nrm
 ((refine gx rfl (fun _ r=>?_);replace hF:=WF.rely hF r;clear r);rw[stepG_seq];simp only[fA];refine⟨DQ.nil,?_⟩)
 ((refine gx rfl (fun _ r=>?_);replace hF:=WF.rely hF r;clear r);rw[stepG_seq];simp only[fA];refine⟨DQ.nil,?_⟩)
 ((refine gx rfl (fun _ r=>?_);replace hF:=WF.rely hF r;clear r);rw[fy];simp only[fA,gF,gG,gH,Nat.reduceAdd,dG,List.range,List.range.loop];refine⟨DQ.nil,?_⟩)
 (refine gx rfl (fun _ r=>?_);replace hF:=WF.rely hF r;clear r);rw[JV rfl rfl rfl C];simp only[fA];refine⟨DQ.nil,?_⟩;walk_nrm
 ((refine gx rfl (fun _ r=>?_);replace hF:=WF.rely hF r;clear r);refine gC rfl rfl (by decide) (fun K y=>?_);have z:=WF.hW hF;have A:=WF.hF hF;simp only[box]at *;go_simp;refine y _ _ ⟨⟨⟨_,rfl⟩,fun e he=>?_⟩,?_⟩;(focus(have hm:=gz he;simp[go_sem, *]at hm;(try(subst hm;exact⟨_,rfl,by simp[Wk.S]⟩))));clear y K z A)
 ((refine gx rfl (fun _ r=>?_);replace hF:=WF.rely hF r;clear r);rw[stepG_region_end];simp only[fA];refine⟨DQ.nil,?_⟩)
 ((refine gx rfl (fun _ r=>?_);replace hF:=WF.rely hF r;clear r);rw[stepG_seq];simp only[fA];refine⟨DQ.nil,?_⟩)
 ((refine gx rfl (fun _ r=>?_);replace hF:=WF.rely hF r;clear r);rw[fy];simp only[fA,gF,gG,gH,Nat.reduceAdd,dG,List.range,List.range.loop];refine⟨DQ.nil,?_⟩)
 ((refine gx rfl (fun _ r=>?_);replace hF:=WF.rely hF r;clear r);refine gC rfl rfl (by decide) (fun K y=>?_);have z:=WF.hW hF;have A:=WF.hF hF;simp only[box]at *;go_simp;refine y _ _ ⟨⟨⟨_,rfl⟩,fun e he=>?_⟩,?_⟩;(focus(have hm:=gz he;simp[go_sem, *]at hm;(try(subst hm;exact⟨_,rfl,by simp[Wk.S]⟩))));clear y K z A)
 (refine gx rfl (fun _ r=>?_);replace hF:=WF.rely hF r;clear r);refine gC rfl rfl (by decide) (fun K y=>?_);go_simp;refine y _ _ ⟨⟨⟨_,rfl⟩,fun e he=>?_⟩,?_⟩
 ·clear y;have hm:=gz he;clear he;simp[binOp,go_sem,Ke]at hm
 clear y K
 ((refine gx rfl (fun _ r=>?_);replace hF:=WF.rely hF r;clear r);rw[stepG_region_end];simp only[fA];refine⟨DQ.nil,?_⟩)
 ((refine gx rfl (fun _ r=>?_);replace hF:=WF.rely hF r;clear r);rw[fw (t:=false) rfl];simp only[fA,dn,dp,dL,↓reduceIte];refine⟨DQ.nil,?_⟩)
 ((refine gx rfl (fun _ r=>?_);replace hF:=WF.rely hF r;clear r);rw[stepG_skip];simp only[fA];refine⟨DQ.nil,?_⟩)
 ((refine gx rfl (fun _ r=>?_);replace hF:=WF.rely hF r;clear r);rw[fy];simp only[fA,gF,gG,gH,Nat.reduceAdd,dG,List.range,List.range.loop];refine⟨DQ.nil,?_⟩)
 ((refine gx rfl (fun _ r=>?_);replace hF:=WF.rely hF r;clear r);refine gC rfl rfl (by decide) (fun K y=>?_);have z:=WF.hW hF;have A:=WF.hF hF;simp only[box]at *;go_simp;refine y _ _ ⟨⟨⟨_,rfl⟩,fun e he=>?_⟩,?_⟩;(focus(have hm:=gz he;simp[go_sem, *]at hm;(try(subst hm;exact⟨_,rfl,by simp[Wk.S]⟩))));clear y K z A)
 (refine gx rfl (fun _ r=>?_);replace hF:=WF.rely hF r;clear r);refine fz rfl rfl (by decide) rfl Tryz.func78 rfl rfl ⟨DQ.nil,?_⟩
 walk_nrmf Tryz.f78
 ((refine gx rfl (fun _ r=>?_);replace hF:=WF.rely hF r;clear r);rw[fy];simp only[fA,gF,gG,gH,Nat.reduceAdd,dG,List.range,List.range.loop];refine⟨DQ.nil,?_⟩)
 ((refine gx rfl (fun _ r=>?_);replace hF:=WF.rely hF r;clear r);refine gC rfl rfl (by decide) (fun K y=>?_);have z:=WF.hW hF;have A:=WF.hF hF;simp only[box]at *;go_simp;refine y _ _ ⟨⟨⟨_,rfl⟩,fun e he=>?_⟩,?_⟩;(focus(have hm:=gz he;simp[go_sem, *]at hm;(try(subst hm;exact⟨_,rfl,by simp[Wk.S]⟩))));clear y K z A)
 (refine gx rfl (fun _ r=>?_);replace hF:=WF.rely hF r;clear r);refine fz rfl rfl (by decide) rfl Tryz.uK.f_add rfl rfl ⟨DQ.nil,?_⟩;walk_nrm;refine Goes.mono (n:=20) (Goes.vI (fun _ _ _ h=>DQ.p9 h) ?_) (by decide);have E:=JK (R:=pg p) (F:=fun _=>True) (Wg:=p.Wg) (ops₀:=Ae) (i₀:=1) (rest₀:=[]) (k₀:=[]) Tryz.uK (Kc p) (Kg C H #[.pointer (some ⟨p.Wg,0,none⟩),undef,.pointer (some ⟨p.Wg,0,none⟩),undef] #[.pointer (some ⟨p.bW,0,none⟩),.nilIface,.nilIface,.nilIface,.bool false,undef,.pointer (some ⟨p.Wg,0,none⟩),undef]) _ ⟨trivial,hF.live⟩;simp only[body_add,addFn,eE]at E;exact E
theorem Ki(a:Act)(w:World)(hF:WF p w)(hd:a.defers=[]):Goes Tryz.prog false (pg p) (DQ p.S) (vH Tryz.prog false (pg p) Tryz.link.tWg p.Wg) 60 (tN p a []) w:=by
 unfold tN
 ((refine gx rfl (fun _ e=>?_);replace hF:=WF.rely hF e;clear e);rw[stepG_region_end];simp only[fA];refine⟨DQ.nil,?_⟩)
 ((refine gx rfl (fun _ e=>?_);replace hF:=WF.rely hF e;clear e);rw[fY];simp only[fA];refine⟨DQ.nil,?_⟩)
 (refine gx rfl (fun _ e=>?_);replace hF:=WF.rely hF e;clear e);refine goes_leave0 rfl hd Tryz.func59 rfl ⟨DQ.nil,?_⟩
 ((refine gx rfl (fun _ e=>?_);replace hF:=WF.rely hF e;clear e);rw[stepG_region_end];simp only[fA];refine⟨DQ.nil,?_⟩)
 ((refine gx rfl (fun _ e=>?_);replace hF:=WF.rely hF e;clear e);rw[fY];simp only[fA];refine⟨DQ.nil,?_⟩)
 (refine gx rfl (fun _ e=>?_);replace hF:=WF.rely hF e;clear e);rw[JQ rfl Tryz.func77 rfl rfl];simp only[fA];refine⟨DQ.nil,?_⟩;exact Goes.mono (Kh rfl (Da Tryz.func76 rfl) _ hF) (by decide)
theorem Kj(hF:WF p w):Goes Tryz.prog false (pg p) (DQ p.S) (yk Tryz.prog (p.kJ B n CF) (p.vJ ρ args wS R)) (10+19) (born Tryz.prog (pf 76 #[box p.bW,box p.bF])) w :=
 Goes.bind RK.refl (fun g w0 h=>by
  obtain⟨e,m,t,rfl⟩:=h;exact J7 (fun c0 c1 a listed fuel t w r y z A C=>J9 (mo:=60) Ki r y z A C) e m t) (J2 hF)
end
section
open Go.Conc Go.ConcN Go.Proofs.YtjnkcibpkkjniaaGreat.kx
open Go.ConcR (KK wgBlock WgAt stA smA rd wr mk DC0)
def lq (b:Nat):Loc→Prop
 | .cell a=>a.block=b
 | .obj r=>r=b
 |_=>False
theorem lq.mem{b:Nat}{l:Loc}(h:lq b l):l.isMemory=true:=by cases l<;>first|rfl|exact h.elim
variable {l:Loc}
theorem lq.uniq{b b':Nat}(h:lq b l)(h':lq b' l):b=b':=by cases l<;>first|exact h.elim|exact h.symm.trans h'
variable [Scope]
def qX (ρ:j7):Loc→Prop
 | .cell a=>In ρ a
 | .obj r=>∃b,ρ b=some ⟨r,none⟩
 |_=>False
theorem qX.block{ρ:j7}{l:Loc}(h:qX ρ l):∃b p,ρ b=some p∧lq p.block l:=by
 cases l with
 |cell a=>obtain⟨b,p,e,y,_⟩:=h;exact⟨b,p,e,y.symm⟩
 |obj r=>obtain⟨b,hb⟩:=h;exact⟨b,_,hb,rfl⟩
 |_=>exact h.elim
theorem qX.mono{ρ ρ':j7}{l:Loc}(h:qX ρ l)(k:ρ.le ρ'):qX ρ' l:=by
 cases l with
 |cell a=>exact In.mono h k
 |obj r=>obtain⟨b,hb⟩:=h;exact⟨b,k _ _ hb⟩
 |_=>exact h.elim
def qD (ρ ρ':j7):Prop:=∀b p b' p',ρ b=some p→ρ' b'=some p'→p.block=p'.block →
 ∃x x':Span,p.part=some x∧p'.part=some x'∧(x.start+x.len≤x'.start∨x'.start+x'.len≤x.start)
theorem qD.symm{ρ ρ':j7}(h:qD ρ ρ'):qD ρ' ρ:=fun b p b' p' hb r e=>by
 obtain⟨x,y,z,A,C⟩:=h b' p' b p r hb e.symm;exact⟨y,x,A,z,C.symm⟩
variable {ρ ρ':j7}
theorem qD.loc(y:Scope.sync=false)(h:qD ρ ρ')(k:qX ρ l)(k':qX ρ' l):False:=by
 cases l with
 |cell a =>
  obtain⟨b,p,G,H,I⟩:=k;obtain⟨b',p',z,A,C⟩:=k';obtain⟨⟨s,l,ty⟩,⟨s',l',pK⟩,e,K,M⟩:=h b p b' p' G z (H.trans A.symm);have k1:=I s l ty e;have k2:=C s' l' pK K;rw[y]at k1 k2;simp only[dL,false_or]at k1 k2;simp only at M;omega
 |obj r =>
  obtain⟨b,hb⟩:=k;obtain⟨b',E⟩:=k';obtain⟨x,O,e,_⟩:=h b _ b' _ hb E rfl
  cases e
 |_=>exact k.elim
theorem Kept.leaves{ρ ρ':j7}{w w':World}(h:Kept ρ w w')(a:qD ρ ρ')(z:∀b p,ρ' b=some p→p.block<w.heap.size):Leaves ρ' w w':=by
 intro b p hb
 by_cases hx:∃y q,ρ y=some q∧q.block=p.block
 ·obtain⟨y,q,r,e⟩:=hx;obtain⟨⟨s,l,ty⟩,⟨s',l',pK⟩,A,G,H⟩:=a y q b p r hb e;rw[G];intro C E hC;obtain⟨U,V,I,fr,_,k1,k2,K,M⟩:=h.part y q s l ty r A;rw[e]at k1 k2;rw[hC]at k1
  cases k1
  refine⟨I,k2,K,fun i O Q=>M i ?_⟩;simp only at O Q H;omega
 ·have e:=h.other p.block (z b p hb) fun y q r e=>hx ⟨y,q,r,e⟩
  split
  ·exact e
  ·exact fun C E hC=>⟨C,e.trans hC,rfl,fun _ _ _=>rfl⟩
variable {ρ1:j7} {w:World}
theorem Grow.apart(g:Grow ρ w ρ1)(a:qD ρ ρ')(y:∀b p,ρ' b=some p→p.block<w.heap.size):qD ρ1 ρ':=by
 intro b p b' p' hb r e;rcases g.new b p hb with h|⟨_,h⟩
 ·exact a b p b' p' h r e
 ·have:=y b' p' r;omega
theorem Grow.loc(g:Grow ρ w ρ1)(h:qX ρ1 l):qX ρ l∨∃b,lq b l∧w.heap.size≤b:=by
 cases l with
 |cell a =>
  obtain⟨b,p,y,e,z⟩:=h;rcases g.new b p y with k|⟨_,k⟩
  ·exact .inl ⟨b,p,k,e,z⟩
  ·exact .inr ⟨p.block,e.symm,k⟩
 |obj r =>
  obtain⟨b,hb⟩:=h;rcases g.new b _ hb with k|⟨_,k⟩
  ·exact .inl ⟨b,k⟩
  ·exact .inr ⟨r,rfl,k⟩
 |_=>exact h.elim
def oq (N:nj) (l:Loc):Prop:=(∃a,l=.cell a∧a.block=N.Wg)∨l=.obj N.CB∨l=.obj N.CF
theorem oq.mem{N:nj}{l:Loc}(h:oq N l):l.isMemory=true:=by
 rcases h with⟨a,rfl,_⟩|rfl|rfl<;>rfl
theorem oq.block{N:nj}{l:Loc}(h:oq N l):lq N.Wg l∨lq N.CB l∨lq N.CF l:=by
 rcases h with⟨a,rfl,e⟩|rfl|rfl
 ·exact .inl e
 ·exact .inr (.inl rfl)
 ·exact .inr (.inr rfl)
structure Rl (N:nj) (t:Trace) (k r:Nat):Prop where
 rel:RelBy (stA N.Wg) t k r
 soft:∀(i:Nat) op x,r<i→t[i]?=some op→op.g=k→op.act.touch? = some x→x.loc.isMemory=true→oq N x.loc∧x.kind=.atomic
theorem Rl.appNot{N:nj}{t u:Trace}{k r:Nat}(h:Rl N t k r)(hu:∀op∈u,op.g≠k):Rl N (t++u) k r :=
 ⟨h.rel.appNot hu,fun i op x hr A z hx hm=>by
  rcases fJ A with⟨_,e⟩|⟨_,y⟩
  ·exact h.soft i op x hr e z hx hm
  ·exact absurd z (hu op y)⟩
theorem Rl.appOwn{N:nj}{t:Trace}{k r:Nat}(h:Rl N t k r)(fn:FuncId)(pos:String)(es:Array Event)(y:∀j e,es[j]?=some e→(MemAct.ofEvent e).touch? = none∨((∃ad wr,e=⟨.cell ad,wr,true⟩∧ad.block=N.Wg)∧0<deafBehind (Deaf t k) (es.extract 0 j))):Rl N (t++MemOp.ofEvents k fn pos es) k r:=by
 refine⟨h.rel.appOwn fn pos es fun j e he=>(y j e he).imp id fun⟨⟨ad,wr,C,_⟩,hd⟩=>⟨⟨ad,wr,C⟩,hd⟩,fun i op x hr E G hx hm=>?_⟩;rcases fJ E with⟨_,A⟩|⟨_,z⟩
 ·exact h.soft i op x hr A G hx hm
 ·rw[gJ]at z;obtain⟨e,he,rfl⟩:=Array.mem_map.1 z;obtain⟨j,H⟩:=Array.mem_iff_getElem?.1 he;rcases y j e H with I|⟨⟨ad,wr,rfl,hb⟩,_⟩
  ·simp only at hx;rw[I]at hx;cases hx
  ·have:x=⟨.cell ad,wr,.atomic⟩:=by
    cases wr<;>simp[MemAct.ofEvent,MemAct.touch?]at hx<;>exact hx.symm
   subst this;exact⟨.inl ⟨ad,rfl,hb⟩,rfl⟩
theorem Rl.new{N:nj}{t:Trace}{k:Nat}(hd:Deaf t k=0)(fn:FuncId)(pos:String):Rl N (t++MemOp.ofEvents k fn pos #[Go.ConcR.mk (.releaseMerge (stA N.Wg))]) k t.size:=by
 refine⟨RelBy.new hd fn pos,fun i op x hr e h hx hm=>?_⟩;have:=fK e;simp[gJ]at this;omega
def uL:Tg→Bool
 | .qt=>true
 |_=>false
structure St where
 j:Nat
 p:Nat
 D:Nat→WD
 tag:Tg
 fc:Nat
 dc:Nat
 d0:Nat
 q:Nat→Nat
 V:Nat→Prop
 W:Nat→Prop
 got:List Nat
 wait:List Nat
structure Ctx where
 P:Program
 N:nj
 pk:Machine→Nat×Nat×Option (Nat×Nat)
 m0:Machine
 t0:Trace
 Gt:Nat→Tape
 J:Nat→me
 Sc:Nat→Prop
 mw:Goroutine→World→Prop
 mC:Nat
 Shun:Loc→Prop
section
variable (X:Ctx)
structure Ctx.Good:Prop where
 sync:Scope.sync=false
 pos:0<X.N.B
 qE:∀i,i<X.N.n→(X.J i).Good X.P
 anch:∀g w,X.mw g w→∃m,Goes X.P false (RK X.N.ty X.N.Wg X.Sc) DC0 (wT X.P false (RK X.N.ty X.N.Wg X.Sc) X.N.ty X.N.Wg X.mw (Nx X.P X.N X.Sc X.mC)) m g w
 tO:∀g w,X.mw g w→g.status=.running
 glue:∀i n j q,(kK X.P X.pk (X.N.B+i) X.m0 X.t0 n).1+j<(kK X.P X.pk (X.N.B+i) X.m0 X.t0 n).2→X.Gt i (kI (kK X.P X.pk (X.N.B+i) X.m0 X.t0) n+j) q=vC X.P X.m0 X.t0 n ((kK X.P X.pk (X.N.B+i) X.m0 X.t0 n).1+j) q
 qF:X.N.n<2147483647
 yn:∀gs w sl,(∀g∈gs,awake g)→(∃(i:Nat)(g:Goroutine),gs[i]?=some g∧g.status=.running) →
  ∃g,gs[(X.pk (crowd gs w sl)).1]?=some g∧g.status=.running∧stepT X.P (crowd gs w sl)=runT X.P (crowd gs (w.at (X.pk (crowd gs w sl)).2.1) (X.pk (crowd gs w sl)).2.2) (X.pk (crowd gs w sl)).1
 kJ:X.N.Wg≠X.N.CB∧X.N.Wg≠X.N.CF∧X.N.CB≠X.N.CF
 oU:∀l,X.Shun l→l.isMemory=true∧¬oq X.N l∧¬lq X.N.Wg l∧¬lq X.N.CB l∧¬lq X.N.CF l
def pj (s:St) (k:Nat) (l:Loc):Prop:=∃i,i<X.N.n∧k=X.N.B+i∧qX (s.D i).ρ l
def sn (k:Nat) (l:Loc):Prop:=∃b,lq b l∧((∃i,i<X.N.n∧k=X.N.B+i∧(X.J i).S b)∨(k=X.N.B+X.N.n∧X.Sc b))
def KP (s:St) (k:Nat):Prop:=(X.N.B≤k∧k<X.N.B+s.j)∨(s.tag≠.sp∧k=X.N.B+X.N.n)
def wZ:Tg→Bool
 | .sp=>true
 |_=>false
def nX (s:St):Nat:=if wZ s.tag then 0 else X.N.B+X.N.n
structure rA (s:St) (w:World):Prop where
 lt:∀i,i<X.N.n→∀b p,(s.D i).ρ b=some p→p.block<w.heap.size∧¬s.V p.block∧p.block≠X.N.Wg∧p.block≠X.N.CB∧p.block≠X.N.CF
 apart:∀i i',i<X.N.n→i'<X.N.n→i≠i'→qD (s.D i).ρ (s.D i').ρ
 oU:∀i,i<X.N.n→∀b p l,(s.D i).ρ b=some p→lq p.block l→¬X.Shun l
 v:∀b,s.V b→b<w.heap.size∧b≠X.N.Wg∧b≠X.N.CB∧b≠X.N.CF∧∀l,lq b l→¬X.Shun l
 wv:∀b,s.W b→s.V b
 sj:∀i,i<s.j→∀b,(X.J i).S b→s.V b∧¬s.W b
 sc:s.tag≠.sp→∀b,X.Sc b→s.V b∧¬s.W b
 kJ:X.N.Wg<w.heap.size∧X.N.CB<w.heap.size∧X.N.CF<w.heap.size
 old:∀l b,X.Shun l→lq b l→b<w.heap.size
structure Acq (t:Trace) (q:Nat):Prop where
 act:t.act? q=some (.mark (.acquire (stA X.N.Wg)))
 g:t.g? q=some (X.N.B+X.N.n)
 heard:t.heard q
 all:∀i,i<X.N.n→∃r,Rl X.N t (X.N.B+i) r∧r<q
structure uM (t:Trace) (q p:Nat):Prop where
 acq:Acq X t q
 lt:q<p
 act:t.act? p=some (.close X.N.CF)
 g:t.g? p=some (X.N.B+X.N.n)
 heard:t.heard p
 after:∀(i:Nat) op,p<i→t[i]?=some op→op.g=X.N.B+X.N.n→op.act.touch? = none
structure kO (s:St) (n:Nat) (gs:Array Goroutine) (w:World) (t:Trace):Prop where
 size:(s.tag=.sp→gs.size=X.N.B+s.j)∧(s.tag≠.sp→gs.size=X.N.B+X.N.n+1∧s.j=X.N.n∧s.p=0)
 jn:s.j+s.p≤X.N.n
 lv:∀i g,0<i→i<X.N.B→gs[i]?=some g→QuitsD X.P (s.q i) (Deaf t i) g
 wk:∀i,i<s.j→∃g,gs[X.N.B+i]?=some g∧WSit X.P X.N X.pk X.m0 X.t0 X.Gt X.J i n (s.D i) g w∧Deaf t (X.N.B+i)=(s.D i).deaf
 un:∀i,s.j≤i→i<X.N.n→(s.D i).ρ=(X.J i).ρ∧HR (X.J i).ρ (X.J i).wS w
 cl:s.tag≠.sp→∃g,gs[X.N.B+X.N.n]?=some g∧CSit X.P X.N X.Sc X.mw X.mC s.tag s.fc s.dc g w∧Deaf t (X.N.B+X.N.n)=s.dc
 hear:Deaf t 0=s.d0
 fresh:∀j,gs.size≤j→Deaf t j=0
 wg:∃st sm,WgAt X.N.ty X.N.Wg w st sm∧Mode s.j s.p s.D s.tag st sm
 back:w.heap[X.N.CB]?=some (.chan X.N.n (s.wait.map fun i=>(X.J i).msg (s.D i).v).toArray false (s.got.length+s.wait.length) s.got.length false)
 nodup:(s.got++s.wait).Nodup
 list:∀i,i∈s.got++s.wait↔i<s.j∧(s.D i).stage≤7
 fin:w.heap[X.N.CF]?=some (.chan 0 #[] (uL s.tag) 0 0 false)
 tr:PT (oq X.N) X.Shun (pj X s) (sn X) (KP X s) (nX X s) t
 low:∀op∈t,op.act.low w.heap.size
 norel:NoRelease (stA X.N.Wg) t
 rel:∀i,i<s.j→(s.D i).stage≤6→∃r,Rl X.N t (X.N.B+i) r
 acq:s.tag=.cl→∃q,Acq X t q
 cls:s.tag=.qt→∃q p,uM X t q p
 ko:rA X s w
 base:Scope.base≤w.heap.size
 os:w.os=X.m0.world.os
def meas (s:St):Nat×Nat:=(phi X.N.n (Vc s.j s.D) s.tag+Ssum s.j s.D,s.fc+2*(Fsum s.j s.D+sumTo X.N.B s.q))
end
section
variable {X:Ctx} {s:St} {w:World}
theorem rA.xd(Y:X.Good)(h:rA X s w)(hj:s.j≤X.N.n):Apart (oq X.N) X.Shun (pj X s) (sn X) (KP X s) where
 own:=fun k k' l _ _ ⟨i,G,e,A⟩ ⟨i',C,I,U⟩=>by
  by_cases K:i=i'
  ·subst K;exact e.trans I.symm
  ·exact(qD.loc Y.sync (h.apart i i' G C K) A U).elim
 ownRd:=fun k k' l _ M ⟨i,G,e,A⟩ ⟨b,hb,E⟩=>by
  obtain⟨y,p,O,H⟩:=A.block;obtain rfl:=hb.uniq H;have W:s.V p.block:=by
   rcases E with⟨i',C,I,r⟩|⟨I,r⟩
   ·rcases M with⟨k1,k2⟩|⟨k1,k2⟩
    ·exact(h.sj i' (by omega) _ r).1
    ·omega
   ·rcases M with⟨k1,k2⟩|⟨k1,k2⟩
    ·omega
    ·exact(h.sc k1 _ r).1
  exact(h.lt i G y p O).2.1 W
 ownSh:=fun k l _ ⟨i,G,e,A⟩=>by
  obtain⟨y,p,O,H⟩:=A.block;have:=h.lt i G y p O;refine⟨fun E=>?_,h.oU i G y p l O H⟩;rcases E.block with hb|hb|hb
  ·exact this.2.2.1 (H.uniq hb)
  ·exact this.2.2.2.1 (H.uniq hb)
  ·exact this.2.2.2.2 (H.uniq hb)
 rdSh:=fun k l Q ⟨b,hb,E⟩=>by
  have W:s.V b:=by
   rcases E with⟨i',C,I,r⟩|⟨I,r⟩
   ·rcases Q with⟨k1,k2⟩|⟨k1,k2⟩
    ·exact(h.sj i' (by omega) _ r).1
    ·omega
   ·rcases Q with⟨k1,k2⟩|⟨k1,k2⟩
    ·omega
    ·exact(h.sc k1 _ r).1
  have:=h.v b W;refine⟨fun E=>?_,this.2.2.2.2 l hb⟩;rcases E.block with z|z|z
  ·exact this.2.1 (hb.uniq z)
  ·exact this.2.2.1 (hb.uniq z)
  ·exact this.2.2.2.1 (hb.uniq z)
 zero:=fun Q=>by
  have:=Y.pos;rcases Q with⟨A,_⟩|⟨_,A⟩<;>omega
 yh:=fun l Z=>Z.mem
theorem kO.at{n n':Nat}{gs:Array Goroutine}{t:Trace}(z:X.Good)(h:kO X s n gs w t)(d:Nat)(A:∀i,i<X.N.n→kI (kK X.P X.pk (X.N.B+i) X.m0 X.t0) n'=kI (kK X.P X.pk (X.N.B+i) X.m0 X.t0) n):kO X s n' gs (w.at d) t :=
 {size:=h.size,jn:=h.jn,lv:=h.lv,hear:=h.hear,fresh:=h.fresh,back:=h.back,nodup:=h.nodup,list:=h.list,fin:=h.fin,tr:=h.tr,low:=h.low,norel:=h.norel,rel:=h.rel,acq:=h.acq,cls:=h.cls,base:=h.base,os:=h.os,wg:=h.wg
  ko:=⟨h.ko.lt,h.ko.apart,h.ko.oU,h.ko.v,h.ko.wv,h.ko.sj,h.ko.sc,h.ko.kJ,h.ko.old⟩
  wk:=fun i C=>by
   obtain⟨g,e,r,y⟩:=h.wk i C;have:=h.jn;exact⟨g,e,r.rely z.sync (A i (by omega)) (RK.at w d) (Leaves.of_heap rfl) rfl,y⟩
  un:=fun i e r=>⟨(h.un i e r).1,HR.leaves z.sync (h.un i e r).2 (Leaves.of_heap rfl) rfl⟩
  cl:=fun E=>by
   obtain⟨g,e,r,y⟩:=h.cl E;exact⟨g,e,r.rely (RK.at w d),y⟩ }
end
end
section
open Go.Conc Go.ConcN Go.Proofs.YtjnkcibpkkjniaaGreat.kx
open Go.ConcR (KK wgBlock WgAt stA smA rd wr mk DC0)
variable [Scope]
variable {B b:Nat} {op:MemOp}
theorem Kk{x:Touch}(h:op.act.low B)(hx:op.act.touch? = some x)(hb:lq b x.loc):b<B:=by
 obtain⟨g,fn,pos,act⟩:=op
 cases act with
 |access e =>
  simp only[MemAct.touch?,dW]at hx;subst hx;obtain⟨loc,wr,r⟩:=e
  cases loc<;>first|exact hb.elim|(simp only[lq]at hb;subst hb;exact h)
 |mark m=>cases m<;>simp only[MemAct.touch?]at hx<;>first|(cases hx;simp only[lq]at hb;subst hb;exact h)|cases hx
 |_=>simp only[MemAct.touch?]at hx;cases hx
theorem Kl{t:Trace}(h:∀op∈t,op.act.low B)(hb:B≤b){l:Loc}(y:lq b l):∀i a,touchAt t i=some a→a.loc≠l:=by
 intro i a z e;obtain⟨x,hx,r⟩:=fI z;have:=Kk (h x (mem_of_getElem? hx)) r (b:=b) (e▸y);omega
theorem oc{g:Nat}{fn:FuncId}{pos:String}{es:Array Event}(h:op∈MemOp.ofEvents g fn pos es):op.g=g∧∃e∈es,op.act=.ofEvent e:=by
 obtain⟨e,he,rfl⟩:=eX h;exact⟨rfl,e,he,rfl⟩
theorem yo{e:Event}{a:Addr}(h:e.loc≠.mark (.release a)):MemAct.ofEvent e≠.mark (.release a):=by
 obtain⟨loc,wr,r⟩:=e
 cases loc with
 |mark m=>intro k;apply h;simpa[MemAct.ofEvent]using k
 |obj c=>cases wr<;>cases r<;>simp[MemAct.ofEvent]
 |_=>simp[MemAct.ofEvent]
section
variable {X:Ctx} {s:St} {n:Nat} {gs:Array Goroutine} {w w':World} {t:Trace}
theorem Mode.Df{j p:Nat}{D:Nat→WD}{tag:Tg}{st sm:Int}(h:Mode j p D tag st sm)(r:isFin tag):AllQuit j D:=by
 cases h with
 |opn e _ _=>cases tag<;>first|exact r.elim|exact e.elim
 |reg e=>cases tag<;>first|exact r.elim|exact e.elim
 |last L e=>cases tag<;>first|exact r.elim|exact e.elim
 |sema e=>rcases e with rfl|rfl<;>exact r.elim
 |fin _ _ h=>exact h
theorem Acq.app{q:Nat}{u:Trace}(h:Acq X t q)(hu:∀i r,i<X.N.n→Rl X.N t (X.N.B+i) r→Rl X.N (t++u) (X.N.B+i) r):Acq X (t++u) q:=by
 have e:=lt_of_act? h.act;exact⟨by rw[act?_old e];exact h.act,by rw[g?_old e];exact h.g,(heard_old e).2 h.heard,fun i y=>by
  obtain⟨r,z,A⟩:=h.all i y;exact⟨r,hu i r y z,A⟩⟩
theorem uM.app{q p:Nat}{u:Trace}(h:uM X t q p)(hu:∀i r,i<X.N.n→Rl X.N t (X.N.B+i) r→Rl X.N (t++u) (X.N.B+i) r)(A:∀op∈u,op.g=X.N.B+X.N.n→op.act.touch? = none):uM X (t++u) q p:=by
 have hp:=lt_of_act? h.act;exact⟨h.acq.app hu,h.lt,by rw[act?_old hp];exact h.act,by rw[g?_old hp];exact h.g,(heard_old hp).2 h.heard,fun i op C E z=>by
  rcases fJ E with⟨_,e⟩|⟨_,y⟩
  ·exact h.after i op C e z
  ·exact A op y z⟩
variable {i:Nat} {x:WD} {tag':Tg}
theorem rA.upd(h:rA X s w)(U:i<X.N.n)(O:tag'≠.sp→s.tag≠.sp){G:Nat}(A:Grow (s.D i).ρ w x.ρ)(H:∀b p,x.ρ b=some p→p.block<w'.heap.size)(hsz:w.heap.size≤w'.heap.size):rA X { s with D:=upd s.D i x,tag:=tag',fc:=G } w':=by
 refine⟨fun i' r b p hb=>?_,fun i1 i2 C E y=>?_,fun i' r b p l hb z I=>?_,fun b hb=>?_,h.wv,h.sj,fun k=>h.sc (O k),⟨dF h.kJ.1 hsz,dF h.kJ.2.1 hsz,dF h.kJ.2.2 hsz⟩,fun l b z hb=>dF (h.old l b z hb) hsz⟩
 ·by_cases e:i'=i
  ·subst e;simp only[fl]at hb;refine⟨H b p hb,?_⟩;rcases A.new b p hb with k|⟨_,k⟩
   ·exact(h.lt i' r b p k).2
   ·refine⟨fun Q=>?_,?_,?_,?_⟩
    ·have:=(h.v _ Q).1;omega
    ·have:=h.kJ.1;omega
    ·have:=h.kJ.2.1;omega
    ·have:=h.kJ.2.2;omega
  ·simp only[fp s.D x e]at hb;have:=h.lt i' r b p hb;exact⟨dF this.1 hsz,this.2⟩
 ·have old:∀i',i'<X.N.n→∀b p,(s.D i').ρ b=some p→p.block<w.heap.size:=fun i' r b p hb=>(h.lt i' r b p hb).1
  by_cases K:i1=i
  ·subst K;simp only[fl,fp s.D x (dJ y)];exact Grow.apart A (h.apart i1 i2 C E y) (old i2 E)
  ·by_cases M:i2=i
   ·subst M;simp only[fl,fp s.D x K];exact(Grow.apart A (h.apart i2 i1 E C (dJ y)) (old i1 C)).symm
   ·simp only[fp s.D x K,fp s.D x M];exact h.apart i1 i2 C E y
 ·by_cases e:i'=i
  ·subst e;simp only[fl]at hb;rcases A.new b p hb with k|⟨_,k⟩
   ·exact h.oU i' r b p l k z I
   ·have:=h.old l _ I z;omega
  ·simp only[fp s.D x e]at hb;exact h.oU i' r b p l hb z I
 ·have:=h.v b hb;exact⟨dF this.1 hsz,this.2⟩
def rB (s s':St):Prop:=s'.j=s.j∧s'.p=s.p∧s'.d0=s.d0∧s'.V=s.V∧s'.W=s.W∧(s'.tag=s.tag∨(s.tag=.blk∧s'.tag=.w3))∧s'.dc=s.dc∧∀i,i<s.j→(s.D i).stage≤7→(s'.D i).v=(s.D i).v
theorem kO.closer(z:X.Good)(h:kO X s n gs w t)(A:∀b,s.V b→w'.heap[b]?=w.heap[b]?)(C:WgLive X.N.ty X.N.Wg w')(g g':Goroutine):∃tag' r,(s.tag≠.sp→∃a,gs[X.N.B+X.N.n]?=some a∧CSit X.P X.N X.Sc X.mw X.mC tag' r s.dc (woken X.P g g' w' a) w'∧Deaf t (X.N.B+X.N.n)=s.dc)∧r≤s.fc+1∧(tag'=s.tag∨(s.tag=.blk∧tag'=.w3))∧(mayWake X.P g=true→g'.status=.running→tag'≠.blk):=by
 by_cases y:s.tag=.sp
 ·exact⟨s.tag,s.fc,fun e=>absurd y e,by omega,.inl rfl,fun _ _ e=>by rw[y]at e;cases e⟩
 ·obtain⟨a,E,G,H⟩:=h.cl y;obtain⟨tag',I,k1,k2,K,M⟩:=G.wokenBy z.tO ⟨fun b hb=>A b (h.ko.sc y b hb).1,fun _=>C⟩ g g';exact⟨tag',I,fun _=>⟨a,E,k1,H⟩,k2,K,M⟩
theorem pn(h:tag'=s.tag∨(s.tag=.blk∧tag'=.w3)):tag'=.sp↔s.tag=.sp:=by
 rcases h with rfl|⟨h,rfl⟩
 ·exact Iff.rfl
 ·rw[h];simp
theorem Af(h:tag'=s.tag∨(s.tag=.blk∧tag'=.w3)):uL tag'=uL s.tag:=by
 rcases h with rfl|⟨h,rfl⟩
 ·rfl
 ·rw[h];rfl
theorem kO.worker(hX:X.Good)(h:kO X s n gs w t)(hi:i<s.j){g g':Goroutine}{es:Array Event}{st' sm':Int}(hg:gs[X.N.B+i]?=some g)(hs:WSit X.P X.N X.pk X.m0 X.t0 X.Gt X.J i (n+1) x g' w')(hn:∀i',i'<X.N.n→i'≠i→kI (kK X.P X.pk (X.N.B+i') X.m0 X.t0) (n+1)=kI (kK X.P X.pk (X.N.B+i') X.m0 X.t0) n)(hsz:w.heap.size≤w'.heap.size)(W:w'.os=w.os)(hV:∀b,s.V b→w'.heap[b]?=w.heap[b]?)(al:w'.heap[X.N.CB]?=w.heap[X.N.CB]?)(am:w'.heap[X.N.CF]?=w.heap[X.N.CF]?)(hL:∀i',i'<X.N.n→i'≠i→Leaves (s.D i').ρ w w')(Y:Grow (s.D i).ρ w x.ρ)(an:∀b p,x.ρ b=some p→p.block<w'.heap.size)(ah:WgAt X.N.ty X.N.Wg w' st' sm')(Z:∀tag',(tag'=s.tag∨(s.tag=.blk∧tag'=.w3))→(mayWake X.P g=true→g'.status=.running→tag'≠.blk)→Mode s.j s.p (upd s.D i x) tag' st' sm')(ao:∀op∈MemOp.ofEvents (X.N.B+i) g.frame.fn g.frame.place es,∀a,op.act.touch? = some a→a.loc.isMemory=true→(oq X.N a.loc∧a.kind≠.plain∧a.kind≠.said)∨qX x.ρ a.loc∨(∃b,lq b a.loc∧(X.J i).S b∧a.write=false))(ai:∀e∈es,(MemAct.ofEvent e).low w'.heap.size)(ap:∀e∈es,e.loc≠.mark (.release (stA X.N.Wg)))(aa:deafBehind (s.D i).deaf es=x.deaf)(hrel:(s.D i).stage≤6→∀r,Rl X.N t (X.N.B+i) r→Rl X.N (t++MemOp.ofEvents (X.N.B+i) g.frame.fn g.frame.place es) (X.N.B+i) r)(ab:x.stage≤6→(s.D i).stage≤6∨∃r,Rl X.N (t++MemOp.ofEvents (X.N.B+i) g.frame.fn g.frame.place es) (X.N.B+i) r)(ad:x.stage≤7↔(s.D i).stage≤7)(U:(s.D i).stage≤7→x.v=(s.D i).v)(ae:(x.stage<(s.D i).stage∧cnt x≤cnt (s.D i))∨(x.stage=(s.D i).stage∧x.fuel<(s.D i).fuel)):∃s',kO X s' (n+1) ((gs.map (woken X.P g g' w')).setIfInBounds (X.N.B+i) g') w' (t++MemOp.ofEvents (X.N.B+i) g.frame.fn g.frame.place es)∧Lt2 (meas X s') (meas X s)∧rB s s'∧s'.got=s.got∧s'.wait=s.wait:=by
 have aw:=h.jn;have af:i<X.N.n:=by omega
 have I:WgLive X.N.ty X.N.Wg w':=⟨_,_,ah⟩;obtain⟨tag',H,aq,ax,C,ar⟩:=h.closer hX hV I g g';have aj:X.N.B+i<gs.size:=(dv.1 hg).1;have hB:=hX.pos;have M:∀op∈MemOp.ofEvents (X.N.B+i) g.frame.fn g.frame.place es,op.g=X.N.B+i:=fun op E=>(oc E).1
 have au:∀i',i'<s.j→RK X.N.ty X.N.Wg (X.J i').S w w':=fun i' z=>⟨fun b hb=>hV b (h.ko.sj i' z b hb).1,fun _=>I⟩
 have hz:rA X { s with D:=upd s.D i x,tag:=tag',fc:=H } w':=h.ko.upd af (fun e k=>e ((pn C).2 k)) Y an hsz;have G:∀k,k≠X.N.B+i→Deaf (t++MemOp.ofEvents (X.N.B+i) g.frame.fn g.frame.place es) k=Deaf t k:=fun k hk=>eU t (dJ hk) _ M
 have hK:∀k,KP X { s with D:=upd s.D i x,tag:=tag',fc:=H } k↔KP X s k:=fun k=>by
  unfold KP;simp only[ne_eq,pn C]
 have ag:∀i' r,i'<X.N.n→Rl X.N t (X.N.B+i') r→((s.D i).stage≤6∨i'≠i)→Rl X.N (t++MemOp.ofEvents (X.N.B+i) g.frame.fn g.frame.place es) (X.N.B+i') r:=fun i' r z hr hc=>by
  by_cases e:i'=i
  ·subst e;exact hrel (hc.resolve_right (fun k=>k rfl)) r hr
  ·exact hr.appNot fun op E=>by rw[M op E];omega
 refine⟨{ s with D:=upd s.D i x,tag:=tag',fc:=H },⟨?_,h.jn,fun i' g1 h0 h1 h2=>?_,fun i' z=>?_,fun i' h1 h2=>?_,fun ht=>?_,?_,fun j hj=>?_,⟨st',sm',ah,Z tag' C ar⟩,?_,h.nodup,fun i'=>?_,?_,?_,?_,?_,fun i' z O=>?_,fun ht=>?_,fun ht=>?_,hz,dE h.base hsz,W.trans h.os⟩,?_,⟨rfl,rfl,rfl,rfl,rfl,C,rfl,fun i' _ k=>by
   by_cases e:i'=i
   ·subst e;simp only[fl];exact U k
   ·simp only[fp s.D x e]⟩,rfl,rfl⟩
 ·simp only[gK,gL];exact⟨fun e=>h.size.1 ((pn C).1 e),fun e=>h.size.2 fun k=>e ((pn C).2 k)⟩
 ·rw[gM _ _ _ _ (by omega)]at h2;obtain⟨y,hy,rfl⟩:=eo.1 h2;have hq:=h.lv i' y h0 h1 hy;rw[eT hq,G i' (by omega)];exact hq
 ·have ak:i'<s.j:=z
  by_cases e:i'=i
  ·subst e;refine⟨g',by rw[gN _ _ _ aj],by simp only[fl];exact hs,?_⟩;obtain⟨g1,e1,_,e3⟩:=h.wk i' z;rw[fo,e3,aa];simp only[fl]
  ·obtain⟨g1,e1,e2,e3⟩:=h.wk i' z;refine⟨g1,by rw[gM _ _ _ _ (by omega),e1,dM,e2.woken],?_,by rw[G _ (by omega),e3];simp only[fp s.D x e]⟩;simp only[fp s.D x e];exact e2.rely hX.sync (hn i' (by omega) e) (au i' z) (hL i' (by omega) e) W
 ·have e:i'≠i:=by have:s.j≤i':=h1;omega
  simp only[fp s.D x e];have hu:=h.un i' h1 h2;have hle:=hL i' h2 e;rw[hu.1]at hle;exact⟨hu.1,HR.leaves hX.sync hu.2 hle W⟩
 ·obtain⟨a,k1,k2,k3⟩:=aq fun k=>ht ((pn C).2 k)
  refine⟨_,by rw[gM _ _ _ _ (by omega),k1];rfl,k2,?_⟩;rw[G _ (by omega)];exact k3
 ·rw[G 0 (by omega)];exact h.hear
 ·have av:gs.size≤j:=by simpa using hj
  rw[G j (by omega)];exact h.fresh j av
 ·rw[al,h.back];have Q:(s.wait.map fun i'=>(X.J i').msg (upd s.D i x i').v)=s.wait.map fun i'=>(X.J i').msg (s.D i').v:=by
   refine gO fun i' z=>?_
   by_cases e:i'=i
   ·subst e;rw[fl,U ((h.list i').1 (gP _ z)).2]
   ·rw[fp s.D x e]
  rw[Q]
 ·rw[h.list]
  by_cases e:i'=i
  ·subst e;simp only[fl,ad]
  ·simp only[fp s.D x e]
 ·rw[am,h.fin,←Af C]
 ·have g1:PT (oq X.N) X.Shun (pj X { s with D:=upd s.D i x,tag:=tag',fc:=H }) (sn X) (KP X s) (nX X s) t:=by
   refine h.tr.grow (fun k l hk ⟨i',z,e,Q⟩=>⟨i',z,e,?_⟩) (fun k l hk ⟨i',z,e,Q⟩=>?_)
   ·by_cases e':i'=i
    ·subst e';simp only[fl];exact Q.mono Y.le
    ·simp only[fp s.D x e'];exact Q
   ·by_cases e':i'=i
    ·subst e';simp only[fl]at Q;rcases Grow.loc Y Q with k1|⟨b,k1,k2⟩
     ·exact .inl ⟨i',z,e,k1⟩
     ·exact .inr (Kl h.low k2 k1)
    ·simp only[fp s.D x e']at Q;exact .inl ⟨i',z,e,Q⟩
  have eK:KP X { s with D:=upd s.D i x,tag:=tag',fc:=H }=KP X s:=funext fun k=>propext (hK k)
  have ec:nX X { s with D:=upd s.D i x,tag:=tag',fc:=H }=nX X s:=by
   unfold nX;rcases C with e|⟨e1,e2⟩
   ·simp only[e]
   ·simp only[e1,e2,wZ]
  rw[eK,ec];have A:=hz.xd hX (show s.j≤X.N.n by omega);rw[eK]at A;refine g1.CV A (k:=X.N.B+i) (.inl ⟨by omega,by omega⟩) fun op E=>⟨M op E,fun a ha hm=>?_⟩
  rcases ao op E a ha hm with⟨k1,k2,k3⟩|k1|⟨b,k1,k2,k3⟩
  ·exact .inl ⟨k1,k2,fun e=>absurd e k3⟩
  ·exact .inr (.inl ⟨i,af,rfl,by simp only[fl];exact k1⟩)
  ·exact .inr (.inr ⟨⟨b,k1,.inl ⟨i,af,rfl,k2⟩⟩,k3⟩)
 ·intro op E;rcases dS.1 E with k|k
  ·exact MemAct.low_mono hsz (h.low op k)
  ·obtain⟨_,e,he,ha⟩:=oc k;rw[ha];exact ai e he
 ·refine h.norel.app fun op E=>?_
  obtain⟨_,e,he,ha⟩:=oc E;rw[ha];exact yo (ap e he)
 ·have ak:i'<s.j:=z
  by_cases e:i'=i
  ·subst e;simp only[fl]at O;rcases ab O with k|k
   ·obtain⟨r,hr⟩:=h.rel i' z k;exact⟨r,hrel k r hr⟩
   ·exact k
  ·simp only[fp s.D x e]at O;obtain⟨r,hr⟩:=h.rel i' z O;exact⟨r,ag i' r (by omega) hr (.inr e)⟩
 ·have K:s.tag=.cl:=by
   rcases C with e|⟨_,e⟩
   ·exact e.symm.trans ht
   ·rw[show tag'=Tg.cl from ht]at e;cases e
  obtain⟨q,hq⟩:=h.acq K;obtain⟨_,_,_,hm⟩:=h.wg;have:=hm.Df (by rw[K];exact trivial) i hi;exact⟨q,hq.app fun i' r z hr=>ag i' r z hr (.inl (by omega))⟩
 ·have K:s.tag=.qt:=by
   rcases C with e|⟨_,e⟩
   ·exact e.symm.trans ht
   ·rw[show tag'=Tg.qt from ht]at e;cases e
  obtain⟨q,p,hq⟩:=h.cls K;obtain⟨_,_,_,hm⟩:=h.wg;have:=hm.Df (by rw[K];exact trivial) i hi;exact⟨q,p,hq.app (fun i' r z hr=>ag i' r z hr (.inl (by omega))) fun op E hg=>by rw[M op E]at hg;omega⟩
 ·have e1:=fh s.D x cnt hi;have e2:=fh s.D x WD.stage hi;have e3:=fh s.D x WD.fuel hi;unfold meas;simp only;rw[phi_retag X.N.n _ C];simp only[Vc,Ssum,Fsum]at *;rcases ae with⟨h1,h2⟩|⟨h1,h2⟩
  ·refine Prod.Lex.left _ _ ?_;have:=phi_mono X.N.n (v':=sumTo s.j fun a=>cnt (upd s.D i x a)) (v:=sumTo s.j fun a=>cnt (s.D a)) (by omega) s.tag;omega
  ·have ec:cnt x=cnt (s.D i):=by simp only[cnt,h1]
   have ev:(sumTo s.j fun a=>cnt (upd s.D i x a))=sumTo s.j fun a=>cnt (s.D a):=by omega
   have lW:(sumTo s.j fun a=>(upd s.D i x a).stage)=sumTo s.j fun a=>(s.D a).stage:=by omega
   rw[ev,lW];refine Prod.Lex.right _ ?_;omega
end
end
section
open Go.Conc Go.ConcN Go.Proofs.YtjnkcibpkkjniaaGreat.kx
open Go.ConcR (KK wgBlock WgAt stA smA rd wr mk DC0)
variable [Scope]
theorem rC{ty:TypeId}{Wg:Nat}{w w':World}{st sm:Int}(h:WgAt ty Wg w st sm)(e:w'.heap[Wg]?=w.heap[Wg]?):WgAt ty Wg w' st sm:=e.trans h
theorem sq(w:World)(a:Addr)(v:Value){b:Nat}(h:b≠a.block):(w.setCell a v).heap[b]?=w.heap[b]?:=by rw[vp,dt h]
theorem xe{es:Array Event}(h:∀e∈es,e.loc≠.mark .disable∧e.loc≠.mark .enable)(d:Nat):deafBehind d es=d:=Go.Conc.deafBehind_still h d
section
variable {X:Ctx} {s:St} {n:Nat} {gs:Array Goroutine} {w w':World} {t:Trace}
variable {es:Array Event}
theorem Rl.Ag{N:nj}{k r:Nat}(h:Rl N t k r)(fn:FuncId)(pos:String)(y:∀e∈es,(MemAct.ofEvent e).touch? = none):Rl N (t++MemOp.ofEvents k fn pos es) k r :=
 h.appOwn fn pos es fun j e he=>.inl (y e (dC he))
variable {i:Nat} {g g':Goroutine} {x:WD} {st' sm':Int}
theorem kO.quiet(O:X.Good)(h:kO X s n gs w t)(hi:i<s.j)(hg:gs[X.N.B+i]?=some g)(hs:WSit X.P X.N X.pk X.m0 X.t0 X.Gt X.J i (n+1) x g' w')(hn:∀i',i'<X.N.n→i'≠i→kI (kK X.P X.pk (X.N.B+i') X.m0 X.t0) (n+1)=kI (kK X.P X.pk (X.N.B+i') X.m0 X.t0) n)(y:∀b,b≠X.N.Wg→w'.heap[b]?=w.heap[b]?)(hsz:w'.heap.size=w.heap.size)(Q:w'.os=w.os)(I:x.ρ=(s.D i).ρ)(U:WgAt X.N.ty X.N.Wg w' st' sm')(z:∀tag',(tag'=s.tag∨(s.tag=.blk∧tag'=.w3))→(mayWake X.P g=true→g'.status=.running→tag'≠.blk)→Mode s.j s.p (upd s.D i x) tag' st' sm')(V:∀e∈es,(MemAct.ofEvent e).touch? = none∨(∃a wr,e=⟨.cell a,wr,true⟩∧a.block=X.N.Wg)∨(∃a:Addr,e=⟨.cell a,false,false⟩∧(X.J i).S a.block))(K:∀e∈es,(MemAct.ofEvent e).low w.heap.size)(W:∀e∈es,e.loc≠.mark (.release (stA X.N.Wg)))(A:deafBehind (s.D i).deaf es=x.deaf)(hrel:(s.D i).stage≤6→∀r,Rl X.N t (X.N.B+i) r→Rl X.N (t++MemOp.ofEvents (X.N.B+i) g.frame.fn g.frame.place es) (X.N.B+i) r)(C:x.stage≤6→(s.D i).stage≤6∨∃r,Rl X.N (t++MemOp.ofEvents (X.N.B+i) g.frame.fn g.frame.place es) (X.N.B+i) r)(E:x.stage≤7↔(s.D i).stage≤7)(M:(s.D i).stage≤7→x.v=(s.D i).v)(G:(x.stage<(s.D i).stage∧cnt x≤cnt (s.D i))∨(x.stage=(s.D i).stage∧x.fuel<(s.D i).fuel)):∃s',kO X s' (n+1) ((gs.map (woken X.P g g' w')).setIfInBounds (X.N.B+i) g') w' (t++MemOp.ofEvents (X.N.B+i) g.frame.fn g.frame.place es)∧Lt2 (meas X s') (meas X s)∧rB s s'∧s'.got=s.got∧s'.wait=s.wait:=by
 have Y:i<X.N.n:=by have:=h.jn;omega
 refine h.worker O hi hg hs hn (by omega) Q (fun b hb=>y b (h.ko.v b hb).2.1) (y _ (dJ O.kJ.1)) (y _ (dJ O.kJ.2.1))
  (fun i' h1 h2=>Leaves.block fun b p hb=>y _ (h.ko.lt i' h1 b p hb).2.2.1) (by rw[I];exact Grow.refl _ _) (fun b p hb=>by rw[I]at hb;rw[hsz];exact(h.ko.lt i Y b p hb).1) U z
  (fun op Z a H hm=>?_) (fun e he=>by rw[hsz];exact K e he) W A hrel C E M G
 obtain⟨_,e,he,aa⟩:=oc Z;rw[aa]at H;rcases V e he with k|⟨ad,wr,rfl,k⟩|⟨ad,rfl,k⟩
 ·rw[k]at H;cases H
 ·have:a=⟨.cell ad,wr,.atomic⟩:=by cases wr<;>simp[MemAct.ofEvent,MemAct.touch?]at H<;>exact H.symm
  subst this;exact .inl ⟨.inl ⟨ad,rfl,k⟩,by simp,by simp⟩
 ·have:a=⟨.cell ad,false,.plain⟩:=by simp[MemAct.ofEvent,MemAct.touch?]at H;exact H.symm
  subst this;exact .inr (.inr ⟨ad.block,rfl,k,rfl⟩)
theorem kO.reads(I:X.Good)(h:kO X s n gs w t)(E:i<s.j)(K:gs[X.N.B+i]?=some g)(M:WSit X.P X.N X.pk X.m0 X.t0 X.Gt X.J i (n+1) x g' w')(O:∀i',i'<X.N.n→i'≠i→kI (kK X.P X.pk (X.N.B+i') X.m0 X.t0) (n+1)=kI (kK X.P X.pk (X.N.B+i') X.m0 X.t0) n)(hd:DQ (X.J i).S w w' es)(G:x.ρ=(s.D i).ρ)(V:7≤(s.D i).stage)(Q:7≤x.stage)(y:x.deaf=(s.D i).deaf)(z:x.stage≤7↔(s.D i).stage≤7)(C:(s.D i).stage≤7→x.v=(s.D i).v)(A:(x.stage<(s.D i).stage∧cnt x≤cnt (s.D i))∨(x.stage=(s.D i).stage∧x.fuel<(s.D i).fuel)):∃s',kO X s' (n+1) ((gs.map (woken X.P g g' w')).setIfInBounds (X.N.B+i) g') w' (t++MemOp.ofEvents (X.N.B+i) g.frame.fn g.frame.place es)∧Lt2 (meas X s') (meas X s)∧rB s s'∧s'.got=s.got∧s'.wait=s.wait:=by
 obtain⟨⟨d,rfl⟩,r⟩:=hd;obtain⟨st,sm,hw,hm⟩:=h.wg;have H:Mode s.j s.p (upd s.D i x) s.tag st sm:=hm.counted E (by omega) (by omega);refine h.quiet I E K M O (fun _ _=>rfl) rfl rfl G (st':=st) (sm':=sm) hw (fun tag' U _=>H.retag U) (fun e he=>?_) (fun e he=>?_) (fun e he=>?_) ?_ (fun k=>by omega) (fun k=>by omega) z C A
 ·obtain⟨a,rfl,hS⟩:=r e he;exact .inr (.inr ⟨a,rfl,hS⟩)
 ·obtain⟨a,rfl,hS⟩:=r e he;exact(h.ko.v _ (h.ko.sj i E _ hS).1).1
 ·obtain⟨a,rfl,hS⟩:=r e he;simp
 ·rw[y];refine xe (fun e he=>?_) _;obtain⟨a,rfl,hS⟩:=r e he;simp
theorem kO.idle(H:X.Good)(h:kO X s n gs w t)(I:i<s.j)(K:gs[X.N.B+i]?=some g)(M:WSit X.P X.N X.pk X.m0 X.t0 X.Gt X.J i (n+1) x g' w')(O:∀i',i'<X.N.n→i'≠i→kI (kK X.P X.pk (X.N.B+i') X.m0 X.t0) (n+1)=kI (kK X.P X.pk (X.N.B+i') X.m0 X.t0) n)(hd:DC0 w w' es)(E:x.ρ=(s.D i).ρ)(y:x.stage=(s.D i).stage)(z:x.deaf=(s.D i).deaf)(C:x.v=(s.D i).v)(A:x.fuel<(s.D i).fuel):∃s',kO X s' (n+1) ((gs.map (woken X.P g g' w')).setIfInBounds (X.N.B+i) g') w' (t++MemOp.ofEvents (X.N.B+i) g.frame.fn g.frame.place es)∧Lt2 (meas X s') (meas X s)∧rB s s'∧s'.got=s.got∧s'.wait=s.wait:=by
 obtain⟨rfl,rfl⟩:=hd;obtain⟨st,sm,hw,hm⟩:=h.wg;have G:Mode s.j s.p (upd s.D i x) s.tag st sm:=hm.congr fun a _=>by
  by_cases e:a=i
  ·subst e;rw[fl,y]
  ·rw[fp s.D x e]
 refine h.quiet H I K M O (fun _ _=>rfl) rfl rfl E (st':=st) (sm':=sm) hw (fun tag' Q _=>G.retag Q) (by simp) (by simp) (by simp) ?_ (fun k r hr=>hr.Ag _ _ (by simp)) (fun k=>.inl (by omega)) (by rw[y]) (fun _=>C) (.inr ⟨y,A⟩);rw[z];rfl
theorem Mode.add{j p:Nat}{D:Nat→WD}{tag:Tg}{st sm:Int}(hm:Mode j p D tag st sm)(y:i<j)(K:(D i).stage=5):sm=0∧∃v wt:Nat,wt≤1∧v<j+p∧st=((v:Int)+1)*KK+wt ∧
   ((v=0∧wt=1)→∀x:WD,x.stage=4→Mode j p (upd D i x) tag ((v:Int)*KK+wt) 0)∧(¬(v=0∧wt=1)→∀x:WD,x.stage=1→Mode j p (upd D i x) tag ((v:Int)*KK+wt) 0):=by
 have c1:cnt (D i)=1:=by simp[cnt,K]
 have M:1≤Vc j D:=by
  have:=le_sumTo (f:=fun i=>cnt (D i)) y;simp only[c1]at this;exact this
 have O:=Vc_le j D;have up:∀x:WD,cnt x=0→Vc j (upd D i x)=Vc j D-1:=fun x hx=>by
  have:=Vc_upd D x y;omega
 have op:OpenSt j D→∀x:WD,x.stage=1→OpenSt j (upd D i x):=fun Q x hx a A=>by
  by_cases e:a=i
  ·subst e;rw[fl];exact .inr hx
  ·rw[fp D _ e];exact Q a A
 cases hm with
 |opn C r E =>
  refine⟨rfl,Vc j D+p-1,0,by omega,by omega,?_,fun h=>absurd h.2 (by omega),fun _ x hx=>?_⟩
  ·have:((Vc j D+p-1:Nat):Int)+1=((Vc j D+p:Nat):Int):=by omega
   rw[this];simp
  ·have e:=up x (by simp[cnt,hx]);have:((Vc j D+p-1:Nat):Int)*KK+((0:Nat):Int)=((Vc j (upd D i x)+p:Nat):Int)*KK:=by rw[e];simp only[KK];omega
   rw[this];exact .opn C (op r x hx) fun vs U=>by have:=E vs U;omega
 |reg C H r E =>
  refine⟨rfl,Vc j D-1,1,by omega,by omega,?_,fun h x hx=>?_,fun h x hx=>?_⟩
  ·have:((Vc j D-1:Nat):Int)+1=((Vc j D:Nat):Int):=by omega
   rw[this];simp
  ·have I:Vc j D=1:=by omega
   have z:=others_uncounted y I c1;have:((Vc j D-1:Nat):Int)*KK+((1:Nat):Int)=if(upd D i x i).stage=2 then 0 else 1:=by rw[fl,hx,I];simp
   rw[this];refine .last i C H y (.inl (by rw[fl,hx])) fun a A e=>?_
   rw[fp D _ e];rcases r a A with k|k
   ·have:=z a A e;simp[cnt,k]at this
   ·exact k
  ·have e:=up x (by simp[cnt,hx]);have G:1≤Vc j (upd D i x):=by
    rw[e];rcases fG 1 (Vc j D)with k|k
    ·omega
    ·exact absurd ⟨by omega,rfl⟩ h
   have:((Vc j D-1:Nat):Int)*KK+((1:Nat):Int)=((Vc j (upd D i x):Nat):Int)*KK+1:=by rw[e];simp
   rw[this];exact .reg C H (op r x hx) G
 |last L _ _ r E V =>
  by_cases e:i=L
  ·subst e;omega
  ·have:=V i y e;omega
 |sema _ _ r=>have:=r i y;omega
 |fin _ _ r=>have:=r i y;omega
variable {a:Addr}
theorem uN(y:a.block=X.N.Wg)(h:es=#[rd a,wr a]∨es=#[rd a]∨es=#[wr a]∨es=semEvents a):(∀e∈es,(MemAct.ofEvent e).touch? = none∨(∃a wr,e=⟨.cell a,wr,true⟩∧a.block=X.N.Wg))∧(∀B,X.N.Wg<B→∀e∈es,(MemAct.ofEvent e).low B)∧(∀e∈es,e.loc≠.mark (.release (stA X.N.Wg)))∧deafBehind 1 es=1 ∧
   (∀j e,es[j]?=some e→(MemAct.ofEvent e).touch? = none∨((∃ad wr,e=⟨.cell ad,wr,true⟩∧ad.block=X.N.Wg)∧0<deafBehind 1 (es.extract 0 j))):=by
 have r:∀(x:Bool) B,X.N.Wg<B→(MemAct.ofEvent ⟨.cell a,x,true⟩).low B:=fun x B hB=>by
  show a.block<B;rw[y];exact hB
 rcases h with rfl|rfl|rfl|rfl
 ·refine⟨fun e he=>?_,fun B hB e he=>?_,fun e he=>?_,rfl,fun j e he=>?_⟩
  ·simp[rd,wr]at he;rcases he with rfl|rfl<;>exact .inr ⟨a,_,rfl,y⟩
  ·simp[rd,wr]at he;rcases he with rfl|rfl<;>exact r _ B hB
  ·simp[rd,wr]at he;rcases he with rfl|rfl<;>simp
  ·match j,he with
   |0,he=>simp[rd,wr]at he;subst he;exact .inr ⟨⟨a,_,rfl,y⟩,by simp[deafBehind]⟩
   |1,he=>simp[rd,wr]at he;subst he;exact .inr ⟨⟨a,_,rfl,y⟩,by simp[rd,wr,deafBehind]⟩
   |j+2,he=>simp at he
 ·refine⟨fun e he=>?_,fun B hB e he=>?_,fun e he=>?_,rfl,fun j e he=>?_⟩
  ·simp[rd]at he;subst he;exact .inr ⟨a,_,rfl,y⟩
  ·simp[rd]at he;subst he;exact r _ B hB
  ·simp[rd]at he;subst he;simp
  ·match j,he with
   |0,he=>simp[rd]at he;subst he;exact .inr ⟨⟨a,_,rfl,y⟩,by simp[deafBehind]⟩
   |j+1,he=>simp at he
 ·refine⟨fun e he=>?_,fun B hB e he=>?_,fun e he=>?_,rfl,fun j e he=>?_⟩
  ·simp[wr]at he;subst he;exact .inr ⟨a,_,rfl,y⟩
  ·simp[wr]at he;subst he;exact r _ B hB
  ·simp[wr]at he;subst he;simp
  ·match j,he with
   |0,he=>simp[wr]at he;subst he;exact .inr ⟨⟨a,_,rfl,y⟩,by simp[deafBehind]⟩
   |j+1,he=>simp at he
 ·refine⟨fun e he=>?_,fun B hB e he=>?_,fun e he=>?_,rfl,fun j e he=>?_⟩
  ·simp[semEvents]at he;rcases he with rfl|rfl|rfl|rfl
   ·exact .inl rfl
   ·exact .inr ⟨a,_,rfl,y⟩
   ·exact .inr ⟨a,_,rfl,y⟩
   ·exact .inl rfl
  ·simp[semEvents]at he;rcases he with rfl|rfl|rfl|rfl
   ·trivial
   ·exact r _ B hB
   ·exact r _ B hB
   ·trivial
  ·simp[semEvents]at he;rcases he with rfl|rfl|rfl|rfl<;>simp
  ·match j,he with
   |0,he=>simp[semEvents]at he;subst he;exact .inl rfl
   |1,he=>simp[semEvents]at he;subst he;exact .inr ⟨⟨a,_,rfl,y⟩,by simp[semEvents,deafBehind]⟩
   |2,he=>simp[semEvents]at he;subst he;exact .inr ⟨⟨a,_,rfl,y⟩,by simp[semEvents,deafBehind]⟩
   |3,he=>simp[semEvents]at he;subst he;exact .inl rfl
   |j+4,he=>simp[semEvents]at he
theorem kO.xf(U:X.Good)(h:kO X s n gs w t)(O:i<s.j)(V:gs[X.N.B+i]?=some g)(W:WSit X.P X.N X.pk X.m0 X.t0 X.Gt X.J i (n+1) x g' w')(Y:∀i',i'<X.N.n→i'≠i→kI (kK X.P X.pk (X.N.B+i') X.m0 X.t0) (n+1)=kI (kK X.P X.pk (X.N.B+i') X.m0 X.t0) n)(Q:a.block=X.N.Wg)(y:(∃v,w'=w.setCell a v)∨w'=w)(E:es=#[rd a,wr a]∨es=#[rd a]∨es=#[wr a]∨es=semEvents a)(G:x.ρ=(s.D i).ρ)(H:WgAt X.N.ty X.N.Wg w' st' sm')(z:∀tag',(tag'=s.tag∨(s.tag=.blk∧tag'=.w3))→(mayWake X.P g=true→g'.status=.running→tag'≠.blk)→Mode s.j s.p (upd s.D i x) tag' st' sm')(Z:(s.D i).stage≤6)(I:x.stage<(s.D i).stage)(hd:(s.D i).deaf=1)(K:x.deaf=1)(C:x.v=(s.D i).v):∃s',kO X s' (n+1) ((gs.map (woken X.P g g' w')).setIfInBounds (X.N.B+i) g') w' (t++MemOp.ofEvents (X.N.B+i) g.frame.fn g.frame.place es)∧Lt2 (meas X s') (meas X s)∧rB s s'∧s'.got=s.got∧s'.wait=s.wait:=by
 obtain⟨k1,k2,k3,k4,k5⟩:=uN (X:=X) Q E;have A:∀b,b≠X.N.Wg→w'.heap[b]?=w.heap[b]?:=fun b hb=>by
  rcases y with⟨v,rfl⟩|rfl
  ·rw[vp,dt (by rw[Q];exact hb)]
  ·rfl
 have hsz:w'.heap.size=w.heap.size:=by
  rcases y with⟨v,rfl⟩|rfl
  ·simp[World.setCell]
  ·rfl
 have M:w'.os=w.os:=by rcases y with⟨v,rfl⟩|rfl<;>rfl
 obtain⟨g0,aa,ab,kW⟩:=h.wk i O;refine h.quiet U O V W Y A hsz M G H z (fun e he=>(k1 e he).imp id .inl) (k2 _ h.ko.kJ.1) k3 (by rw[hd,K,k4]) (fun _ r hr=>hr.appOwn _ _ _ fun j e he=>?_) (fun _=>.inl Z) (by omega) (fun _=>C) (.inl ⟨I,?_⟩)
 ·rw[kW,hd];exact k5 j e he
 ·simp only[cnt];split<;>split<;>omega
theorem kO.turns[kD X.P][lV X.P](O:X.Good){sl:Option (Nat×Nat)}(h:kO X s n gs w t)(aj:runNT X.P n X.m0 X.t0=(.next (crowd gs w sl),t)){d:Nat}{kn:Option (Nat×Nat)}(I:i<s.j)(hg:gs[X.N.B+i]?=some g)(an:g.status=.running)(ar:X.pk (crowd gs w sl)=(X.N.B+i,d,kn))(h':kO X s n gs (w.at d) t):(∃v' ,(s.D i).stage=8∧(s.D i).v=v'∧AtSend X.P X.N (X.J i).S ((X.J i).msg v') g (w.at d)∧kx.kI (kK X.P X.pk (X.N.B+i) X.m0 X.t0) (n+1)=kx.kI (kK X.P X.pk (X.N.B+i) X.m0 X.t0) (n+1)) ∨
  ∃g' w' es s',stepG X.P false g (w.at d)=.go g' w' es∧kO X s' (n+1) ((gs.map (woken X.P g g' w')).setIfInBounds (X.N.B+i) g') w' (t++MemOp.ofEvents (X.N.B+i) g.frame.fn g.frame.place es)∧Lt2 (meas X s') (meas X s)∧rB s s'∧s'.got=s.got∧s'.wait=s.wait∧∀b,s.V b→w'.heap[b]?=w.heap[b]?:=by
 have ag:i<X.N.n:=by have:=h.jn;omega
 have hB:=O.pos;have aI:(X.N.B+i == 0)=false:=by simp;omega
 have ae:=zO (P:=X.P) (pk:=X.pk) (i0:=X.N.B+i) aj hg (by rw[ar]);rw[ar,aI]at ae;simp only at ae;have hn:∀i',i'<X.N.n→i'≠i→kI (kK X.P X.pk (X.N.B+i') X.m0 X.t0) (n+1)=kI (kK X.P X.pk (X.N.B+i') X.m0 X.t0) n:=fun i' _ aP=>by
  have:=uC (P:=X.P) (pk:=X.pk) (i0:=X.N.B+i') aj (by rw[ar];simp only;omega);simp[kI,this]
 obtain⟨g0,az,hs,kW⟩:=h'.wk i I;obtain rfl:g0=g:=by rw[hg]at az;exact(ff az).symm
 obtain⟨st,sm,hw,hm⟩:=h'.wg;have M:∀{w1:World},(∀b,b≠X.N.Wg→w1.heap[b]?=(w.at d).heap[b]?)→∀b,s.V b→w1.heap[b]?=w.heap[b]?:=fun e b hb=>e b (h.ko.v b hb).2.1
 generalize z:s.D i=x0 at hs kW
 cases hs with
 | @pre m g w1 Z Q =>
  rcases gQ Z with C|⟨W,rfl,E⟩
  ·obtain⟨_,c,cs,aa,af⟩:=C _ (RK.refl _);have aa:=aa _ (RK.refl _);have aQ:kI (kK X.P X.pk (X.N.B+i) X.m0 X.t0) (n+1)=kI (kK X.P X.pk (X.N.B+i) X.m0 X.t0) n:=by
    have:nW (stepG X.P false g0 (w.at d))=w.at d:=by rw[aa];rfl
    simp only[kI,ae,this];show _+(d-d)=_;omega
   have hJ:=O.qE i ag;obtain⟨K,oC,wE,e,hK,⟨v,rfl,hR⟩,aR,ao,aA⟩:=zM (hJ.calls fun x q=>X.Gt i (kI (kK X.P X.pk (X.N.B+i) X.m0 X.t0) (n+1)+x) q) (by rintro w' ⟨v,hv,_⟩;cases hv);have hE:vB X.P (Ac X.P (X.J i) fun x q=>X.Gt i (kI (kK X.P X.pk (X.N.B+i) X.m0 X.t0) (n+1)+x) q) K oC wE:=⟨hK,aA.2.2,aA.2.1⟩;have ab:=nP.start (P:=X.P) hJ.C8 hJ.rel Q (c::cs) (fun x q=>X.Gt i (kI (kK X.P X.pk (X.N.B+i) X.m0 X.t0) (n+1)+x) q) K;have A:WSit X.P X.N X.pk X.m0 X.t0 X.Gt X.J i (n+1) ⟨9,K-0,0,(X.J i).ρ,undef⟩ { frame:=Frame.enter X.P (X.J i).f (X.J i).mg .normal,callers:=c::cs,status:=.running,dying:=none } (w.at d):=.si rfl (gR _) hE ao hR ab af (Gn.refl _);obtain⟨s',kk⟩:=h'.reads O I hg A hn (DQ.p9 ⟨rfl,rfl⟩) (by rw[z]) (by rw[z];simp) (by simp) (by rw[z]) (by rw[z];simp) (by rw[z];intro k;exact absurd k (by simp)) (.inl (by rw[z];exact⟨by simp,by simp[cnt]⟩));exact .inr ⟨_,_,_,s',aa,kk.1,kk.2.1,kk.2.2.1,kk.2.2.2.1,kk.2.2.2.2,fun _ _=>rfl⟩
  ·obtain⟨g',w',es,U,H,e3⟩:=E _ (RK.refl _);have A:WSit X.P X.N X.pk X.m0 X.t0 X.Gt X.J i (n+1) ⟨10,W,0,(X.J i).ρ,undef⟩ g' w':=by
    obtain⟨⟨d',rfl⟩,_⟩:=H;exact .pre e3 (HR.leaves O.sync Q (Leaves.of_heap rfl) rfl)
   obtain⟨s',kk⟩:=h'.reads O I hg A hn H (by rw[z]) (by rw[z];simp) (by simp) (by rw[z]) (by rw[z]) (by rw[z];simp) (.inr (by rw[z];simp));exact .inr ⟨_,_,_,s',U,kk.1,kk.2.1,kk.2.2.1,kk.2.2.2.1,kk.2.2.2.2,M fun b _=>by obtain⟨⟨d',rfl⟩,_⟩:=H;rfl⟩
 | @si k K d0 D T ρ c cs gS g wS w1 wE oC v hT aJ hE ao hR ab af aB =>
  have ak:∀j q,(w.at d).drawn+j<(nW (stepG X.P false g0 (w.at d))).drawn→(w.at d).tape ((w.at d).drawn+j) q=T (D+j) q:=by
   intro j q hj;have:=O.glue i n j q (by rw[ae];exact hj);rw[ae,Cv aj]at this;rw[hT];simp only;rw[←dQ,aJ];exact this.symm
  have ah:∀b p,ρ b=some p→p.block<(w.at d).heap.size∧¬s.V p.block∧p.block≠X.N.Wg∧p.block≠X.N.CB∧p.block≠X.N.CF:=fun b p hb=>h'.ko.lt i ag b p (by rw[z];exact hb)
  have aC:∀{ρ':j7}{w':World}{es:Array Event},Grow ρ (w.at d) ρ'→(∀b p,ρ' b=some p→p.block<w'.heap.size)→(∀e∈es,nU ρ' e) →
    (∀e∈es,(∀a,(MemAct.ofEvent e).touch? = some a→a.loc.isMemory=true→qX ρ' a.loc)∧(MemAct.ofEvent e).low w'.heap.size∧e.loc≠.mark (.release (stA X.N.Wg))∧e.loc≠.mark .disable∧e.loc≠.mark .enable):=by
   intro ρ' w' es _ hl ad e he;have:=ad e he;obtain⟨loc,wr,sy⟩:=e;unfold nU at this
   cases loc with
   |cell a =>
    refine⟨fun b hb hm=>?_,?_,by simp,by simp,by simp⟩
    ·simp only[MemAct.ofEvent,MemAct.touch?,dW]at hb;subst hb;exact this
    ·obtain⟨b,p,Z,Q,_⟩:=this;show a.block<_;rw[←Q];exact hl b p Z
   |obj r =>
    refine⟨fun b hb hm=>?_,?_,by simp,by simp,by simp⟩
    ·cases wr<;>cases sy<;>simp[MemAct.ofEvent,MemAct.touch?]at hb<;>subst hb<;>exact this
    ·obtain⟨b,hb⟩:=this;have:=hl b _ hb
     cases wr<;>cases sy<;>exact this
   |mark m =>
    obtain rfl:m=.noRoom:=this;exact⟨fun b hb hm=>by simp[MemAct.ofEvent,MemAct.touch?]at hb,trivial,by simp,by simp,by simp⟩
   |output =>
    refine⟨fun b hb hm=>?_,trivial,by simp,by simp,by simp⟩;simp only[MemAct.ofEvent,MemAct.touch?,dW]at hb;subst hb
    cases hm
   |_=>exact this.elim
  have ap:∀{ρ':j7}{aD w':World},HR ρ' aD w'→∀b p,ρ' b=some p→p.block<w'.heap.size:=fun hr b p hb=>(hr.lt hb).2
  by_cases al:AtEnd [cap X.P] gS
  ·obtain⟨rfl,U,rfl⟩:=ab.at_end hE al;obtain⟨v',w',es,ρ',r0,r1,r2,r3,r4,r5⟩:=ab.leave (v:=v) (by rw[U];exact ao) al.1 false ak;have G:∀b,b<(w.at d).heap.size→(∀y p,ρ y=some p→p.block≠b)→w'.heap[b]?=(w.at d).heap[b]?:=fun b hb au=>r2.other b hb au
   have ai:∀b,s.V b→w'.heap[b]?=(w.at d).heap[b]?:=fun b hb=>G b (h'.ko.v b hb).1 fun y p hy e=>(ah y p hy).2.1 (e▸hb)
   have am:w'.heap[X.N.Wg]?=(w.at d).heap[X.N.Wg]?:=G _ h'.ko.kJ.1 fun y p hy=>(ah y p hy).2.2.1
   have aE:(X.J i).ok v':=(O.qE i ag).shape v _ _ _ hR r5;obtain⟨m,aK⟩:=(af.rely (w₁:=w') ⟨fun b hb=>ai b (h'.ko.sj i I b hb).1,fun⟨a,b,k⟩=>⟨a,b,rC k am⟩⟩) v' aE;have A:WSit X.P X.N X.pk X.m0 X.t0 X.Gt X.J i (n+1) ⟨8,m,0,ρ',v'⟩ _ w':=.post aK ⟨aE,aB.grow h'.base r1,v,_,r4,r5,hR⟩;have ad:=aC r1 (ap r4) r3;obtain⟨s',kk⟩:=h'.worker O I hg A hn r2.size r2.os ai (G _ h'.ko.kJ.2.1 fun y p hy=>(ah y p hy).2.2.2.1) (G _ h'.ko.kJ.2.2 fun y p hy=>(ah y p hy).2.2.2.2)
    (fun i' Z Q=>Kept.leaves r2 (by have:=h'.ko.apart i i' ag Z (dJ Q);rw[z]at this;exact this) fun b p hb=>(h'.ko.lt i' Z b p hb).1) (by rw[z];exact r1) (ap r4) (st':=st) (sm':=sm) (rC hw am)
    (fun tag' ht _=>(hm.counted I (by rw[z];simp) (by simp)).retag ht) (fun op av a ha aw=>by
     obtain⟨_,e,he,ax⟩:=oc av;rw[ax]at ha;exact .inr (.inl ((ad e he).1 a ha aw))) (fun e he=>(ad e he).2.1) (fun e he=>(ad e he).2.2.1) (by rw[z];exact xe (fun e he=>(ad e he).2.2.2) _) (fun k=>by rw[z]at k;simp at k) (fun k=>by simp at k) (by rw[z];simp) (by rw[z];intro k;exact absurd k (by simp)) (.inl (by rw[z];exact⟨by simp,by simp[cnt]⟩))
   exact .inr ⟨_,_,_,s',r0,kk.1,kk.2.1,kk.2.2.1,kk.2.2.2.1,kk.2.2.2.2,ai⟩
  ·obtain⟨g',w',es,ρ',aS,aD,r0,r1,r2,r3,r4⟩:=ab.step hE al false ak;have G:∀b,b<(w.at d).heap.size→(∀y p,ρ y=some p→p.block≠b)→w'.heap[b]?=(w.at d).heap[b]?:=fun b hb au=>r2.other b hb au
   have ai:∀b,s.V b→w'.heap[b]?=(w.at d).heap[b]?:=fun b hb=>G b (h'.ko.v b hb).1 fun y p hy e=>(ah y p hy).2.1 (e▸hb)
   have am:w'.heap[X.N.Wg]?=(w.at d).heap[X.N.Wg]?:=G _ h'.ko.kJ.1 fun y p hy=>(ah y p hy).2.2.1
   have aN:=r4.le;have aF:d0+(D+(w'.drawn-(w.at d).drawn))=kI (kK X.P X.pk (X.N.B+i) X.m0 X.t0) (n+1):=by
    have:nW (stepG X.P false g0 (w.at d))=w':=by rw[r0];rfl
    simp only[kI,ae,this];show d0+(D+(w'.drawn-d))=_;omega
   have A:WSit X.P X.N X.pk X.m0 X.t0 X.Gt X.J i (n+1) ⟨9,K-(k+1),0,ρ',undef⟩ g' w':=.si hT aF hE ao hR r4 (af.rely ⟨fun b hb=>ai b (h'.ko.sj i I b hb).1,fun⟨a,b,k⟩=>⟨a,b,rC k am⟩⟩) (aB.grow h'.base r1);have ad:=aC r1 (ap r4.hr) r3;obtain⟨s',kk⟩:=h'.worker O I hg A hn r2.size r2.os ai (G _ h'.ko.kJ.2.1 fun y p hy=>(ah y p hy).2.2.2.1) (G _ h'.ko.kJ.2.2 fun y p hy=>(ah y p hy).2.2.2.2)
    (fun i' Z Q=>Kept.leaves r2 (by have:=h'.ko.apart i i' ag Z (dJ Q);rw[z]at this;exact this) fun b p hb=>(h'.ko.lt i' Z b p hb).1) (by rw[z];exact r1) (ap r4.hr) (st':=st) (sm':=sm) (rC hw am)
    (fun tag' ht _=>(hm.counted I (by rw[z];simp) (by simp)).retag ht) (fun op av a ha aw=>by
     obtain⟨_,e,he,ax⟩:=oc av;rw[ax]at ha;exact .inr (.inl ((ad e he).1 a ha aw))) (fun e he=>(ad e he).2.1) (fun e he=>(ad e he).2.2.1) (by rw[z];exact xe (fun e he=>(ad e he).2.2.2) _) (fun k=>by rw[z]at k;simp at k) (fun k=>by simp at k) (by rw[z]) (by rw[z];intro k;exact absurd k (by simp)) (.inr (by rw[z];exact⟨rfl,by show K-(k+1)<K-k;omega⟩))
   exact .inr ⟨_,_,_,s',r0,kk.1,kk.2.1,kk.2.2.1,kk.2.2.2.1,kk.2.2.2.2,ai⟩
 | @post m ρ v' g w1 Z Q =>
  rcases gQ Z with C|⟨W,rfl,E⟩
  ·exact .inl ⟨v',rfl,rfl,C _ (RK.refl _),rfl⟩
  ·obtain⟨g',w',es,U,H,e3⟩:=E _ (RK.refl _);have A:WSit X.P X.N X.pk X.m0 X.t0 X.Gt X.J i (n+1) ⟨8,W,0,ρ,v'⟩ g' w':=by
    obtain⟨⟨d',rfl⟩,_⟩:=H;exact .post e3 (Q.leaves O.sync (Leaves.of_heap rfl) rfl)
   obtain⟨s',kk⟩:=h'.reads O I hg A hn H (by rw[z]) (by rw[z];simp) (by simp) (by rw[z]) (by rw[z]) (by rw[z];simp) (.inr (by rw[z];simp));exact .inr ⟨_,_,_,s',U,kk.1,kk.2.1,kk.2.2.1,kk.2.2.2.1,kk.2.2.2.2,M fun b _=>by obtain⟨⟨d',rfl⟩,_⟩:=H;rfl⟩
 | @r0 m ρ v' g w1 Z Q =>
  rcases gQ Z with C|⟨W,rfl,E⟩
  ·obtain⟨_,g',U,W,H⟩:=C _ (RK.refl _);have A:WSit X.P X.N X.pk X.m0 X.t0 X.Gt X.J i (n+1) ⟨6,W,0,ρ,v'⟩ g' (w.at d):=.k1 H Q;obtain⟨s',kk⟩:=h'.quiet O I hg A hn (fun _ _=>rfl) rfl rfl (by rw[z]) (st':=st) (sm':=sm) hw (fun tag' ht _=>(hm.counted I (by rw[z];simp) (by simp)).retag ht) (es:=#[Go.ConcR.mk (.releaseMerge (stA X.N.Wg))])
    (fun e he=>by simp at he;subst he;exact .inl rfl) (fun e he=>by simp at he;subst he;exact h'.ko.kJ.1) (fun e he=>by simp at he;subst he;simp[Go.ConcR.mk]) (by rw[z];rfl) (fun k=>by rw[z]at k;simp at k)
    (fun _=>.inr ⟨_,Rl.new kW _ _⟩) (by rw[z];simp) (by rw[z];simp) (.inl (by rw[z];exact⟨by simp,by simp[cnt]⟩))
   exact .inr ⟨_,_,_,s',U,kk.1,kk.2.1,kk.2.2.1,kk.2.2.2.1,kk.2.2.2.2,fun _ _=>rfl⟩
  ·obtain⟨g',w',es,U,H,e3⟩:=E _ (RK.refl _);have A:WSit X.P X.N X.pk X.m0 X.t0 X.Gt X.J i (n+1) ⟨7,W,0,ρ,v'⟩ g' w':=by
    obtain⟨⟨d',rfl⟩,_⟩:=H;exact .r0 e3 (Q.leaves O.sync (Leaves.of_heap rfl) rfl)
   obtain⟨s',kk⟩:=h'.reads O I hg A hn H (by rw[z]) (by rw[z];simp) (by simp) (by rw[z]) (by rw[z]) (by rw[z];simp) (.inr (by rw[z];simp));exact .inr ⟨_,_,_,s',U,kk.1,kk.2.1,kk.2.2.1,kk.2.2.2.1,kk.2.2.2.2,M fun b _=>by obtain⟨⟨d',rfl⟩,_⟩:=H;rfl⟩
 | @k1 m ρ v' g w1 Z Q =>
  rcases gQ Z with C|⟨W,rfl,E⟩
  ·obtain⟨_,g',U,W,H⟩:=C _ (RK.refl _);have A:WSit X.P X.N X.pk X.m0 X.t0 X.Gt X.J i (n+1) ⟨5,W,1,ρ,v'⟩ g' (w.at d):=.d1 H Q;obtain⟨s',kk⟩:=h'.quiet O I hg A hn (fun _ _=>rfl) rfl rfl (by rw[z]) (st':=st) (sm':=sm) hw (fun tag' ht _=>(hm.counted I (by rw[z];simp) (by simp)).retag ht) (es:=#[Go.ConcR.mk .disable])
    (fun e he=>by simp at he;subst he;exact .inl rfl) (fun e he=>by simp at he;subst he;trivial) (fun e he=>by simp at he;subst he;simp[Go.ConcR.mk]) (by rw[z];rfl) (fun _ r hr=>hr.Ag _ _ (fun e he=>by simp at he;subst he;rfl))
    (fun _=>.inl (by rw[z];simp)) (by rw[z];simp) (by rw[z];simp) (.inl (by rw[z];exact⟨by simp,by simp[cnt]⟩))
   exact .inr ⟨_,_,_,s',U,kk.1,kk.2.1,kk.2.2.1,kk.2.2.2.1,kk.2.2.2.2,fun _ _=>rfl⟩
  ·obtain⟨g',w',es,U,H,e3⟩:=E _ (RK.refl _);have A:WSit X.P X.N X.pk X.m0 X.t0 X.Gt X.J i (n+1) ⟨6,W,0,ρ,v'⟩ g' w':=.k1 e3 (by obtain⟨rfl,_⟩:=H;exact Q);obtain⟨s',kk⟩:=h'.idle O I hg A hn H (by rw[z]) (by rw[z]) (by rw[z]) (by rw[z]) (by rw[z];simp);exact .inr ⟨_,_,_,s',U,kk.1,kk.2.1,kk.2.2.1,kk.2.2.2.1,kk.2.2.2.2,by obtain⟨rfl,_⟩:=H;exact fun _ _=>rfl⟩
 | @d1 m ρ v' g w1 Z Q =>
  rcases gQ Z with C|⟨W,rfl,E⟩
  ·obtain⟨aL,v,wt,a1,a2,a3,a4,a5⟩:=hm.add I (by rw[z]);subst aL a3;have aO:=O.qF;have aT:=h.jn;obtain⟨_,aa⟩:=C _ (RK.refl _);obtain⟨g',U,H,e3⟩:=aa v wt a1 (by omega) hw;have Y:Done (X.J i) ρ v' ((w.at d).setCell (stA X.N.Wg) (.int .u64 ((v:Int)*KK+wt))):=Q.leaves O.sync (Leaves.block fun b p hb=>sq _ _ _ (h'.ko.lt i ag b p (by rw[z];exact hb)).2.2.1) rfl;have aG:=hw.setSt ((v:Int)*KK+wt)
   by_cases hl:v=0∧wt=1
   ·obtain⟨W,e4⟩:=H hl;have A:WSit X.P X.N X.pk X.m0 X.t0 X.Gt X.J i (n+1) ⟨4,W,1,ρ,v'⟩ g' _:=.d2 e4 Y;obtain⟨s',kk⟩:=h'.xf O I hg A hn (a:=stA X.N.Wg) rfl (.inl ⟨_,rfl⟩) (.inl rfl) (by rw[z]) aG (fun tag' ht _=>(a4 hl _ rfl).retag ht) (by rw[z];simp) (by rw[z];simp) (by rw[z]) rfl (by rw[z]);exact .inr ⟨_,_,_,s',U,kk.1,kk.2.1,kk.2.2.1,kk.2.2.2.1,kk.2.2.2.2,M fun b hb=>sq _ _ _ hb⟩
   ·obtain⟨q,e4⟩:=e3 hl;have A:WSit X.P X.N X.pk X.m0 X.t0 X.Gt X.J i (n+1) ⟨1,q,1,ρ,v'⟩ g' _:=.quit e4 Y;obtain⟨s',kk⟩:=h'.xf O I hg A hn (a:=stA X.N.Wg) rfl (.inl ⟨_,rfl⟩) (.inl rfl) (by rw[z]) aG (fun tag' ht _=>(a5 hl _ rfl).retag ht) (by rw[z];simp) (by rw[z];simp) (by rw[z]) rfl (by rw[z]);exact .inr ⟨_,_,_,s',U,kk.1,kk.2.1,kk.2.2.1,kk.2.2.2.1,kk.2.2.2.2,M fun b hb=>sq _ _ _ hb⟩
  ·obtain⟨g',w',es,U,H,e3⟩:=E _ (RK.refl _);have A:WSit X.P X.N X.pk X.m0 X.t0 X.Gt X.J i (n+1) ⟨5,W,1,ρ,v'⟩ g' w':=.d1 e3 (by obtain⟨rfl,_⟩:=H;exact Q);obtain⟨s',kk⟩:=h'.idle O I hg A hn H (by rw[z]) (by rw[z]) (by rw[z]) (by rw[z]) (by rw[z];simp);exact .inr ⟨_,_,_,s',U,kk.1,kk.2.1,kk.2.2.1,kk.2.2.2.1,kk.2.2.2.2,by obtain⟨rfl,_⟩:=H;exact fun _ _=>rfl⟩
 | @d2 m ρ v' g w1 Z Q =>
  rcases gQ Z with C|⟨W,rfl,E⟩
  ·obtain⟨l1,l0,l2,l3,rfl⟩:=hm.isLast I (.inl (by rw[z]));rw[z]at l3;obtain rfl:st=1:=by simpa using l3
   obtain⟨_,aa⟩:=C _ (RK.refl _);obtain⟨g',U,W,H⟩:=aa hw;have A:WSit X.P X.N X.pk X.m0 X.t0 X.Gt X.J i (n+1) ⟨3,W,1,ρ,v'⟩ g' (w.at d):=.d3 H Q;obtain⟨s',kk⟩:=h'.xf O I hg A hn (a:=stA X.N.Wg) rfl (.inr rfl) (.inr (.inl rfl)) (by rw[z]) hw (fun tag' ht _=>by
    have:Mode s.j s.p (upd s.D i ⟨3,W,1,ρ,v'⟩) s.tag (if(upd s.D i ⟨3,W,1,ρ,v'⟩ i).stage=2 then 0 else 1) 0:=.last i l1 l0 I (.inr (.inl (by rw[fl]))) fun a ha e=>by rw[fp s.D _ e];exact l2 a ha e
    rw[fl]at this;exact this.retag ht) (by rw[z];simp) (by rw[z];simp) (by rw[z]) rfl (by rw[z])
   exact .inr ⟨_,_,_,s',U,kk.1,kk.2.1,kk.2.2.1,kk.2.2.2.1,kk.2.2.2.2,fun _ _=>rfl⟩
  ·obtain⟨g',w',es,U,H,e3⟩:=E _ (RK.refl _);have A:WSit X.P X.N X.pk X.m0 X.t0 X.Gt X.J i (n+1) ⟨4,W,1,ρ,v'⟩ g' w':=.d2 e3 (by obtain⟨rfl,_⟩:=H;exact Q);obtain⟨s',kk⟩:=h'.idle O I hg A hn H (by rw[z]) (by rw[z]) (by rw[z]) (by rw[z]) (by rw[z];simp);exact .inr ⟨_,_,_,s',U,kk.1,kk.2.1,kk.2.2.1,kk.2.2.2.1,kk.2.2.2.2,by obtain⟨rfl,_⟩:=H;exact fun _ _=>rfl⟩
 | @d3 m ρ v' g w1 Z Q =>
  rcases gQ Z with C|⟨W,rfl,E⟩
  ·obtain⟨l1,l0,l2,l3,rfl⟩:=hm.isLast I (.inr (.inl (by rw[z])));rw[z]at l3;obtain rfl:st=1:=by simpa using l3
   obtain⟨_,aa⟩:=C _ (RK.refl _);obtain⟨g',U,W,H⟩:=aa hw;have Y:Done (X.J i) ρ v' ((w.at d).setCell (stA X.N.Wg) (.int .u64 0)):=Q.leaves O.sync (Leaves.block fun b p hb=>sq _ _ _ (h'.ko.lt i ag b p (by rw[z];exact hb)).2.2.1) rfl;have A:WSit X.P X.N X.pk X.m0 X.t0 X.Gt X.J i (n+1) ⟨2,W,1,ρ,v'⟩ g' _:=.d4 H Y;obtain⟨s',kk⟩:=h'.xf O I hg A hn (a:=stA X.N.Wg) rfl (.inl ⟨_,rfl⟩) (.inr (.inr (.inl rfl))) (by rw[z]) (hw.setSt 0) (fun tag' ht _=>by
    have:Mode s.j s.p (upd s.D i ⟨2,W,1,ρ,v'⟩) s.tag (if(upd s.D i ⟨2,W,1,ρ,v'⟩ i).stage=2 then 0 else 1) 0:=.last i l1 l0 I (.inr (.inr (by rw[fl]))) fun a ha e=>by rw[fp s.D _ e];exact l2 a ha e
    rw[fl]at this;exact this.retag ht) (by rw[z];simp) (by rw[z];simp) (by rw[z]) rfl (by rw[z])
   exact .inr ⟨_,_,_,s',U,kk.1,kk.2.1,kk.2.2.1,kk.2.2.2.1,kk.2.2.2.2,M fun b hb=>sq _ _ _ hb⟩
  ·obtain⟨g',w',es,U,H,e3⟩:=E _ (RK.refl _);have A:WSit X.P X.N X.pk X.m0 X.t0 X.Gt X.J i (n+1) ⟨3,W,1,ρ,v'⟩ g' w':=.d3 e3 (by obtain⟨rfl,_⟩:=H;exact Q);obtain⟨s',kk⟩:=h'.idle O I hg A hn H (by rw[z]) (by rw[z]) (by rw[z]) (by rw[z]) (by rw[z];simp);exact .inr ⟨_,_,_,s',U,kk.1,kk.2.1,kk.2.2.1,kk.2.2.2.1,kk.2.2.2.2,by obtain⟨rfl,_⟩:=H;exact fun _ _=>rfl⟩
 | @d4 m ρ v' g w1 Z Q =>
  rcases gQ Z with C|⟨W,rfl,E⟩
  ·obtain⟨l1,l0,l2,l3,rfl⟩:=hm.isLast I (.inr (.inr (by rw[z])));rw[z]at l3;obtain rfl:st=0:=by simpa using l3
   obtain⟨_,aM,aa⟩:=C _ (RK.refl _);obtain⟨g',U,q,H⟩:=aa hw;have Y:Done (X.J i) ρ v' ((w.at d).setCell (smA X.N.Wg) (.int .u32 1)):=Q.leaves O.sync (Leaves.block fun b p hb=>sq _ _ _ (h'.ko.lt i ag b p (by rw[z];exact hb)).2.2.1) rfl;have A:WSit X.P X.N X.pk X.m0 X.t0 X.Gt X.J i (n+1) ⟨1,q,1,ρ,v'⟩ g' _:=.quit H Y;have ay:g'.status=.running:=by
    cases q with
    |zero=>exact absurd H.2 (by decide)
    |succ q=>rcases H with k|k;exact absurd k.2 (by decide);exact k.1
   obtain⟨s',kk⟩:=h'.xf O I hg A hn (a:=smA X.N.Wg) rfl (.inl ⟨_,rfl⟩) (.inr (.inr (.inr rfl))) (by rw[z]) (hw.setSm 1) (fun tag' ht hk=>by
    refine .sema ?_ l0 fun a ha=>?_
    ·have:=hk aM ay;rcases ht with rfl|⟨_,rfl⟩
     ·cases hh:s.tag<;>rw[hh]at l1 this<;>first|exact .inl rfl|exact .inr rfl|exact l1.elim|exact absurd rfl this
     ·exact .inl rfl
    ·by_cases e:a=i
     ·subst e;rw[fl]
     ·rw[fp s.D _ e];exact l2 a ha e) (by rw[z];simp) (by rw[z];simp) (by rw[z]) rfl (by rw[z])
   exact .inr ⟨_,_,_,s',U,kk.1,kk.2.1,kk.2.2.1,kk.2.2.2.1,kk.2.2.2.2,M fun b hb=>sq _ _ _ hb⟩
  ·obtain⟨g',w',es,U,H,e3⟩:=E _ (RK.refl _);have A:WSit X.P X.N X.pk X.m0 X.t0 X.Gt X.J i (n+1) ⟨2,W,1,ρ,v'⟩ g' w':=.d4 e3 (by obtain⟨rfl,_⟩:=H;exact Q);obtain⟨s',kk⟩:=h'.idle O I hg A hn H (by rw[z]) (by rw[z]) (by rw[z]) (by rw[z]) (by rw[z];simp);exact .inr ⟨_,_,_,s',U,kk.1,kk.2.1,kk.2.2.1,kk.2.2.2.1,kk.2.2.2.2,by obtain⟨rfl,_⟩:=H;exact fun _ _=>rfl⟩
 | @quit q dd ρ v' g w1 Z Q =>
  cases q with
  |zero=>rw[Z.1]at an;cases an
  |succ q =>
   rcases Z with⟨hf,_⟩|⟨_,g',es,aq,aH,hq⟩
   ·rw[hf]at an;cases an
   have A:WSit X.P X.N X.pk X.m0 X.t0 X.Gt X.J i (n+1) ⟨1,q,deafBehind dd es,ρ,v'⟩ g' (w.at d):=.quit hq Q;obtain⟨s',kk⟩:=h'.quiet O I hg A hn (fun _ _=>rfl) rfl rfl (by rw[z]) (st':=st) (sm':=sm) hw (fun tag' ht _=>(hm.congr fun a _=>by
     by_cases e:a=i
     ·subst e;rw[fl,z]
     ·rw[fp s.D _ e]).retag ht)
    (fun e he=>.inl (touch_mute (aq e he))) (fun e he=>low_mute (aq e he) _) (fun e he=>by have:=aq e he;intro k;obtain⟨loc,wr,sy⟩:=e;simp only at k;subst k;cases this) (by rw[z]) (fun _ r hr=>hr.Ag _ _ (fun e he=>touch_mute (aq e he)))
    (fun _=>.inl (by rw[z];simp)) (by rw[z]) (by rw[z];simp) (.inr (by rw[z];simp))
   exact .inr ⟨_,_,_,s',aH _,kk.1,kk.2.1,kk.2.2.1,kk.2.2.2.1,kk.2.2.2.2,fun _ _=>rfl⟩
end
end
section
open Go.Conc Go.ConcN Go.Proofs.YtjnkcibpkkjniaaGreat.kx
open Go.ConcR (KK wgBlock WgAt stA smA rd wr mk DC0)
variable [Scope]
theorem PT.Ah{Sh Shun:Loc→Prop}{Own Rd:Nat→Loc→Prop}{K:Nat→Prop}{c:Nat}:∀(u:List MemOp){t:Trace},PT Sh Shun Own Rd K c t→(∀op∈u,op.act.touch? = none)→PT Sh Shun Own Rd K c (t++u.toArray)
 |[],t,h,_=>by simpa using h
 |x::l,t,h,y=>by
  have e:t++(x::l).toArray=(t++#[x])++l.toArray:=by apply Array.ext';simp
  rw[e];exact PT.Ah l (h.appMute (g:=x.g) (fun op r=>by simp at r;rw[r]) (fun op r=>by simp at r;rw[r];exact y x (by simp))) fun op r=>y op (by simp[r])
section
variable {X:Ctx} {s:St} {n:Nat} {gs gs':Array Goroutine} {w w':World} {t u:Trace}
theorem uO(w:World)(c cap:Nat)(buf:Array Value)(cl:Bool)(a b:Nat)(e:Bool)(x:Nat):(w.setChan c cap buf cl a b e).heap[x]?=if c=x∧c<w.heap.size then some (.chan cap buf cl a b e) else w.heap[x]?:=by
 unfold World.setChan;simp only;rw[dx]
 by_cases h:c=x
 ·subst h
  by_cases r:c<w.heap.size
  ·simp[r]
  ·simp[r]
 ·simp[h]
structure Km (X:Ctx) (s:St) (i:Nat) (w:World) (u:Trace):Prop where
 touch:∀op∈u,op.act.touch? = none
 low:∀op∈u,op.act.low w.heap.size
 UY:∀op∈u,op.g=0∨op.g=X.N.B+i
 still:∀op∈u,op.act≠.mark .disable∧op.act≠.mark .enable
 norel:∀op∈u,op.act≠.mark (.release (stA X.N.Wg))
theorem Rl.qY{N:nj}{k r:Nat}(h:Rl N t k r)(hu:∀op∈u,op.act.touch? = none):Rl N (t++u) k r:=by
 refine⟨h.rel.app fun i E G H=>?_,fun i op x hr E I hx hm=>?_⟩
 ·obtain⟨x,hx,_⟩:=H;obtain⟨op,y,e⟩:=fI hx;rcases fJ y with⟨K,_⟩|⟨_,z⟩
  ·omega
  ·rw[hu op z]at e;cases e
 ·rcases fJ E with⟨_,A⟩|⟨_,C⟩
  ·exact h.soft i op x hr A I hx hm
  ·rw[hu op C]at hx;cases hx
variable {g':Goroutine}
theorem kO.sent(W:X.Good)(h:kO X s n gs w t){i:Nat}(hi:i<s.j)(h8:(s.D i).stage=8){m:Nat}(hsz:gs'.size=gs.size)(af:gs'[X.N.B+i]?=some g')(hgo:∀k,k≠X.N.B+i→0<k→gs'[k]?=gs[k]?)(hs:WSit X.P X.N X.pk X.m0 X.t0 X.Gt X.J i (n+1) ⟨7,m,0,(s.D i).ρ,(s.D i).v⟩ g' w')(hn:∀i',i'<X.N.n→i'≠i→kI (kK X.P X.pk (X.N.B+i') X.m0 X.t0) (n+1)=kI (kK X.P X.pk (X.N.B+i') X.m0 X.t0) n){got' wait':List Nat}(hl:got'++wait'=s.got++s.wait++[i]){d:Nat}(G:w'=(w.at d).setChan X.N.CB X.N.n (wait'.map fun i=>(X.J i).msg (s.D i).v).toArray false (got'.length+wait'.length) got'.length false)(hu:Km X s i w u):∃s',kO X s' (n+1) gs' w' (t++u)∧Lt2 (meas X s') (meas X s)∧rB s s'∧s'.got=got'∧s'.wait=wait'∧s'.D i=⟨7,m,0,(s.D i).ρ,(s.D i).v⟩∧∀i',i'≠i→s'.D i'=s.D i':=by
 have ah:=h.jn;have Z:i<X.N.n:=by omega
 have hB:=W.pos;have aa:w'.heap[X.N.CB]?=some (.chan X.N.n (wait'.map fun i=>(X.J i).msg (s.D i).v).toArray false (got'.length+wait'.length) got'.length false):=by
  rw[G,uO,dr ⟨rfl,h.ko.kJ.2.1⟩]
 have z:∀b,b≠X.N.CB→w'.heap[b]?=w.heap[b]?:=fun b hb=>by
  rw[G,uO,dt (fun e=>hb e.1.symm)];rfl
 have C:w'.heap.size=w.heap.size:=by rw[G];simp[World.setChan,World.at]
 have K:w'.os=w.os:=by rw[G];rfl
 have y:∀k,Deaf (t++u) k=Deaf t k:=fun k=>gT t k u hu.still
 have ab:∀S:Nat→Prop,(∀b,S b→s.V b)→RK X.N.ty X.N.Wg S w w':=fun S hS=>⟨fun b hb=>z b (h.ko.v b (hS b hb)).2.2.1,fun⟨a,b,k⟩=>⟨a,b,rC k (z _ W.kJ.1)⟩⟩
 have ad:∀i',i'<X.N.n→Leaves (s.D i').ρ w w':=fun i' A=>Leaves.block fun b p hb=>z _ (h.ko.lt i' A b p hb).2.2.2.1
 obtain⟨st,sm,hw,hm⟩:=h.wg;have hg:Grow (s.D i).ρ w (⟨7,m,0,(s.D i).ρ,(s.D i).v⟩:WD).ρ:=Grow.refl _ _;have H:rA X { s with D:=upd s.D i ⟨7,m,0,(s.D i).ρ,(s.D i).v⟩,tag:=s.tag,fc:=s.fc } w':=h.ko.upd Z id hg (fun b p hb=>by rw[C];exact(h.ko.lt i Z b p hb).1) (by omega);have M:∀i',(upd s.D i ⟨7,m,0,(s.D i).ρ,(s.D i).v⟩ i').ρ=(s.D i').ρ∧(upd s.D i ⟨7,m,0,(s.D i).ρ,(s.D i).v⟩ i').v=(s.D i').v:=fun i'=>by
  by_cases e:i'=i
  ·subst e;rw[fl];exact⟨rfl,rfl⟩
  ·rw[fp s.D _ e];exact⟨rfl,rfl⟩
 have I:i ∉ s.got++s.wait:=fun k=>by have:=((h.list i).1 k).2;omega
 refine⟨{ s with D:=upd s.D i ⟨7,m,0,(s.D i).ρ,(s.D i).v⟩,got:=got',wait:=wait' },⟨by rw[hsz];exact h.size,h.jn,fun i' g1 h0 h1 O=>?_,fun i' A=>?_,fun i' h1 O=>?_,fun Y=>?_,by rw[y];exact h.hear,fun j hj=>?_,⟨st,sm,rC hw (z _ W.kJ.1),hm.counted hi (by omega) (by simp)⟩,?_,?_,fun i'=>?_,by rw[z _ (dJ W.kJ.2.2)];exact h.fin,?_,?_,?_,fun i' A Q=>?_,fun Y=>?_,fun Y=>?_,⟨H.lt,H.apart,H.oU,H.v,H.wv,H.sj,H.sc,H.kJ,H.old⟩,by rw[C];exact h.base,K.trans h.os⟩,?_,⟨rfl,rfl,rfl,rfl,rfl,.inl rfl,rfl,fun i' _ _=>(M i').2⟩,rfl,rfl,by simp only[fl],fun i' e=>by simp only[fp s.D _ e]⟩
 ·rw[hgo i' (by omega) h0]at O;rw[y];exact h.lv i' g1 h0 h1 O
 ·have ag:i'<s.j:=A
  by_cases e:i'=i
  ·subst e;obtain⟨g1,e1,_,e3⟩:=h.wk i' A;refine⟨g',af,by simp only[fl];exact hs,?_⟩;rw[y,e3];obtain⟨g2,f1,f2,_⟩:=h.wk i' A;simp only[fl];exact f2.JM (by omega)
  ·obtain⟨g1,e1,e2,e3⟩:=h.wk i' A;refine⟨g1,by rw[hgo _ (by omega) (by omega)];exact e1,?_,by rw[y,e3];simp only[fp s.D _ e]⟩;simp only[fp s.D _ e];exact e2.rely W.sync (hn i' (by omega) e) (ab _ fun b hb=>(h.ko.sj i' A b hb).1) (ad i' (by omega)) K
 ·have e:i'≠i:=by have:s.j≤i':=h1;omega
  simp only[fp s.D _ e];have U:=h.un i' h1 O;have hle:=ad i' O;rw[U.1]at hle;exact⟨U.1,HR.leaves W.sync U.2 hle K⟩
 ·obtain⟨a,k1,k2,k3⟩:=h.cl Y;exact⟨a,by rw[hgo _ (by omega) (by omega)];exact k1,k2.rely (ab _ fun b hb=>(h.ko.sc Y b hb).1),by rw[y];exact k3⟩
 ·rw[y];exact h.fresh j (by rw[←hsz];exact hj)
 ·rw[aa];have:(wait'.map fun ae=>(X.J ae).msg (upd s.D i ⟨7,m,0,(s.D i).ρ,(s.D i).v⟩ ae).v)=wait'.map fun i=>(X.J i).msg (s.D i).v:=gO fun i' _=>by rw[(M i').2]
  rw[this]
 ·show(got'++wait').Nodup;rw[hl,gU];exact⟨h.nodup,by simp,fun a ha b hb e=>by simp at hb;subst hb;subst e;exact I ha⟩
 ·show i'∈got'++wait'↔_;rw[hl,gV,h.list]
  by_cases e:i'=i
  ·subst e;simp only[fl];simp;exact hi
  ·simp only[fp s.D _ e];simp[e]
 ·have eO:pj X { s with D:=upd s.D i ⟨7,m,0,(s.D i).ρ,(s.D i).v⟩,got:=got',wait:=wait' }=pj X s:=by
   funext k l;unfold pj;simp only[(M _).1]
  rw[eO];have:=PT.Ah u.toList h.tr (fun op E=>hu.touch op (by simpa using E));have O:PT (oq X.N) X.Shun (pj X s) (sn X) (KP X s) (nX X s) (t++u):=by simpa using this
  exact O
 ·intro op E;rw[C];rcases dS.1 E with k|k
  ·exact h.low op k
  ·exact hu.low op k
 ·exact h.norel.app fun op E=>hu.norel op E
 ·by_cases e:i'=i
  ·subst e;simp only[fl]at Q;omega
  ·simp only[fp s.D _ e]at Q;obtain⟨r,hr⟩:=h.rel i' A Q;exact⟨r,hr.qY hu.touch⟩
 ·obtain⟨q,hq⟩:=h.acq Y;exact⟨q,hq.app fun i' r _ hr=>hr.qY hu.touch⟩
 ·obtain⟨q,p,hq⟩:=h.cls Y;exact⟨q,p,hq.app (fun i' r _ hr=>hr.qY hu.touch) fun op E _=>hu.touch op E⟩
 ·have e1:=fh s.D (⟨7,m,0,(s.D i).ρ,(s.D i).v⟩:WD) cnt hi;have e2:=fh s.D (⟨7,m,0,(s.D i).ρ,(s.D i).v⟩:WD) WD.stage hi;unfold meas;simp only[Vc,Ssum,Fsum]at *;have c1:cnt (s.D i)=1:=by simp[cnt,h8]
  have c2:cnt (⟨7,m,0,(s.D i).ρ,(s.D i).v⟩:WD)=1:=by simp[cnt]
  refine Prod.Lex.left _ _ ?_;have:(sumTo s.j fun a=>cnt (upd s.D i ⟨7,m,0,(s.D i).ρ,(s.D i).v⟩ a))=sumTo s.j fun a=>cnt (s.D a):=by omega
  rw[this];simp only[h8]at e2;omega
theorem kO.yp(hX:X.Good)(h:kO X s n gs w t)(M:s.tag≠.sp){g:Goroutine}{es:Array Event}{tag':Tg}{H I:Nat}{st' sm':Int}(hg:gs[X.N.B+X.N.n]?=some g)(O:tag'≠.sp)(hs:CSit X.P X.N X.Sc X.mw X.mC tag' H I g' w')(hn:∀i',i'<X.N.n→kI (kK X.P X.pk (X.N.B+i') X.m0 X.t0) (n+1)=kI (kK X.P X.pk (X.N.B+i') X.m0 X.t0) n)(E:∀b,b≠X.N.Wg→b≠X.N.CF→w'.heap[b]?=w.heap[b]?)(ai:w'.heap[X.N.CF]?=some (.chan 0 #[] (uL tag') 0 0 false))(hsz:w'.heap.size=w.heap.size)(aa:w'.os=w.os)(ab:WgAt X.N.ty X.N.Wg w' st' sm')(Q:Mode s.j s.p s.D tag' st' sm')(aj:∀e∈es,∀a,(MemAct.ofEvent e).touch? = some a→a.loc.isMemory=true→(oq X.N a.loc∧a.kind≠.plain)∨(∃b,lq b a.loc∧X.Sc b∧a.write=false))(ad:∀e∈es,(MemAct.ofEvent e).low w.heap.size)(ak:∀e∈es,e.loc≠.mark (.release (stA X.N.Wg)))(U:deafBehind s.dc es=I)(ae:tag'=.cl→s.tag=.cl∨∃q,Acq X (t++MemOp.ofEvents (X.N.B+X.N.n) g.frame.fn g.frame.place es) q)(af:tag'=.qt→(s.tag=.qt∧∀e∈es,(MemAct.ofEvent e).touch? = none)∨∃q p,uM X (t++MemOp.ofEvents (X.N.B+X.N.n) g.frame.fn g.frame.place es) q p)(W:phi X.N.n (Vc s.j s.D) tag'<phi X.N.n (Vc s.j s.D) s.tag∨(phi X.N.n (Vc s.j s.D) tag'=phi X.N.n (Vc s.j s.D) s.tag∧H<s.fc)):kO X { s with tag:=tag',fc:=H,dc:=I } (n+1) ((gs.map (woken X.P g g' w')).setIfInBounds (X.N.B+X.N.n) g') w' (t++MemOp.ofEvents (X.N.B+X.N.n) g.frame.fn g.frame.place es)∧Lt2 (meas X { s with tag:=tag',fc:=H,dc:=I }) (meas X s):=by
 have hB:=hX.pos;have al:X.N.B+X.N.n<gs.size:=(dv.1 hg).1;have Y:∀op∈MemOp.ofEvents (X.N.B+X.N.n) g.frame.fn g.frame.place es,op.g=X.N.B+X.N.n:=fun op z=>(oc z).1
 have C:∀k,k≠X.N.B+X.N.n→Deaf (t++MemOp.ofEvents (X.N.B+X.N.n) g.frame.fn g.frame.place es) k=Deaf t k:=fun k hk=>eU t (dJ hk) _ Y
 have Z:∀i' r,i'<X.N.n→Rl X.N t (X.N.B+i') r→Rl X.N (t++MemOp.ofEvents (X.N.B+X.N.n) g.frame.fn g.frame.place es) (X.N.B+i') r:=fun i' r G hr=>hr.appNot fun op z=>by rw[Y op z];omega
 have am:∀b,s.V b→w'.heap[b]?=w.heap[b]?:=fun b hb=>E b (h.ko.v b hb).2.1 (h.ko.v b hb).2.2.2.1
 have hj:=(h.size.2 M).2.1;refine⟨⟨?_,h.jn,fun i' g1 h0 h1 h2=>?_,fun i' G=>?_,fun i' h1 h2=>?_,fun _=>⟨g',by rw[gN _ _ _ al],hs,?_⟩,by rw[C 0 (by omega)];exact h.hear,fun j hj=>?_,⟨st',sm',ab,Q⟩,?_,h.nodup,h.list,ai,?_,?_,?_,fun i' G an=>?_,fun e=>?_,fun e=>?_,⟨?_,h.ko.apart,h.ko.oU,?_,h.ko.wv,h.ko.sj,fun _=>h.ko.sc M,?_,?_⟩,by rw[hsz];exact h.base,aa.trans h.os⟩,?_⟩
 ·simp only[gK,gL];exact⟨fun e=>absurd e O,fun _=>h.size.2 M⟩
 ·rw[gM _ _ _ _ (by omega)]at h2;obtain⟨y,hy,rfl⟩:=eo.1 h2;have hq:=h.lv i' y h0 h1 hy;rw[eT hq,C i' (by omega)];exact hq
 ·obtain⟨g1,e1,e2,e3⟩:=h.wk i' G;have ag:i'<s.j:=G;refine⟨g1,by rw[gM _ _ _ _ (by omega),e1,dM,e2.woken],?_,by rw[C _ (by omega)];exact e3⟩;exact e2.rely hX.sync (hn i' (by omega)) ⟨fun b hb=>am b (h.ko.sj i' G b hb).1,fun _=>⟨_,_,ab⟩⟩ (Leaves.block fun b p hb=>E _ (h.ko.lt i' (by omega) b p hb).2.2.1 (h.ko.lt i' (by omega) b p hb).2.2.2.2) aa
 ·have:s.j≤i':=h1;omega
 ·obtain⟨a,k1,_,k3⟩:=h.cl M;rw[fo,k3,U]
 ·have ao:gs.size≤j:=by simpa using hj
  rw[C j (by omega)];exact h.fresh j ao
 ·rw[E _ (dJ hX.kJ.1) hX.kJ.2.2];exact h.back
 ·have eK:KP X { s with tag:=tag',fc:=H,dc:=I }=KP X s:=by
   funext k;unfold KP;simp only[ne_eq,M,O,not_false_eq_true,true_and]
  have sp:∀{x:Tg},x≠.sp→wZ x=false:=fun {x} hx=>by cases x<;>first|rfl|exact absurd rfl hx
  have ec:nX X { s with tag:=tag',fc:=H,dc:=I }=X.N.B+X.N.n:=by unfold nX;simp[sp O]
  have ap:nX X s=X.N.B+X.N.n:=by unfold nX;simp[sp M]
  rw[eK,ec];have A:=h.ko.xd hX (show s.j≤X.N.n by omega);have ah:=h.tr;rw[ap]at ah;refine ah.CV A (k:=X.N.B+X.N.n) (.inr ⟨M,rfl⟩) fun op z=>⟨Y op z,fun a K hm=>?_⟩
  obtain⟨_,e,he,aq⟩:=oc z;rw[aq]at K;rcases aj e he a K hm with⟨k1,k2⟩|⟨b,k1,k2,k3⟩
  ·exact .inl ⟨k1,k2,fun _=>rfl⟩
  ·exact .inr (.inr ⟨⟨b,k1,.inr ⟨rfl,k2⟩⟩,k3⟩)
 ·intro op z;rw[hsz];rcases dS.1 z with k|k
  ·exact h.low op k
  ·obtain⟨_,e,he,K⟩:=oc k;rw[K];exact ad e he
 ·refine h.norel.app fun op z=>?_
  obtain⟨_,e,he,K⟩:=oc z;rw[K];exact yo (ak e he)
 ·obtain⟨r,hr⟩:=h.rel i' G an;have ag:i'<s.j:=G;exact⟨r,Z i' r (by omega) hr⟩
 ·rcases ae e with k|k
  ·obtain⟨q,hq⟩:=h.acq k;exact⟨q,hq.app Z⟩
  ·exact k
 ·rcases af e with⟨k,hk⟩|k
  ·obtain⟨q,p,hq⟩:=h.cls k;refine⟨q,p,hq.app Z fun op z _=>?_⟩;obtain⟨_,e,he,K⟩:=oc z;rw[K];exact hk e he
  ·exact k
 ·rw[hsz];exact h.ko.lt
 ·rw[hsz];exact h.ko.v
 ·rw[hsz];exact h.ko.kJ
 ·rw[hsz];exact h.ko.old
 ·unfold meas;simp only;rcases W with k|⟨k1,k2⟩
  ·exact Prod.Lex.left _ _ (by omega)
  ·rw[k1];exact Prod.Lex.right _ (by omega)
end
end
section
open Go.Conc Go.ConcN Go.Proofs.YtjnkcibpkkjniaaGreat.kx
open Go.ConcR (KK wgBlock WgAt stA smA rd wr DC0)
variable [Scope]
variable {j p:Nat} {D:Nat→WD} {tag:Tg} {st sm:Int}
theorem Mode.opened(h:Mode j p D tag st sm)(r:isOpen tag):st=((Vc j D+p:Nat):Int)*KK∧sm=0∧OpenSt j D∧∀vs,tag=.w2 vs→Vc j D≤vs∧1≤vs:=by
 cases h with
 |opn e y z=>exact⟨rfl,rfl,y,z⟩
 |reg e=>cases tag<;>first|exact r.elim|exact e.elim
 |last L e=>cases tag<;>first|exact r.elim|exact e.elim
 |sema e=>rcases e with rfl|rfl<;>exact r.elim
 |fin e=>cases tag<;>first|exact r.elim|exact e.elim
theorem Mode.Dg{tag':Tg}(h:Mode j p D tag st sm)(A:isW3 tag)(hw:isW3 tag'):(sm=0∧Mode j p D tag' st sm)∨(st=0∧sm=1∧p=0∧AllQuit j D):=by
 cases h with
 |opn y=>cases tag<;>first|exact A.elim|exact y.elim
 |reg _ e r z=>exact .inl ⟨rfl,.reg hw e r z⟩
 |last L _ e r z C=>exact .inl ⟨rfl,.last L hw e r z C⟩
 |sema y e r=>exact .inr ⟨rfl,rfl,e,r⟩
 |fin y=>cases tag<;>first|exact A.elim|exact y.elim
theorem Mode.xg(h:Mode j p D tag st sm)(r:isFin tag):st=0∧sm=0∧p=0∧AllQuit j D:=by
 cases h with
 |opn e=>cases tag<;>first|exact r.elim|exact e.elim
 |reg e=>cases tag<;>first|exact r.elim|exact e.elim
 |last L e=>cases tag<;>first|exact r.elim|exact e.elim
 |sema e=>rcases e with rfl|rfl<;>exact r.elim
 |fin e y z=>exact⟨rfl,rfl,y,z⟩
theorem Ai(t:Trace)(k:Nat)(fn:FuncId)(pos:String)(es:Array Event)(j:Nat)(e:Event)(h:es[j]?=some e):(t++MemOp.ofEvents k fn pos es)[t.size+j]?=some { g:=k,fn,pos,act:=.ofEvent e }:=by
 rw[gJ,gW (by omega),Nat.add_sub_cancel_left,dV,h];rfl
theorem Dh(t:Trace)(k:Nat)(fn:FuncId)(pos:String)(es:Array Event)(j:Nat)(e:Event)(h:es[j]?=some e)(hd:deafBehind (Deaf t k) (es.extract 0 j)=0):(t++MemOp.ofEvents k fn pos es).heard (t.size+j):=by
 have r:j≤es.size:=by have:=(dv.1 h).1;omega
 exact⟨k,by simp[Trace.g?,Ai t k fn pos es j e h],by rw[deaf_inside t k fn pos es j r];exact hd⟩
section
variable {X:Ctx} {s:St} {n:Nat} {gs gs':Array Goroutine} {w w':World} {t u:Trace}
def yq (X:Ctx) (s:St) (n:Nat) (gs:Array Goroutine) (w:World) (t:Trace) (g:Goroutine) (w1:World):Prop :=
 ∃g' w' es tag' Di Dj,stepG X.P false g w1=.go g' w' es∧tag'≠.sp∧kO X { s with tag:=tag',fc:=Di,dc:=Dj } (n+1) ((gs.map (woken X.P g g' w')).setIfInBounds (X.N.B+X.N.n) g') w' (t++MemOp.ofEvents (X.N.B+X.N.n) g.frame.fn g.frame.place es) ∧
  Lt2 (meas X { s with tag:=tag',fc:=Di,dc:=Dj }) (meas X s)∧(∀b,s.V b→w'.heap[b]?=w.heap[b]?)∧(tag'=.qt→s.tag≠.qt→mayWake X.P g=true∧(g'.status=.running∨g'.status=.finished))
variable {sl kn:Option (Nat×Nat)} {d:Nat} {g:Goroutine}
theorem kO.Kn(hX:X.Good)(h:kO X s n gs w t)(al:runNT X.P n X.m0 X.t0=(.next (crowd gs w sl),t))(ht:s.tag≠.sp)(hg:gs[X.N.B+X.N.n]?=some g)(Y:g.status=.running)(aw:X.pk (crowd gs w sl)=(X.N.B+X.N.n,d,kn))(h':kO X s n gs (w.at d) t):yq X s n gs w t g (w.at d):=by
 have hB:=hX.pos;have hn:∀i',i'<X.N.n→kI (kK X.P X.pk (X.N.B+i') X.m0 X.t0) (n+1)=kI (kK X.P X.pk (X.N.B+i') X.m0 X.t0) n:=fun i' aK=>by
  have:=uC (P:=X.P) (pk:=X.pk) (i0:=X.N.B+i') al (by rw[aw];simp only;omega);simp[kI,this]
 obtain⟨g0,am,hs,kW⟩:=h'.cl ht;obtain rfl:g0=g:=by rw[hg]at am;exact(ff am).symm
 obtain⟨st,sm,hw,hm⟩:=h'.wg;have O:s.p=0:=(h.size.2 ht).2.2;have aL:s.j=X.N.n:=(h.size.2 ht).2.1;have aJ:=hX.qF;have aM:=Vc_le s.j s.D;have keep:∀{w1:World},(∀b,b≠X.N.Wg→b≠X.N.CF→w1.heap[b]?=(w.at d).heap[b]?)→∀b,s.V b→w1.heap[b]?=w.heap[b]?:=fun e b hb=>e b (h.ko.v b hb).2.1 (h.ko.v b hb).2.2.2.1
 have reads:∀{g':Goroutine}{w':World}{es:Array Event}{U:Nat},stepG X.P false g0 (w.at d)=.go g' w' es→DQ X.Sc (w.at d) w' es→CSit X.P X.N X.Sc X.mw X.mC s.tag U s.dc g' w'→U<s.fc→s.tag≠.qt→yq X s n gs w t g0 (w.at d):=by
  intro g' w' es U H ⟨⟨d',G⟩,I⟩ e4 e5 W;subst G;obtain⟨k1,k2⟩:=h'.yp hX ht hg ht e4 hn (fun _ _ _=>rfl) h'.fin rfl rfl hw hm (es:=es) (fun e he a K ag=>by
   obtain⟨ad,rfl,hS⟩:=I e he;have:a=⟨.cell ad,false,.plain⟩:=by simp[MemAct.ofEvent,MemAct.touch?]at K;exact K.symm
   subst this;exact .inr ⟨ad.block,rfl,hS,rfl⟩) (fun e he=>by obtain⟨ad,rfl,hS⟩:=I e he;exact(h'.ko.v _ (h'.ko.sc ht _ hS).1).1) (fun e he=>by obtain⟨ad,rfl,hS⟩:=I e he;simp)
   (xe (fun e he=>by obtain⟨ad,rfl,hS⟩:=I e he;simp) _) (fun e=>.inl e) (fun e=>absurd e W) (.inr ⟨rfl,e5⟩)
  exact⟨_,_,_,_,_,_,H,ht,k1,k2,keep fun _ _ _=>rfl,fun e k=>absurd e k⟩
 have says:∀{g':Goroutine}{w':World}{es:Array Event}{tag':Tg}{U ah:Nat} {st' sm':Int},stepG X.P false g0 (w.at d)=.go g' w' es→((∃a v,a.block=X.N.Wg∧w'=(w.at d).setCell a v)∨w'=w.at d)→tag'≠.sp→tag'≠.qt→s.tag≠.qt →
   CSit X.P X.N X.Sc X.mw X.mC tag' U ah g' w'→WgAt X.N.ty X.N.Wg w' st' sm'→Mode s.j s.p s.D tag' st' sm' →
   (∀e∈es,(MemAct.ofEvent e).touch? = none∨(∃a wr,e=⟨.cell a,wr,true⟩∧a.block=X.N.Wg)∨(∃a,e=⟨.mark (.write a),false,true⟩∧a.block=X.N.Wg))→(∀e∈es,(MemAct.ofEvent e).low (w.at d).heap.size)→(∀e∈es,e.loc≠.mark (.release (stA X.N.Wg))) →
   deafBehind s.dc es=ah→(tag'=.cl→∃q,Acq X (t++MemOp.ofEvents (X.N.B+X.N.n) g0.frame.fn g0.frame.place es) q) →
   (phi X.N.n (Vc s.j s.D) tag'<phi X.N.n (Vc s.j s.D) s.tag∨(phi X.N.n (Vc s.j s.D) tag'=phi X.N.n (Vc s.j s.D) s.tag∧U<s.fc))→yq X s n gs w t g0 (w.at d):=by
  intro g' w' es tag' U ah st' sm' H G I e4 ax e5 e6 e7 e8 e9 ay az aA aB;have Z:∀b,b≠X.N.Wg→b≠X.N.CF→w'.heap[b]?=(w.at d).heap[b]?:=fun b hb _=>by
   rcases G with⟨a,v,K,rfl⟩|rfl
   ·exact sq _ _ _ (by rw[K];exact hb)
   ·rfl
  have aC:w'.heap[X.N.CF]?=(w.at d).heap[X.N.CF]?:=by
   rcases G with⟨a,v,K,rfl⟩|rfl
   ·exact sq _ _ _ (by rw[K];exact dJ hX.kJ.2.1)
   ·rfl
  have hsz:w'.heap.size=(w.at d).heap.size:=by
   rcases G with⟨a,v,K,rfl⟩|rfl
   ·simp[World.setCell]
   ·rfl
  have aD:w'.os=(w.at d).os:=by rcases G with⟨a,v,K,rfl⟩|rfl<;>rfl
  have nq:∀{x:Tg},x≠.qt→uL x=false:=fun {x} hx=>by cases x<;>first|rfl|exact absurd rfl hx
  obtain⟨k1,k2⟩:=h'.yp hX ht hg I e5 hn Z (by rw[aC,h'.fin,nq e4,nq ax]) hsz aD e6 e7 (es:=es) (fun e he a K ag=>by
   rcases e8 e he with k|⟨ad,wr,rfl,k⟩|⟨ad,rfl,k⟩
   ·rw[k]at K;cases K
   ·have:a=⟨.cell ad,wr,.atomic⟩:=by cases wr<;>simp[MemAct.ofEvent,MemAct.touch?]at K<;>exact K.symm
    subst this;exact .inl ⟨.inl ⟨ad,rfl,k⟩,by simp⟩
   ·have:a=⟨.cell ad,true,.said⟩:=by simp[MemAct.ofEvent,MemAct.touch?]at K;exact K.symm
    subst this;exact .inl ⟨.inl ⟨ad,rfl,k⟩,by simp⟩) e9 ay az (fun e=>.inr (aA e)) (fun e=>absurd e e4) aB
  exact⟨_,_,_,_,_,_,H,I,k1,k2,keep Z,fun e=>absurd e e4⟩
 have said:∀{e:Event}{a:Addr},(MemAct.ofEvent e).touch? = none∨(∃a wr,e=⟨.cell a,wr,true⟩∧a.block=X.N.Wg)∨(∃a,e=⟨.mark (.write a),false,true⟩∧a.block=X.N.Wg)→∀x∈#[e],(MemAct.ofEvent x).touch? = none∨(∃a wr,x=⟨.cell a,wr,true⟩∧a.block=X.N.Wg)∨(∃a,x=⟨.mark (.write a),false,true⟩∧a.block=X.N.Wg):=fun h x hx=>by
  rw[gX]at hx;subst hx;exact h
 have ae:∀(f:Nat),isOpen s.tag→s.tag≠.qt→s.dc=1→(phi X.N.n (Vc s.j s.D) .w1<phi X.N.n (Vc s.j s.D) s.tag∨(s.tag=.w1∧s.fc=f))→Goes X.P false (RK X.N.ty X.N.Wg X.Sc) DC0 (wT X.P false (RK X.N.ty X.N.Wg X.Sc) X.N.ty X.N.Wg X.mw (Nx X.P X.N X.Sc X.mC)) f g0 (w.at d)→yq X s n gs w t g0 (w.at d):=by
  intro f ho W C an M;obtain⟨m1,m2,m3,m4⟩:=hm.opened ho;subst m1 m2;rw[O,gR]at hw;have af:∀{x:Tg},phi X.N.n (Vc s.j s.D) x<phi X.N.n (Vc s.j s.D) .w1→phi X.N.n (Vc s.j s.D) x<phi X.N.n (Vc s.j s.D) s.tag:=fun {x} hx=>by
   rcases an with k|⟨k,_⟩
   ·omega
   ·rw[k];exact hx
  rcases gQ M with z|⟨Q,rfl,A⟩
  ·obtain⟨_,ai⟩:=z _ (RK.refl _);obtain⟨g',H,G,I⟩:=ai (Vc s.j s.D) (by omega) hw;have E:=uN (X:=X) (a:=stA X.N.Wg) rfl (.inr (.inl rfl))
   by_cases hv:Vc s.j s.D=0
   ·obtain⟨Q,e4⟩:=G hv;refine says H (.inr rfl) (by simp) (by simp) W (.ke e4) (st':=0) (sm':=0) (by rw[hv]at hw;simpa using hw) (.fin trivial O (JN hv m3)) (fun e he=>(E.1 e he).imp id .inl) (E.2.1 _ h'.ko.kJ.1) E.2.2.1 (by rw[C];exact E.2.2.2.1) (fun e=>by cases e) (.inl (af (by simp only[phi];omega)))
   ·obtain⟨Q,e4⟩:=I hv;refine says H (.inr rfl) (by simp) (by simp) W (.w2 e4) hw (by
     have:Mode s.j s.p s.D (.w2 (Vc s.j s.D)) (((Vc s.j s.D+s.p:Nat):Int)*KK) 0:=.opn trivial m3 fun vs e=>by cases e;exact⟨dD _,by omega⟩
     rw[O,gR]at this;rw[O];exact this) (fun e he=>(E.1 e he).imp id .inl) (E.2.1 _ h'.ko.kJ.1) E.2.2.1 (by rw[C];exact E.2.2.2.1) (fun e=>by cases e) (.inl (af (by simp only[phi];omega)))
  ·obtain⟨g',w',es,H,⟨rfl,rfl⟩,I⟩:=A _ (RK.refl _);rcases an with k|⟨k1,k2⟩
   ·refine says H (.inr rfl) (by simp) (by simp) W (.w1 I) hw (by
     have:Mode s.j s.p s.D .w1 (((Vc s.j s.D+s.p:Nat):Int)*KK) 0:=.opn trivial m3 fun vs e=>by cases e
     rw[O,gR]at this;rw[O];exact this) (by simp) (by simp) (by simp) (by rw[C];rfl) (fun e=>by cases e) (.inl k)
   ·exact reads H (DQ.p9 ⟨rfl,rfl⟩) (by rw[k1,C];exact .w1 I) (by omega) W
 generalize y:s.tag=tg at hs;generalize aE:s.fc=fc at hs;generalize C:s.dc=dc at hs
 cases hs with
 |kd M =>
  rcases gQ M with z|⟨Q,rfl,A⟩
  ·obtain⟨_,g',H,Q,G⟩:=z _ (RK.refl _);obtain⟨m1,m2,m3,m4⟩:=hm.opened (by rw[y];trivial);subst m1 m2;exact says H (.inr rfl) (by simp) (by simp) (by rw[y];simp) (.anch G) hw (.opn trivial m3 fun vs e=>by cases e) (said (a:=stA X.N.Wg) (.inl rfl)) (fun e he=>by rw[gX]at he;subst he;trivial) (fun e he=>by rw[gX]at he;subst he;simp[Go.ConcR.mk]) (by rw[C];rfl) (fun e=>by cases e) (.inl (by rw[y];simp only[phi];omega))
  ·obtain⟨g',w',es,H,G,I⟩:=A _ (RK.refl _);exact reads H G (by rw[y,C];exact .kd I) (by omega) (by rw[y];simp)
 |anch M =>
  rcases gQ M with z|⟨Q,rfl,A⟩
  ·obtain⟨Q,G⟩:=hX.anch _ _ (z _ (RK.refl _));exact ae Q (by rw[y];trivial) (by rw[y];simp) C (.inl (by rw[y];simp only[phi];omega)) G
  ·obtain⟨g',w',es,H,G,I⟩:=A _ (RK.refl _);exact reads H (DQ.p9 G) (by rw[y,C];exact .anch I) (by omega) (by rw[y];simp)
 |w1 M=>exact ae fc (by rw[y];trivial) (by rw[y];simp) C (.inr ⟨y,aE⟩) M
 | @w2 vs _ _ _ M =>
  rcases gQ M with z|⟨Q,rfl,A⟩
  ·obtain⟨m1,m2,m3,m4⟩:=hm.opened (by rw[y];trivial);subst m1 m2;obtain⟨l1,l2⟩:=m4 vs y;rw[O,gR]at hw;obtain⟨_,ai⟩:=z _ (RK.refl _);obtain⟨H,G⟩:=ai (Vc s.j s.D) (by omega) hw
   by_cases hv:Vc s.j s.D=vs
   ·obtain⟨g',k1,Q,k2⟩:=H hv;have E:=uN (X:=X) (a:=stA X.N.Wg) rfl (.inl rfl);exact says k1 (.inl ⟨_,_,rfl,rfl⟩) (by simp) (by simp) (by rw[y];simp) (.wr k2) (hw.setSt _) (.reg trivial O m3 (by omega)) (fun e he=>(E.1 e he).imp id .inl) (E.2.1 _ h'.ko.kJ.1) E.2.2.1 (by rw[C];exact E.2.2.2.1) (fun e=>by cases e) (.inl (by rw[y];simp only[phi];omega))
   ·obtain⟨g',k1,Q,k2⟩:=G hv;have E:=uN (X:=X) (a:=stA X.N.Wg) rfl (.inr (.inl rfl));exact says k1 (.inr rfl) (by simp) (by simp) (by rw[y];simp) (.anch k2) hw (by
     have:Mode s.j s.p s.D .anch (((Vc s.j s.D+s.p:Nat):Int)*KK) 0:=.opn trivial m3 fun vs e=>by cases e
     rw[O,gR]at this;rw[O];exact this) (fun e he=>(E.1 e he).imp id .inl) (E.2.1 _ h'.ko.kJ.1) E.2.2.1 (by rw[C];exact E.2.2.2.1) (fun e=>by cases e) (.inl (by rw[y];simp only[phi];omega))
  ·obtain⟨g',w',es,H,G,I⟩:=A _ (RK.refl _);exact reads H (DQ.p9 G) (by rw[y,C];exact .w2 I) (by omega) (by rw[y];simp)
 |wr M =>
  rcases gQ M with z|⟨Q,rfl,A⟩
  ·obtain⟨_,g',H,Q,G⟩:=z _ (RK.refl _);have aF:Mode s.j s.p s.D .w3 st sm:=by
    rcases hm.Dg (by rw[y];trivial) (tag':=.w3) trivial with⟨_,k⟩|⟨rfl,rfl,k1,k2⟩
    ·exact k
    ·exact .sema (.inl rfl) k1 k2
   exact says H (.inr rfl) (by simp) (by simp) (by rw[y];simp) (.w3 G) hw aF (said (a:=stA X.N.Wg) (.inr (.inr ⟨_,rfl,rfl⟩))) (fun e he=>by rw[gX]at he;subst he;exact h'.ko.kJ.1) (fun e he=>by rw[gX]at he;subst he;simp) (by rw[C];rfl) (fun e=>by cases e) (.inl (by rw[y];simp only[phi];omega))
  ·obtain⟨g',w',es,H,G,I⟩:=A _ (RK.refl _);exact reads H (DQ.p9 G) (by rw[y,C];exact .wr I) (by omega) (by rw[y];simp)
 |w3 M =>
  rcases gQ M with z|⟨Q,rfl,A⟩
  ·obtain⟨_,ao,hb,hgo⟩:=z _ (RK.refl _);rcases hm.Dg (by rw[y];trivial) (tag':=.blk) trivial with⟨rfl,k⟩|⟨rfl,rfl,k1,k2⟩
   ·exact says (hb ⟨st,hw⟩) (.inr rfl) (by simp) (by simp) (by rw[y];simp) (.blk z) hw k (by simp) (by simp) (by simp) (by rw[C];rfl) (fun e=>by cases e) (.inr ⟨by rw[y];rfl,by omega⟩)
   ·obtain⟨g',H,Q,G⟩:=hgo hw;have E:=uN (X:=X) (a:=smA X.N.Wg) rfl (.inr (.inr (.inr rfl)));exact says H (.inl ⟨_,_,rfl,rfl⟩) (by simp) (by simp) (by rw[y];simp) (.w4 G) (hw.setSm 0) (.fin trivial k1 k2) (fun e he=>(E.1 e he).imp id .inl) (E.2.1 _ h'.ko.kJ.1) E.2.2.1 (by rw[C];exact E.2.2.2.1) (fun e=>by cases e) (.inl (by rw[y];simp only[phi];omega))
  ·obtain⟨g',w',es,H,G,I⟩:=A _ (RK.refl _);exact reads H (DQ.p9 G) (by rw[y,C];exact .w3 I) (by omega) (by rw[y];simp)
 |blk M=>cases Y
 |w4 M =>
  rcases gQ M with z|⟨Q,rfl,A⟩
  ·obtain⟨rfl,rfl,k1,k2⟩:=hm.xg (by rw[y];trivial);obtain⟨_,hgo⟩:=z _ (RK.refl _);obtain⟨g',H,Q,G⟩:=hgo hw;have E:=uN (X:=X) (a:=stA X.N.Wg) rfl (.inr (.inl rfl));exact says H (.inr rfl) (by simp) (by simp) (by rw[y];simp) (.ke G) hw (.fin trivial k1 k2) (fun e he=>(E.1 e he).imp id .inl) (E.2.1 _ h'.ko.kJ.1) E.2.2.1 (by rw[C];exact E.2.2.2.1) (fun e=>by cases e) (.inl (by rw[y];simp only[phi];omega))
  ·obtain⟨g',w',es,H,G,I⟩:=A _ (RK.refl _);exact reads H (DQ.p9 G) (by rw[y,C];exact .w4 I) (by omega) (by rw[y];simp)
 |ke M =>
  rcases gQ M with z|⟨Q,rfl,A⟩
  ·obtain⟨rfl,rfl,k1,k2⟩:=hm.xg (by rw[y];trivial);obtain⟨_,g',H,Q,G⟩:=z _ (RK.refl _);exact says H (.inr rfl) (by simp) (by simp) (by rw[y];simp) (.acq G) hw (.fin trivial k1 k2) (said (a:=stA X.N.Wg) (.inl rfl)) (fun e he=>by rw[gX]at he;subst he;trivial) (fun e he=>by rw[gX]at he;subst he;simp[Go.ConcR.mk]) (by rw[C];rfl) (fun e=>by cases e) (.inl (by rw[y];simp only[phi];omega))
  ·obtain⟨g',w',es,H,G,I⟩:=A _ (RK.refl _);exact reads H (DQ.p9 G) (by rw[y,C];exact .ke I) (by omega) (by rw[y];simp)
 |acq M =>
  rcases gQ M with z|⟨Q,rfl,A⟩
  ·obtain⟨rfl,rfl,k1,k2⟩:=hm.xg (by rw[y];trivial);obtain⟨_,g',H,Q,G⟩:=z _ (RK.refl _);have I:=Goes.bind RK.refl (S2:=AtClose X.P X.N) (m2:=X.mC) (fun g w k=>k) (Goes.vI (fun _ _ _=>DQ.p9 (S:=X.Sc)) G);have aj:=Ai t (X.N.B+X.N.n) g0.frame.fn g0.frame.place #[Go.ConcR.mk (.acquire (stA X.N.Wg))] 0 _ rfl;have ap:=Dh t (X.N.B+X.N.n) g0.frame.fn g0.frame.place #[Go.ConcR.mk (.acquire (stA X.N.Wg))] 0 _ rfl (by rw[kW,C];rfl);rw[gR]at aj ap;exact says H (.inr rfl) (by simp) (by simp) (by rw[y];simp) (.cl I) hw (.fin trivial k1 k2) (said (a:=stA X.N.Wg) (.inl rfl)) (fun e he=>by rw[gX]at he;subst he;exact h'.ko.kJ.1) (fun e he=>by rw[gX]at he;subst he;simp[Go.ConcR.mk]) (by rw[C];rfl)
    (fun _=>⟨t.size,by rw[act?_of aj];rfl,by simp[Trace.g?,aj],ap,fun i hi=>by
     obtain⟨r,hr⟩:=h'.rel i (by omega) (by rw[k2 i (by omega)];decide);refine⟨r,hr.appNot fun op aa=>?_,lt_of_act? hr.rel.act⟩;rw[(oc aa).1];omega⟩) (.inl (by rw[y];simp only[phi];omega))
  ·obtain⟨g',w',es,H,G,I⟩:=A _ (RK.refl _);exact reads H (DQ.p9 G) (by rw[y,C];exact .acq I) (by omega) (by rw[y];simp)
 |cl M =>
  rcases gQ M with z|⟨Q,rfl,A⟩
  ·obtain⟨rfl,rfl,k1,k2⟩:=hm.xg (by rw[y];trivial);obtain⟨_,aG,hgo⟩:=z _ (RK.refl _);obtain⟨g',H,q,G⟩:=hgo (by rw[h'.fin,y];rfl);obtain⟨qa,aq⟩:=h'.acq y;have ao:∀op∈MemOp.ofEvents (X.N.B+X.N.n) g0.frame.fn g0.frame.place #[⟨.obj X.N.CF,false,true⟩,⟨.obj X.N.CF,true,true⟩],op.g=X.N.B+X.N.n:=fun op aa=>(oc aa).1
   have ar:=Ai t (X.N.B+X.N.n) g0.frame.fn g0.frame.place #[⟨.obj X.N.CF,false,true⟩,⟨.obj X.N.CF,true,true⟩] 1 _ rfl;have aH:=Dh t (X.N.B+X.N.n) g0.frame.fn g0.frame.place #[⟨.obj X.N.CF,false,true⟩,⟨.obj X.N.CF,true,true⟩] 1 _ rfl (by rw[kW,C];simp[deafBehind]);have au:uM X (t++MemOp.ofEvents (X.N.B+X.N.n) g0.frame.fn g0.frame.place #[⟨.obj X.N.CF,false,true⟩,⟨.obj X.N.CF,true,true⟩]) qa (t.size+1):=by
    refine⟨aq.app fun i r hi hr=>hr.appNot fun op aa=>by rw[ao op aa];omega,by have:=lt_of_act? aq.act;omega,by rw[act?_of ar];rfl,by simp[Trace.g?,ar],aH,fun i op hi ho _=>?_⟩;have:=fK ho;simp[gJ]at this;omega
   have ak:∀{b:Nat},b≠X.N.CF→((w.at d).setChan X.N.CF 0 #[] true 0 0 false).heap[b]?=(w.at d).heap[b]?:=fun {b} hb=>by rw[uO,dt (fun e=>hb e.1.symm)]
   obtain⟨c1,c2⟩:=h'.yp hX ht hg (tag':=.qt) (by simp) (.qt G) hn (fun b _ hb=>ak hb) (by rw[uO,dr ⟨rfl,h'.ko.kJ.2.2⟩];rfl) (by simp[World.setChan]) rfl (st':=0) (sm':=0) (rC hw (ak hX.kJ.2.1)) (.fin trivial k1 k2)
    (es:=#[⟨.obj X.N.CF,false,true⟩,⟨.obj X.N.CF,true,true⟩]) (fun e he a K ag=>by
     simp at he;rcases he with rfl|rfl
     ·simp[MemAct.ofEvent,MemAct.touch?]at K;subst K;exact .inl ⟨.inr (.inr rfl),by simp⟩
     ·simp[MemAct.ofEvent,MemAct.touch?]at K) (fun e he=>by
     simp at he;rcases he with rfl|rfl<;>exact h'.ko.kJ.2.2) (fun e he=>by simp at he;rcases he with rfl|rfl<;>simp) (by rw[C];simp[deafBehind]) (fun e=>by cases e) (fun _=>.inr ⟨_,_,au⟩) (.inl (by rw[y];simp only[phi];omega))
   exact⟨_,_,_,_,_,_,H,by simp,c1,c2,keep fun b _ hb=>ak hb,fun _ _=>⟨aG,G.status⟩⟩
  ·obtain⟨g',w',es,H,G,I⟩:=A _ (RK.refl _);exact reads H G (by rw[y,C];exact .cl I) (by omega) (by rw[y];simp)
 |qt hq =>
  cases fc with
  |zero=>rw[hq.1]at Y;cases Y
  |succ q =>
   rcases hq with⟨hf,_⟩|⟨_,g',es,ab,av,aI⟩
   ·rw[hf]at Y;cases Y
   ·obtain⟨c1,c2⟩:=h'.yp hX ht hg (tag':=.qt) (by simp) (.qt aI) hn (fun _ _ _=>rfl) (by rw[h'.fin,y]) rfl rfl hw (by rw[y]at hm;exact hm) (es:=es) (fun e he a K ag=>by rw[touch_mute (ab e he)]at K;cases K) (fun e he=>low_mute (ab e he) _)
     (fun e he=>by have:=ab e he;intro k;obtain⟨loc,wr,sy⟩:=e;simp only at k;subst k;cases this) (by rw[C]) (fun e=>by cases e) (fun _=>.inl ⟨y,fun e he=>touch_mute (ab e he)⟩) (.inr ⟨by rw[y],by omega⟩)
    exact⟨_,_,_,_,_,_,av _,by simp,c1,c2,fun _ _=>rfl,fun _ k=>absurd y k⟩
theorem kO.Ko(hX:X.Good)(h:kO X s n gs w t)(Q:runNT X.P n X.m0 X.t0=(.next (crowd gs w sl),t)){i:Nat}(aa:0<i)(hi:i<X.N.B)(hg:gs[i]?=some g)(G:g.status=.running)(ab:X.pk (crowd gs w sl)=(i,d,kn))(h':kO X s n gs (w.at d) t):∃g' es s',stepG X.P false g (w.at d)=.go g' (w.at d) es∧kO X s' (n+1) ((gs.map (woken X.P g g' (w.at d))).setIfInBounds i g') (w.at d) (t++MemOp.ofEvents i g.frame.fn g.frame.place es)∧Lt2 (meas X s') (meas X s)∧rB s s'∧s'.got=s.got∧s'.wait=s.wait∧s'.D=s.D:=by
 have hB:=hX.pos;have ai:=h.jn;have hn:∀i',i'<X.N.n→kI (kK X.P X.pk (X.N.B+i') X.m0 X.t0) (n+1)=kI (kK X.P X.pk (X.N.B+i') X.m0 X.t0) n:=fun i' H=>by
  have:=uC (P:=X.P) (pk:=X.pk) (i0:=X.N.B+i') Q (by rw[ab];simp only;omega);simp[kI,this]
 have K:=h'.lv i g aa hi hg;have ad:i<gs.size:=(dv.1 hg).1
 cases M:s.q i with
 |zero=>rw[M]at K;rw[K.1]at G;cases G
 |succ k =>
  rw[M]at K;rcases K with⟨hf,_⟩|⟨_,g',es,O,U,ae⟩
  ·rw[hf]at G;cases G
  have V:=h'.at hX d hn;obtain⟨st,sm,hw,hm⟩:=h'.wg;obtain⟨tag',I,af,aj,z,ak⟩:=h'.closer hX (w':=w.at d) (fun _ _=>rfl) ⟨_,_,hw⟩ g g';have W:∀op∈MemOp.ofEvents i g.frame.fn g.frame.place es,op.g=i:=fun op C=>(oc C).1
  have E:∀op∈MemOp.ofEvents i g.frame.fn g.frame.place es,op.act.touch? = none:=fun op C=>by
   obtain⟨_,e,he,Y⟩:=oc C;rw[Y];exact touch_mute (O e he)
  have A:∀k,k≠i→Deaf (t++MemOp.ofEvents i g.frame.fn g.frame.place es) k=Deaf t k:=fun k hk=>eU t (dJ hk) _ W
  have sp:∀x:Tg,tag'=.sp↔s.tag=.sp:=fun _=>pn z
  refine⟨g',es,{ s with tag:=tag',fc:=I,q:=upd s.q i k },U _,⟨?_,h'.jn,fun i' g1 h0 h1 h2=>?_,fun i' H=>?_,V.un,fun ht=>?_,by rw[A 0 (by omega)];exact h'.hear,fun j hj=>?_,⟨st,sm,hw,hm.retag z⟩,h'.back,h'.nodup,h'.list,by rw[h'.fin,←Af z],?_,?_,?_,fun i' H ag=>?_,fun e=>?_,fun e=>?_,⟨h'.ko.lt,h'.ko.apart,h'.ko.oU,h'.ko.v,h'.ko.wv,h'.ko.sj,fun e=>h'.ko.sc (fun k=>e ((pn z).2 k)),h'.ko.kJ,h'.ko.old⟩,h'.base,h'.os⟩,?_,⟨rfl,rfl,rfl,rfl,rfl,z,rfl,fun _ _ _=>rfl⟩,rfl,rfl,rfl⟩
  ·simp only[gK,gL];exact⟨fun e=>h.size.1 ((pn z).1 e),fun e=>h.size.2 fun k=>e ((pn z).2 k)⟩
  ·by_cases e:i=i'
   ·subst e;rw[gN _ _ _ ad]at h2;obtain rfl:=ff h2;show QuitsD X.P (upd s.q i k i) _ _;rw[fl,fo];exact ae
   ·rw[gM _ _ _ _ e]at h2;obtain⟨y,hy,rfl⟩:=eo.1 h2;have Z:=h'.lv i' y h0 h1 hy;rw[eT Z,A i' (dJ e)];show QuitsD X.P (upd s.q i k i') _ _;rw[fp s.q k (dJ e)];exact Z
  ·obtain⟨g1,e1,e2,e3⟩:=V.wk i' H;exact⟨g1,by rw[gM _ _ _ _ (by omega),e1,dM,e2.woken],e2,by rw[A _ (by omega)];exact e3⟩
  ·obtain⟨a,k1,k2,k3⟩:=af fun k=>ht ((pn z).2 k)
   exact⟨_,by rw[gM _ _ _ _ (by omega),k1];rfl,k2,by rw[A _ (by omega)];exact k3⟩
  ·have ah:gs.size≤j:=by simpa using hj
   rw[A j (by omega)];exact h'.fresh j ah
  ·have eK:KP X { s with tag:=tag',fc:=I,q:=upd s.q i k }=KP X s:=by
    funext k;unfold KP;simp only[ne_eq,pn z]
   have ec:nX X { s with tag:=tag',fc:=I,q:=upd s.q i k }=nX X s:=by
    unfold nX;rcases z with e|⟨e1,e2⟩
    ·simp only[e]
    ·simp only[e1,e2,wZ]
   have eO:pj X { s with tag:=tag',fc:=I,q:=upd s.q i k }=pj X s:=rfl;rw[eK,ec,eO];exact h'.tr.appMute W E
  ·intro op C;rcases dS.1 C with k|k
   ·exact h'.low op k
   ·obtain⟨_,e,he,Y⟩:=oc k;rw[Y];exact low_mute (O e he) _
  ·refine h'.norel.app fun op C=>?_
   obtain⟨_,e,he,Y⟩:=oc C;rw[Y];exact yo fun k=>by have:=O e he;obtain⟨loc,wr,sy⟩:=e;simp only at k;subst k;cases this
  ·obtain⟨r,hr⟩:=h'.rel i' H ag;exact⟨r,hr.qY E⟩
  ·have:s.tag=.cl:=by
    rcases z with k|⟨_,k⟩
    ·exact k.symm.trans e
    ·rw[show tag'=Tg.cl from e]at k;cases k
   obtain⟨q,K⟩:=h'.acq this;exact⟨q,K.app fun i' r _ hr=>hr.qY E⟩
  ·have:s.tag=.qt:=by
    rcases z with k|⟨_,k⟩
    ·exact k.symm.trans e
    ·rw[show tag'=Tg.qt from e]at k;cases k
   obtain⟨q,p,K⟩:=h'.cls this;exact⟨q,p,K.app (fun i' r _ hr=>hr.qY E) fun op C _=>E op C⟩
  ·unfold meas;simp only;rw[phi_retag X.N.n _ z];refine Prod.Lex.right _ ?_;have:=fh s.q k id hi;simp only[id,M]at this;have e1:sumTo X.N.B (upd s.q i k)=sumTo X.N.B (fun a=>upd s.q i k a):=rfl;have e2:sumTo X.N.B s.q=sumTo X.N.B (fun a=>s.q a):=rfl;omega
end
end
section
open Go.Conc Go.ConcN Go.Proofs.YtjnkcibpkkjniaaGreat.kx
open Go.ConcR (KK wgBlock WgAt stA smA rd wr DC0)
variable [Scope]
section
variable {X:Ctx} {s:St} {n:Nat} {gs:Array Goroutine} {w:World} {sl:Option (Nat×Nat)} {t:Trace} {a:Goroutine}
def mj (X:Ctx) (z1 z2:Value):Array CommCase:=#[rcase X.N.CB z1,rcase X.N.CF z2]
inductive tP (X:Ctx) (s:St) (a:Goroutine):Prop
 |run:a.status=.running→tP X s a
 |qb (gm:Goroutine) (z1 z2:Value):a=parked gm (mj X z1 z2) .select→s.wait=[]→s.tag≠.qt→s.tag≠.sp→tP X s a
structure oV (X:Ctx) (s:St) (n:Nat) (gs:Array Goroutine) (w:World) (sl:Option (Nat×Nat)) (t:Trace) (a:Goroutine):Prop where
 run:runNT X.P n X.m0 X.t0=(.next (crowd gs w sl),t)
 qG:kO X s n gs w t
 main:gs[0]?=some a
structure tQ (s s':St):Prop where
 j:s'.j=s.j
 p:s'.p=s.p
 d0:s'.d0=s.d0
 V:s'.V=s.V
 W:s'.W=s.W
 sp:s'.tag=.sp↔s.tag=.sp
 val:∀i,i<s.j→(s.D i).stage≤7→(s'.D i).v=(s.D i).v
theorem rB.yr{s':St}(h:rB s s'):tQ s s':=⟨h.1,h.2.1,h.2.2.1,h.2.2.2.1,h.2.2.2.2.1,pn h.2.2.2.2.2.1,h.2.2.2.2.2.2.2⟩
inductive vK (X:Ctx) (s s':St) (a a':Goroutine):Prop
 |same:a'=a→s'.got=s.got→vK X s s' a a'
 |served (i:Nat) (gm:Goroutine) (z1 z2:Value):a=parked gm (mj X z1 z2) .select→a'=gm.finishComm X.P (mj X z1 z2) .select 0 ((X.J i).msg (s'.D i).v) true→s'.got=s.got++[i]→s'.wait=[]→i<s.j→vK X s s' a a'
 |woken (gm:Goroutine) (z1 z2:Value):a=parked gm (mj X z1 z2) .select→a'={ a with status:=.running }→s'.got=s.got→vK X s s' a a'
theorem Kp(hm:tP X s a){w':World}(hB:∃cap buf x y,w'.heap[X.N.CB]?=some (.chan cap buf false x y false))(hF:∃cap buf x y,w'.heap[X.N.CF]?=some (.chan cap buf false x y false))(g g':Goroutine):woken X.P g g' w' a=a:=by
 cases hm with
 |run h=>exact fi h
 |qb gm z1 z2 e _ _ _ =>
  subst e;unfold Go.Conc.woken;split
  ·refine again_all_open fun C r=>?_
   obtain⟨cap,buf,x,y,hB⟩:=hB;obtain⟨z,A,E,G,hF⟩:=hF;simp[mj]at r;rcases r with rfl|rfl
   ·exact⟨_,_,_,_,_,_,_,rfl,hB⟩
   ·exact⟨_,_,_,_,_,_,_,rfl,hF⟩
  ·rfl
theorem Aj{x:Tg}(h:x≠.qt):uL x=false:=by cases x<;>first|rfl|exact absurd rfl h
theorem kO.open_(h:kO X s n gs w t)(e:s.tag≠.qt):(∃cap buf x y,w.heap[X.N.CB]?=some (.chan cap buf false x y false))∧(∃cap buf x y,w.heap[X.N.CF]?=some (.chan cap buf false x y false)) :=
 ⟨⟨_,_,_,_,h.back⟩,by have:=h.fin;rw[Aj e]at this;exact⟨_,_,_,_,this⟩⟩
theorem oV.Kq(K:X.Good)(h:oV X s n gs w sl t a)(hm:tP X s a):(∀g∈gs,awake g)∧∃(i:Nat)(g:Goroutine),gs[i]?=some g∧g.status=.running:=by
 have A:=h.qG;have Y:=A.jn;have hB:=K.pos;refine⟨fun g Z=>?_,?_⟩
 ·obtain⟨i,H,rfl⟩:=eZ.1 Z;have y:=dw H;rcases fb i with rfl|I
  ·rw[h.main]at y;obtain rfl:=ff y
   cases hm with
   |run h=>exact fe (.inl h)
   |qb gm z1 z2 e _ _ _=>rw[e];exact fe (.inr (.inl rfl))
  ·rcases fG i X.N.B with M|aa
   ·exact fe ((A.lv i _ I M y).status.elim .inl fun x=>.inr (.inr x))
   ·by_cases ab:i<X.N.B+s.j
    ·obtain⟨g,C,G,_⟩:=A.wk (i-X.N.B) (by omega);rw[show X.N.B+(i-X.N.B)=i by omega,y]at C;obtain rfl:=ff C;exact fe (G.status.elim .inl fun x=>.inr (.inr x))
    ·have U:s.tag≠.sp:=fun e=>by have:=A.size.1 e;omega
     obtain⟨hsz,hj,_⟩:=A.size.2 U;obtain⟨g,C,G,_⟩:=A.cl U;have:i=X.N.B+X.N.n:=by omega
     subst this;rw[y]at C;obtain rfl:=ff C;exact fe ((G.status K.tO).elim (fun x=>.inl x.1) fun x=>x.elim (fun x=>.inr (.inl x.1)) fun x=>.inr (.inr x.1))
 ·cases hm with
  |run hr=>exact⟨0,a,h.main,hr⟩
  |qb gm z1 z2 _ _ hq kp =>
   obtain⟨g,C,G,_⟩:=A.cl kp;rcases G.status K.tO with⟨k,_⟩|⟨_,k⟩|⟨_,k⟩
   ·exact⟨_,g,C,k⟩
   ·obtain⟨st,sm,_,z⟩:=A.wg;rw[k]at z;have r:∀i,i<s.j→(s.D i).stage≠1→∃(i:Nat)(g:Goroutine),gs[i]?=some g∧g.status=.running:=fun i H hs=>by
     obtain⟨g,C,G,_⟩:=A.wk i H;exact⟨_,g,C,G.runs hs⟩
    cases z with
    |opn E=>exact E.elim
    |reg _ _ V W =>
     refine gn fun O=>?_
     have:AllQuit s.j s.D:=fun i H=>gn fun Q=>O (r i H Q)
     rw[JO this]at W;omega
    |last L _ _ V W _=>exact r L V (by omega)
    |sema E=>rcases E with E|E<;>cases E
    |fin E=>exact E.elim
   ·exact absurd k hq
theorem kO.offers(C:X.Good)(h:kO X s n gs w t){i k:Nat}{g:Goroutine}(U:k≠0)(G:(gs.setIfInBounds i ph)[k]?=some g)(r:Nat)(b:Bool):offersAt g r b=[]:=by
 rcases getElem?_stand gs i k g G with⟨_,rfl⟩|⟨_,y⟩
 ·exact offersAt_ph r b
 have H:=h.jn;have hB:=C.pos;have I:k<gs.size:=(dv.1 y).1;have nb:∀{x:Goroutine},x.status=.running∨x.status=.finished→offersAt x r b=[]:=fun K=>gY (by rcases K with e|e<;>rw[e]<;>simp) r b
 rcases fG k X.N.B with M|O
 ·exact nb (h.lv k g (by omega) M y).status
 ·by_cases Q:k<X.N.B+s.j
  ·obtain⟨g',A,z,_⟩:=h.wk (k-X.N.B) (by omega);rw[show X.N.B+(k-X.N.B)=k by omega,y]at A;obtain rfl:=ff A;exact nb z.status
  ·have E:s.tag≠.sp:=fun e=>by have:=h.size.1 e;omega
   obtain⟨hsz,V,_⟩:=h.size.2 E;obtain⟨g',A,z,_⟩:=h.cl E;have:k=X.N.B+X.N.n:=by omega
   subst this;rw[y]at A;obtain rfl:=ff A;rcases z.status C.tO with⟨k,_⟩|⟨_,k⟩|⟨k,_⟩
   ·exact nb (.inl k)
   ·rw[k]at z;generalize s.fc=fc,s.dc=dc at z
    cases z with
    |blk hb =>
     have:=(hb w (RK.refl w)).2.1;simp[offersAt,this]
   ·exact nb (.inr k)
theorem oV.env[kD X.P][lV X.P](H:X.Good)(h:oV X s n gs w sl t a)(hm:tP X s a):(∃d kn,a.status=.running∧stepT X.P (crowd gs w sl)=runT X.P (crowd gs (w.at d) kn) 0∧kO X s n gs (w.at d) t∧∀i,i<X.N.n→kI (kK X.P X.pk (X.N.B+i) X.m0 X.t0) (n+1)=kI (kK X.P X.pk (X.N.B+i) X.m0 X.t0) n) ∨
  ∃s' gs' w' kn t' a',oV X s' (n+1) gs' w' kn t' a'∧Lt2 (meas X s') (meas X s)∧tQ s s'∧(∀b,s.V b→w'.heap[b]?=w.heap[b]?)∧vK X s s' a a'∧tP X s' a':=by
 obtain⟨ao,ah⟩:=h.Kq H hm;obtain⟨x,hx,aa,G⟩:=H.yn gs w sl ao ah;have A:=h.run;have C:=h.qG;have hB:=H.pos;have az:=C.jn;generalize U:X.pk (crowd gs w sl)=y at hx G;obtain⟨i,d,kn⟩:=y;simp only at hx G;have I:=C.at H d (n':=n) (fun _ _=>rfl);rcases fb i with rfl|ai
 ·refine .inl ⟨d,kn,?_,G,I,fun i' K=>?_⟩
  ·rw[h.main]at hx;exact(ff hx)▸aa
  ·have:=uC (P:=X.P) (pk:=X.pk) (i0:=X.N.B+i') A (by rw[U];simp only;omega);simp[kI,this]
 refine .inr ?_;have ab:(i == 0)=false:=by simp;omega
 have af:i<gs.size:=(dv.1 hx).1;have goes:∀{g':Goroutine}{w':World}{es:Array Event}{s':St},stepG X.P false x (w.at d)=.go g' w' es→kO X s' (n+1) ((gs.map (woken X.P x g' w')).setIfInBounds i g') w' (t++MemOp.ofEvents i x.frame.fn x.frame.place es)→Lt2 (meas X s') (meas X s)→tQ s s'→s'.got=s.got→s'.wait=s.wait→(s.tag≠.qt→s'.tag≠.qt)→(∀b,s.V b→w'.heap[b]?=w.heap[b]?) →
   ∃s' gs' w' kn t' a',oV X s' (n+1) gs' w' kn t' a'∧Lt2 (meas X s') (meas X s)∧tQ s s'∧(∀b,s.V b→w'.heap[b]?=w.heap[b]?)∧vK X s s' a a'∧tP X s' a':=by
  intro g' w' es s' e1 e2 e3 Q e5 e6 e7 e8;have E:=fg (P:=X.P) (sl:=kn) (i:=i) hx (by rw[ab];exact e1);have ha:woken X.P x g' w' a=a:=by
   cases hm with
   |run hr=>exact fi hr
   |qb gm z1 z2 k1 k2 k3 k4 =>
    have:=e2.open_ (e7 k3);exact Kp (.qb gm z1 z2 k1 k2 k3 k4) this.1 this.2 x g'
  refine⟨s',_,w',kn,_,a,⟨oK A (G.trans E),e2,by rw[gM _ _ _ _ (by omega),h.main,dM,ha]⟩,e3,Q,e8,.same rfl e5,?_⟩
  cases hm with
  |run hr=>exact .run hr
  |qb gm z1 z2 k1 k2 k3 k4=>exact .qb gm z1 z2 k1 (e6.trans k2) (e7 k3) fun k=>k4 (Q.sp.1 k)
 have aj:∀{s':St},rB s s'→s.tag≠.qt→s'.tag≠.qt:=fun hs k k'=>by
  rcases hs.2.2.2.2.2.1 with e|⟨_,e⟩
  ·exact k (e.symm.trans k')
  ·rw[k']at e;cases e
 rcases fG i X.N.B with ap|ax
 ·obtain⟨g',es,s',e1,e2,e3,Q,e5,e6,e7⟩:=C.Ko H A ai ap hx aa U I;exact goes e1 e2 e3 Q.yr e5 e6 (aj Q) fun _ _=>rfl
 by_cases aA:i<X.N.B+s.j
 ·obtain⟨i',rfl⟩:∃i',i=X.N.B+i':=⟨i-X.N.B,by omega⟩;have K:i'<s.j:=by omega
  rcases C.turns H A K hx aa U I with⟨v',h8,hv,⟨_,hsend,m,hgo⟩,_⟩|⟨g',w',es,s',e1,e2,e3,Q,e5,e6,e7⟩
  ·
   have hn:∀i2,i2<X.N.n→i2≠i'→kI (kK X.P X.pk (X.N.B+i2) X.m0 X.t0) (n+1)=kI (kK X.P X.pk (X.N.B+i2) X.m0 X.t0) n:=fun i2 _ aB=>by
    have:=uC (P:=X.P) (pk:=X.pk) (i0:=X.N.B+i2) A (by rw[U];simp only;omega);simp[kI,this]
   obtain⟨g0,aC,aq,_⟩:=I.wk i' K;have W:Done (X.J i') (s.D i').ρ (s.D i').v (w.at d):=aq.done (by omega);have ad:i' ∉ s.got++s.wait:=fun k=>by have:=((C.list i').1 k).2;omega
   have ar:s.got.length+s.wait.length<X.N.n:=by
    have:(s.got++s.wait++[i']).length≤(List.range X.N.n).length:=by
     refine List.Nodup.length_le_of_subset ?_ fun k M=>?_
     ·rw[gU];exact⟨C.nodup,by simp,fun a ha b hb e=>by simp at hb;subst hb;subst e;exact ad ha⟩
     ·rw[gg];rcases gV.1 M with M|M
      ·have:=((C.list k).1 M).1;omega
      ·simp at M;omega
    simp at this;omega
   have Y:∀{w':World},(∀b,b≠X.N.CB→w'.heap[b]?=w.heap[b]?)→RK X.N.ty X.N.Wg (X.J i').S (w.at d) w':=fun e=>⟨fun b hb=>e b (C.ko.v b (C.ko.sj i' K b hb).1).2.2.1,fun⟨a,b,k⟩=>⟨a,b,rC k (e _ H.kJ.1)⟩⟩
   have ak:∀{w':World},(∀b,b≠X.N.CB→w'.heap[b]?=w.heap[b]?)→Leaves (s.D i').ρ (w.at d) w':=fun e=>Leaves.block fun b p hb=>e _ (C.ko.lt i' (by omega) b p hb).2.2.2.1
   have heap:∀(cap:Nat)(buf:Array Value)(x y:Nat),∀b,b≠X.N.CB→((w.at d).setChan X.N.CB cap buf false x y false).heap[b]?=w.heap[b]?:=fun cap buf x y b hb=>by rw[uO,dt (fun e=>hb e.1.symm)];rfl
   have ae:∀z1 z2 gm,s.wait=[]→a=parked gm (mj X z1 z2) .select→s.tag≠.qt→s.tag≠.sp→∃s' gs' w' kn t' a',oV X s' (n+1) gs' w' kn t' a'∧Lt2 (meas X s') (meas X s)∧tQ s s'∧(∀b,s.V b→w'.heap[b]?=w.heap[b]?)∧vK X s s' a a'∧tP X s' a':=by
    intro z1 z2 gm al ea k3 k4;have Z:=I.back;rw[al]at Z;have hp:partners (gs.setIfInBounds (X.N.B+i') ph) X.N.CB false=[(0,0)]:=by
     have am:(gs.setIfInBounds (X.N.B+i') ph)[0]?=some a:=by rw[dO (by omega)];exact h.main
     rw[partners_one am fun k g M hg=>C.offers H M hg _ _,ea,offersAt_parked_at (k:=0) (z:=z1) rfl (fun m cc hm O=>by
      match m,hm,O with
      |0,hm,_=>exact absurd rfl hm
      |1,_,O =>
       simp[mj]at O;subst O;simp only[rcase];intro e;have:=H.kJ.2.2;exact this (by injection e with e;injection e with e;exact e.symm)
      |m+2,_,O=>simp[mj]at O)]
     rfl
    have hT:=crowd_send_meets_sel (P:=X.P) (sl:=kn) hx (by rw[ab];exact hsend) Z (j:=0) (k:=0) (by omega) (by rw[h.main,ea]) (zj:=z1) rfl hp;have ay:((s.got++[i']).length+([]:List Nat).length)=s.got.length+([]:List Nat).length+1:=by simp
    obtain⟨s',k⟩:=C.sent H K h8 (gs':=(gs.setIfInBounds 0 (gm.finishComm X.P (mj X z1 z2) .select (0:Nat) ((X.J i').msg v') true)).setIfInBounds (X.N.B+i') (x.finishComm X.P #[scase X.N.CB ((X.J i').msg v') X.N.z] .send 0 undef false)) (m:=m) (by simp)
     (g':=x.finishComm X.P #[scase X.N.CB ((X.J i').msg v') X.N.z] .send 0 undef false) (by rw[fj (by simpa using af)]) (fun k M h0=>by rw[dO (dJ M),dO (by omega)])
     (w':=(w.at d).setChan X.N.CB X.N.n (([]:List Nat).map fun i=>(X.J i).msg (s.D i).v).toArray false (s.got.length+([]:List Nat).length+1) (s.got.length+1) false)
     (.r0 (ga RK.trans hgo (Y (heap _ _ _ _))) (W.leaves H.sync (ak (heap _ _ _ _)) rfl)) hn (got':=s.got++[i']) (wait':=[]) (by rw[al];simp) (d:=d) (by simp)
     (u:=MemOp.ofEvents (X.N.B+i') x.frame.fn x.frame.place #[]++#[{ g:=X.N.B+i',fn:=x.frame.fn,pos:=x.frame.place,act:=.send X.N.CB (s.got.length+([]:List Nat).length) },{ g:=0,fn:=gm.frame.fn,pos:=gm.frame.place,act:=.recv X.N.CB s.got.length X.N.n },{ g:=X.N.B+i',fn:=x.frame.fn,pos:=x.frame.place,act:=.sendDone X.N.CB (s.got.length+([]:List Nat).length) },{ g:=0,fn:=gm.frame.fn,pos:=gm.frame.place,act:=.recvDone X.N.CB s.got.length }])
     ⟨fun op r=>by simp[gJ]at r;rcases r with rfl|rfl|rfl|rfl<;>rfl,fun op r=>by simp[gJ]at r;rcases r with rfl|rfl|rfl|rfl<;>exact C.ko.kJ.2.1,fun op r=>by simp[gJ]at r;rcases r with rfl|rfl|rfl|rfl<;>simp,fun op r=>by simp[gJ]at r;rcases r with rfl|rfl|rfl|rfl<;>simp,fun op r=>by simp[gJ]at r;rcases r with rfl|rfl|rfl|rfl<;>simp⟩
    obtain⟨c1,c2,c3,c4,c5,c6,c7⟩:=k;refine⟨s',_,_,kn,_,gm.finishComm X.P (mj X z1 z2) .select (0:Nat) ((X.J i').msg v') true,⟨oK A (G.trans hT),?_,?_⟩,c2,c3.yr,fun b hb=>heap _ _ _ _ b (C.ko.v b hb).2.2.1,.served i' gm z1 z2 ea ?_ c4 c5 K,.run rfl⟩
    ·exact c1
    ·rw[dO (by omega),fj (by omega)]
    ·rw[c6,hv];rfl
   cases hm with
   |qb gm z1 z2 k1 k2 k3 k4=>exact ae z1 z2 gm k2 k1 k3 k4
   |run hr =>
    have hp:partners (gs.setIfInBounds (X.N.B+i') ph) X.N.CB false=[]:=partners_nil fun k g hg=>by
     by_cases M:k=0
     ·subst M;rw[dO (by omega),h.main]at hg;obtain rfl:=ff hg;exact gY (by rw[hr];simp) _ _
     ·exact C.offers H M hg _ _
    have hT:=crowd_send_room (P:=X.P) (sl:=kn) hx (by rw[ab];exact hsend) I.back (by simp;omega) hp;obtain⟨s',k⟩:=C.sent H K h8 (gs':=gs.setIfInBounds (X.N.B+i') (x.finishComm X.P #[scase X.N.CB ((X.J i').msg v') X.N.z] .send 0 undef false)) (m:=m) (by simp)
     (g':=x.finishComm X.P #[scase X.N.CB ((X.J i').msg v') X.N.z] .send 0 undef false) (by rw[fj af]) (fun k M h0=>by rw[dO (dJ M)])
     (w':=(w.at d).setChan X.N.CB X.N.n ((s.wait.map fun i=>(X.J i).msg (s.D i).v).toArray.push ((X.J i').msg v')) false (s.got.length+s.wait.length+1) s.got.length false)
     (.r0 (ga RK.trans hgo (Y (heap _ _ _ _))) (W.leaves H.sync (ak (heap _ _ _ _)) rfl)) hn (got':=s.got) (wait':=s.wait++[i']) (by simp) (d:=d) (by rw[←hv];simp[dQ])
     (u:=MemOp.ofEvents (X.N.B+i') x.frame.fn x.frame.place #[]++#[{ g:=X.N.B+i',fn:=x.frame.fn,pos:=x.frame.place,act:=.send X.N.CB (s.got.length+s.wait.length) },{ g:=X.N.B+i',fn:=x.frame.fn,pos:=x.frame.place,act:=.sendDone X.N.CB (s.got.length+s.wait.length) }])
     ⟨fun op r=>by simp[gJ]at r;rcases r with rfl|rfl<;>rfl,fun op r=>by simp[gJ]at r;rcases r with rfl|rfl<;>exact C.ko.kJ.2.1,fun op r=>by simp[gJ]at r;rcases r with rfl|rfl<;>simp,fun op r=>by simp[gJ]at r;rcases r with rfl|rfl<;>simp,fun op r=>by simp[gJ]at r;rcases r with rfl|rfl<;>simp⟩
    obtain⟨c1,c2,c3,c4,c5,c6,c7⟩:=k;exact⟨s',_,_,kn,_,a,⟨oK A (G.trans hT),c1,by rw[dO (by omega)];exact h.main⟩,c2,c3.yr,fun b hb=>heap _ _ _ _ b (C.ko.v b hb).2.2.1,.same rfl c4,.run hr⟩
  ·exact goes e1 e2 e3 Q.yr e5 e6 (aj Q) e7
 ·have ht:s.tag≠.sp:=fun e=>by have:=C.size.1 e;omega
  obtain⟨hsz,hj,_⟩:=C.size.2 ht;obtain rfl:i=X.N.B+X.N.n:=by omega
  obtain⟨g',w',es,tag',au,av,e1,e2,e3,Q,e5,e6⟩:=C.Kn H A ht hx aa U I;have h0:tQ s { s with tag:=tag',fc:=au,dc:=av }:=⟨rfl,rfl,rfl,rfl,rfl,⟨fun k=>absurd k e2,fun k=>absurd k ht⟩,fun _ _ _=>rfl⟩
  by_cases hq:tag'=.qt∧s.tag≠.qt
  ·obtain⟨aw,an⟩:=e6 hq.1 hq.2;have E:=fg (P:=X.P) (sl:=kn) (i:=X.N.B+X.N.n) hx (by rw[ab];exact e1);have ag:=e3.fin;simp only[hq.1,uL]at ag
   cases hm with
   |run hr=>exact⟨_,_,w',kn,_,a,⟨oK A (G.trans E),e3,by rw[gM _ _ _ _ (by omega),h.main,dM,fi hr]⟩,Q,h0,e5,.same rfl rfl,.run hr⟩
   |qb gm z1 z2 k1 k2 k3 k4 =>
    have ha:woken X.P x g' w' a={ a with status:=.running }:=by
     unfold Go.Conc.woken;rw[dr (by rcases an with e|e<;>simp[aw,e]),k1];exact again_some_closed (k:=1) (z:=z2) rfl ag
    exact⟨_,_,w',kn,_,{ a with status:=.running },⟨oK A (G.trans E),e3,by rw[gM _ _ _ _ (by omega),h.main,dM,ha]⟩,Q,h0,e5,.woken gm z1 z2 k1 rfl rfl,.run rfl⟩
  ·exact goes e1 e3 Q h0 rfl rfl (fun k k'=>hq ⟨k',k⟩) e5
end
end
section
open Go.Conc Go.ConcN Go.Proofs.YtjnkcibpkkjniaaGreat.kx
open Go.ConcR (KK wgBlock WgAt stA smA rd wr DC0)
variable [Scope]
section
variable {X:Ctx} {s:St} {n:Nat} {gs:Array Goroutine} {w w':World} {sl:Option (Nat×Nat)} {t:Trace} {a a':Goroutine}
def Ev0 (X:Ctx) (s:St) (B:Nat) (e:Event):Prop :=
 ∀x,(MemAct.ofEvent e).touch? = some x→x.loc.isMemory=true→(oq X.N x.loc∧x.kind≠.plain∧(x.kind=.said→s.tag=.sp))∨(∃b,lq b x.loc∧(s.V b∨B≤b)∧(x.write=true→s.W b∨B≤b))
theorem Dk(h:s.tag=.sp):nX X s=0:=by unfold nX;rw[h];rfl
theorem kO.Dl(hX:X.Good)(h:kO X s n gs w t){es:Array Event}(hm:gs[0]?=some a)(hn:∀i,i<X.N.n→kI (kK X.P X.pk (X.N.B+i) X.m0 X.t0) (n+1)=kI (kK X.P X.pk (X.N.B+i) X.m0 X.t0) n)(hsz:w.heap.size≤w'.heap.size)(aa:w'.os=w.os)(ab:∀b,b<w.heap.size→b≠X.N.Wg→¬s.W b→w'.heap[b]?=w.heap[b]?){st' sm':Int}{p' d0':Nat}(hp:s.j+p'≤X.N.n)(al:s.tag≠.sp→p'=0)(ag:WgAt X.N.ty X.N.Wg w' st' sm')(ad:∀tag',(tag'=s.tag∨(s.tag=.blk∧tag'=.w3))→Mode s.j p' s.D tag' st' sm')(am:∀e∈es,Ev0 X s w.heap.size e)(ah:∀e∈es,(MemAct.ofEvent e).low w'.heap.size)(an:∀e∈es,e.loc≠.mark (.release (stA X.N.Wg)))(ae:deafBehind s.d0 es=d0'):∃tag' K,(tag'=s.tag∨(s.tag=.blk∧tag'=.w3))∧kO X { s with p:=p',d0:=d0',tag:=tag',fc:=K,V:=fun b=>s.V b∨(w.heap.size≤b∧b<w'.heap.size),W:=fun b=>s.W b∨(w.heap.size≤b∧b<w'.heap.size) } (n+1) ((gs.map (woken X.P a a' w')).setIfInBounds 0 a') w' (t++MemOp.ofEvents 0 a.frame.fn a.frame.place es):=by
 have hB:=hX.pos;have az:=h.jn;have C:=h.ko;have ay:0<gs.size:=(dv.1 hm).1;have O:∀op∈MemOp.ofEvents 0 a.frame.fn a.frame.place es,op.g=0:=fun op E=>(oc E).1
 have H:∀k,k≠0→Deaf (t++MemOp.ofEvents 0 a.frame.fn a.frame.place es) k=Deaf t k:=fun k hk=>eU t (dJ hk) _ O
 have off:∀b,b<w.heap.size→b≠X.N.Wg→(s.V b→¬s.W b)→w'.heap[b]?=w.heap[b]?:=fun b h1 Q h3=>ab b h1 Q fun k=>h3 (C.wv b k) k
 have ao:w'.heap[X.N.CB]?=w.heap[X.N.CB]?:=off _ C.kJ.2.1 (dJ hX.kJ.1) fun k=>absurd rfl (C.v _ k).2.2.1
 have ap:w'.heap[X.N.CF]?=w.heap[X.N.CF]?:=off _ C.kJ.2.2 (dJ hX.kJ.2.1) fun k=>absurd rfl (C.v _ k).2.2.2.1
 have U:WgLive X.N.ty X.N.Wg w':=⟨_,_,ag⟩;have ai:∀i,i<X.N.n→Leaves (s.D i).ρ w w':=fun i I=>Leaves.block fun b p hb=>by
  have:=C.lt i I b p hb;exact off _ this.1 this.2.2.1 fun k=>absurd k this.2.1
 have af:∃tag' K,(s.tag≠.sp→∃c,gs[X.N.B+X.N.n]?=some c∧CSit X.P X.N X.Sc X.mw X.mC tag' K s.dc (woken X.P a a' w' c) w'∧Deaf t (X.N.B+X.N.n)=s.dc)∧(tag'=s.tag∨(s.tag=.blk∧tag'=.w3)):=by
  by_cases M:s.tag=.sp
  ·exact⟨s.tag,s.fc,fun e=>absurd M e,.inl rfl⟩
  ·obtain⟨c,h1,Q,h3⟩:=h.cl M;obtain⟨tag',f',k1,k2,Y,k4⟩:=Q.wokenBy hX.tO ⟨fun b hb=>off b (C.v b (C.sc M b hb).1).1 (C.v b (C.sc M b hb).1).2.1 fun _=>(C.sc M b hb).2,fun _=>U⟩ a a';exact⟨tag',f',fun _=>⟨c,h1,k1,h3⟩,Y⟩
 obtain⟨tag',K,af,G⟩:=af;have kp:=pn G;refine⟨tag',K,G,⟨?_,hp,fun i g1 h0 h1 Q=>?_,fun i I=>?_,fun i h1 Q=>?_,fun M=>?_,by rw[fo,h.hear,ae],fun j hj=>?_,⟨st',sm',ag,ad tag' G⟩,by rw[ao];exact h.back,h.nodup,h.list,by rw[ap,h.fin,←Af G],?_,?_,?_,fun i I aq=>?_,fun M=>?_,fun M=>?_,?_,dE h.base hsz,aa.trans h.os⟩⟩
 ·simp only[gK,gL];exact⟨fun e=>h.size.1 (kp.1 e),fun e=>⟨(h.size.2 fun k=>e (kp.2 k)).1,(h.size.2 fun k=>e (kp.2 k)).2.1,al fun k=>e (kp.2 k)⟩⟩
 ·rw[gM _ _ _ _ (by omega)]at Q;obtain⟨y,hy,rfl⟩:=eo.1 Q;have hq:=h.lv i y h0 h1 hy;rw[eT hq,H i (by omega)];exact hq
 ·obtain⟨g1,e1,e2,e3⟩:=h.wk i I;have aA:i<s.j:=I;refine⟨g1,by rw[gM _ _ _ _ (by omega),e1,dM,e2.woken],?_,by rw[H _ (by omega)];exact e3⟩;exact e2.rely hX.sync (hn i (by omega)) ⟨fun b hb=>off b (C.v b (C.sj i I b hb).1).1 (C.v b (C.sj i I b hb).1).2.1 fun _=>(C.sj i I b hb).2,fun _=>U⟩ (ai i (by omega)) aa
 ·have hu:=h.un i h1 Q;have hle:=ai i Q;rw[hu.1]at hle;exact⟨hu.1,HR.leaves hX.sync hu.2 hle aa⟩
 ·obtain⟨c,k1,k2,Y⟩:=af fun k=>M (kp.2 k)
  exact⟨_,by rw[gM _ _ _ _ (by omega),k1];rfl,k2,by rw[H _ (by omega)];exact Y⟩
 ·have ar:gs.size≤j:=by simpa using hj
  rw[H j (by omega)];exact h.fresh j ar
 ·have eK:∀(V W:Nat→Prop),KP X { s with p:=p',d0:=d0',tag:=tag',fc:=K,V:=V,W:=W }=KP X s:=fun V W=>by
   funext k;unfold KP;simp only[ne_eq,kp]
  have ec:∀(V W:Nat→Prop),nX X { s with p:=p',d0:=d0',tag:=tag',fc:=K,V:=V,W:=W }=nX X s:=fun V W=>by
   unfold nX;rcases G with e|⟨e1,e2⟩
   ·simp only[e]
   ·simp only[e1,e2,wZ]
  rw[eK,ec];have A:=C.xd hX (show s.j≤X.N.n by omega);refine h.tr.app0 A fun op E=>⟨O op E,fun x hx au=>?_⟩
  obtain⟨_,e,he,av⟩:=oc E;rw[av]at hx;rcases am e he x hx au with⟨k1,k2,Y⟩|⟨b,k1,k2,Y⟩
  ·exact .inl ⟨k1,k2,fun e=>Dk (Y e)⟩
  ·have aj:∀i,i<X.N.n→∀y p,(s.D i).ρ y=some p→p.block≠b:=fun i I y p hy e=>by
    have:=C.lt i I y p hy;rcases k2 with k2|k2
    ·exact this.2.1 (e▸k2)
    ·omega
   refine .inr ⟨fun Z=>?_,fun Z=>?_,fun k hk ⟨i,I,_,hl⟩=>?_,fun hw k hk ⟨b',aw,hS⟩=>?_⟩
   ·have aB:b=X.N.Wg∨b=X.N.CB∨b=X.N.CF:=Z.block.imp k1.uniq fun z=>z.imp k1.uniq k1.uniq
    have:=C.kJ;rcases k2 with k2|k2
    ·have:=C.v b k2;omega
    ·omega
   ·rcases k2 with k2|k2
    ·exact(C.v b k2).2.2.2.2 _ k1 Z
    ·have:=C.old _ b Z k1;omega
   ·obtain⟨y,p,h1,Q⟩:=hl.block;exact aj i I y p h1 (Q.uniq k1)
   ·obtain rfl:=k1.uniq aw;have ak:s.V b∧¬s.W b:=by
     rcases hS with⟨i,I,e,Z⟩|⟨e,Z⟩
     ·rcases hk with⟨a1,a2⟩|⟨a1,a2⟩
      ·exact C.sj i (by omega) b Z
      ·omega
     ·rcases hk with⟨a1,a2⟩|⟨a1,a2⟩
      ·omega
      ·exact C.sc a1 b Z
    rcases Y hw with Y|Y
    ·exact ak.2 Y
    ·have:=(C.v b ak.1).1;omega
 ·intro op E;rcases dS.1 E with k|k
  ·exact MemAct.low_mono hsz (h.low op k)
  ·obtain⟨_,e,he,ha⟩:=oc k;rw[ha];exact ah e he
 ·refine h.norel.app fun op E=>?_
  obtain⟨_,e,he,ha⟩:=oc E;rw[ha];exact yo (an e he)
 ·obtain⟨r,hr⟩:=h.rel i I aq;exact⟨r,hr.appNot fun op E=>by rw[O op E];omega⟩
 ·have:s.tag=.cl:=by
   rcases G with k|⟨_,k⟩
   ·exact k.symm.trans M
   ·rw[show tag'=Tg.cl from M]at k;cases k
  obtain⟨q,hq⟩:=h.acq this;exact⟨q,hq.app fun i r _ hr=>hr.appNot fun op E=>by rw[O op E];omega⟩
 ·have:s.tag=.qt:=by
   rcases G with k|⟨_,k⟩
   ·exact k.symm.trans M
   ·rw[show tag'=Tg.qt from M]at k;cases k
  obtain⟨q,p,hq⟩:=h.cls this;exact⟨q,p,hq.app (fun i r _ hr=>hr.appNot fun op E=>by rw[O op E];omega) fun op E hg=>by rw[O op E]at hg;omega⟩
 ·refine⟨fun i I b p hb=>?_,C.apart,C.oU,fun b hb=>?_,fun b hb=>hb.imp (C.wv b) id,fun i I b hb=>?_,fun M b hb=>?_,⟨dF C.kJ.1 hsz,dF C.kJ.2.1 hsz,dF C.kJ.2.2 hsz⟩,fun l b hl hb=>dF (C.old l b hl hb) hsz⟩
  ·have:=C.lt i I b p hb;exact⟨by omega,fun k=>k.elim this.2.1 fun k=>by omega,this.2.2⟩
  ·have:=C.kJ;rcases hb with hb|⟨aC,ax⟩
   ·have:=C.v b hb;exact⟨by omega,this.2⟩
   ·exact⟨ax,by omega,by omega,by omega,fun l hl Z=>by have:=C.old l b Z hl;omega⟩
  ·have:=C.sj i I b hb;exact⟨.inl this.1,fun k=>k.elim this.2 fun k=>by have:=(C.v b this.1).1;omega⟩
  ·have:=C.sc (fun k=>M (kp.2 k)) b hb;exact⟨.inl this.1,fun k=>k.elim this.2 fun k=>by have:=(C.v b this.1).1;omega⟩
structure kB (s s':St) (w w':World):Prop where
 j:s'.j=s.j
 p:s'.p=s.p
 d0:s'.d0=s.d0
 V:s'.V=s.V
 W:s'.W=s.W
 sp:s'.tag=.sp↔s.tag=.sp
 got:s'.got=s.got
 val:∀i∈s.got,(s'.D i).v=(s.D i).v
 heap:∀b,s.V b→w'.heap[b]?=w.heap[b]?
theorem kB.refl(s:St)(w:World):kB s s w w:=⟨rfl,rfl,rfl,rfl,rfl,Iff.rfl,rfl,fun _ _=>rfl,fun _ _=>rfl⟩
theorem kB.trans{s s' e:St}{w w' r:World}(h:kB s s' w w')(k:kB s' e w' r):kB s e w r :=
 ⟨k.j.trans h.j,k.p.trans h.p,k.d0.trans h.d0,k.V.trans h.V,k.W.trans h.W,k.sp.trans h.sp,k.got.trans h.got,fun i y=>(k.val i (h.got▸y)).trans (h.val i y),fun b hb=>(k.heap b (h.V▸hb)).trans (h.heap b hb)⟩
theorem kB.at(s:St)(w:World)(d:Nat):kB s s w (w.at d):=⟨rfl,rfl,rfl,rfl,rfl,Iff.rfl,rfl,fun _ _=>rfl,fun _ _=>rfl⟩
theorem oV.turn[kD X.P][lV X.P](K:X.Good):∀{s:St}{n:Nat}{gs:Array Goroutine}{w:World}{sl:Option (Nat×Nat)} {t:Trace},oV X s n gs w sl t a→a.status=.running →
  ∃n' s' gs' w' kn t' d e,oV X s' n' gs' w' kn t' a∧kB s s' w (w'.at d)∧stepT X.P (crowd gs' w' kn)=runT X.P (crowd gs' (w'.at d) e) 0∧kO X s' n' gs' (w'.at d) t' ∧
   ∀i,i<X.N.n→kI (kK X.P X.pk (X.N.B+i) X.m0 X.t0) (n'+1)=kI (kK X.P X.pk (X.N.B+i) X.m0 X.t0) n':=by
 have wf:WellFounded Lt2:=Prod.lex Nat.lt_wfRel Nat.lt_wfRel |>.wf
 suffices key:∀z s n gs w sl t,meas X s=z→oV X s n gs w sl t a→a.status=.running →
   ∃n' s' gs' w' kn t' d e,oV X s' n' gs' w' kn t' a∧kB s s' w (w'.at d)∧stepT X.P (crowd gs' w' kn)=runT X.P (crowd gs' (w'.at d) e) 0∧kO X s' n' gs' (w'.at d) t' ∧
    ∀i,i<X.N.n→kI (kK X.P X.pk (X.N.B+i) X.m0 X.t0) (n'+1)=kI (kK X.P X.pk (X.N.B+i) X.m0 X.t0) n' from fun {s n gs w sl t} h hr=>key _ s n gs w sl t rfl h hr
 intro z
 induction z using wf.induction with
 |_ z M =>
  intro s n gs w sl t A h hr;rcases h.env K (.run hr)with⟨d,kn,_,C,E,r⟩|⟨s',gs',w',kn,t',a',C,E,r,O,Q,h6⟩
  ·exact⟨n,s,gs,w,sl,t,d,kn,h,kB.at s w d,C,E,r⟩
  ·cases Q with
   |same y U =>
    subst y;obtain⟨n',s2,G,w2,H,t2,d,I,k1,k2,Y⟩:=M (meas X s') (A▸E) s' (n+1) gs' w' kn t' rfl C hr;refine⟨n',s2,G,w2,H,t2,d,I,k1,kB.trans ⟨r.j,r.p,r.d0,r.V,r.W,r.sp,U,fun i Z=>?_,O⟩ k2,Y⟩;have:=(h.qG.list i).1 (gZ _ Z);exact r.val i this.1 this.2
   |served i gm z1 z2 y=>rw[y]at hr;cases hr
   |woken gm z1 z2 y=>rw[y]at hr;cases hr
end
end
section
open Go.Conc Go.ConcN Go.Proofs.YtjnkcibpkkjniaaGreat.kx
open Go.ConcR (KK wgBlock WgAt stA smA rd wr DC0)
variable [Scope]
section
variable {X:Ctx} {s:St} {n:Nat} {gs:Array Goroutine} {w w':World} {sl:Option (Nat×Nat)} {t:Trace} {a a':Goroutine}
def At (X:Ctx) (s:St) (w:World) (a:Goroutine):Prop:=∃n gs sl t,oV X s n gs w sl t a
theorem kO.at_(e:X.Good)(h:kO X s n gs w t)(hr:runNT X.P n X.m0 X.t0=(.next (crowd gs w sl),t))(hm:gs[0]?=some a):At X s w a:=⟨n,gs,sl,t,hr,h,hm⟩
theorem At.go[kD X.P][lV X.P](H:X.Good)(h:At X s w a)(hr:a.status=.running){Post:St→World→Goroutine→Prop}(y:∀s1 w1,kB s s1 w w1→(∃n gs t,kO X s1 n gs w1 t)→∃a' w' es d0',stepG X.P true a w1=.go a' w' es∧w1.heap.size≤w'.heap.size∧w'.os=w1.os∧(∀b,b<w1.heap.size→¬s1.W b→w'.heap[b]?=w1.heap[b]?) ∧
   (∀e∈es,Ev0 X s1 w1.heap.size e∧(MemAct.ofEvent e).low w'.heap.size∧e.loc≠.mark (.release (stA X.N.Wg)))∧deafBehind s1.d0 es=d0' ∧
   ∀tag' z,(tag'=.sp↔s1.tag=.sp)→Post { s1 with d0:=d0',tag:=tag',fc:=z,V:=fun b=>s1.V b∨(w1.heap.size≤b∧b<w'.heap.size),W:=fun b=>s1.W b∨(w1.heap.size≤b∧b<w'.heap.size) } w' a'):∃s' w' a',At X s' w' a'∧Post s' w' a':=by
 obtain⟨n,gs,sl,t,K⟩:=h;obtain⟨n1,s1,M,w1,O,t1,d,C,A,Q,U,r,Y⟩:=K.turn H hr;obtain⟨a',w',es,d0',Z,e2,e3,I,E,e6,e7⟩:=y s1 (w1.at d) Q ⟨_,_,_,r⟩;obtain⟨st,sm,hw,hm⟩:=r.wg;have G:w'.heap[X.N.Wg]?=(w1.at d).heap[X.N.Wg]?:=I _ r.ko.kJ.1 fun k=>(r.ko.v _ (r.ko.wv _ k)).2.1 rfl
 obtain⟨tag',z,k1,k2⟩:=r.Dl H A.main (a':=a') (es:=es) Y e2 e3 (fun b hb _ hW=>I b hb hW) r.jn (fun k=>(r.size.2 k).2.2) (rC hw G) (fun tag' ht=>hm.retag ht) (fun e he=>(E e he).1) (fun e he=>(E e he).2.1) (fun e he=>(E e he).2.2) e6;refine⟨_,w',a',⟨n1+1,_,C,_,oK A.run (U.trans (fg (P:=X.P) (i:=0) A.main Z)),k2,?_⟩,e7 tag' z (pn k1)⟩;rw[gN _ _ _ (dv.1 A.main).1]
def DM (V W:Nat→Prop) (w w':World) (es:Array Event):Prop :=
 (∀b,¬W b→w'.heap[b]?=w.heap[b]?)∧w'.heap.size=w.heap.size∧w'.os=w.os∧∀e∈es,∃a wr,e=⟨.cell a,wr,false⟩∧V a.block∧(wr=true→W a.block)
theorem DM.p9{V W:Nat→Prop}{es:Array Event}(h:DC0 w w' es):DM V W w w' es:=by
 obtain⟨rfl,rfl⟩:=h;exact⟨fun _ _=>rfl,rfl,rfl,by simp⟩
structure Same (s s':St) (w w':World):Prop where
 j:s'.j=s.j
 p:s'.p=s.p
 d0:s'.d0=s.d0
 V:s'.V=s.V
 W:s'.W=s.W
 sp:s'.tag=.sp↔s.tag=.sp
 got:s'.got=s.got
 val:∀i∈s.got,(s'.D i).v=(s.D i).v
 heap:∀b,s.V b→¬s.W b→w'.heap[b]?=w.heap[b]?
theorem Same.refl(s:St)(w:World):Same s s w w:=⟨rfl,rfl,rfl,rfl,rfl,Iff.rfl,rfl,fun _ _=>rfl,fun _ _ _=>rfl⟩
theorem Same.trans{s s' e:St}{w w' r:World}(h:Same s s' w w')(k:Same s' e w' r):Same s e w r :=
 ⟨k.j.trans h.j,k.p.trans h.p,k.d0.trans h.d0,k.V.trans h.V,k.W.trans h.W,k.sp.trans h.sp,k.got.trans h.got,fun i y=>(k.val i (h.got▸y)).trans (h.val i y),fun b hb hw=>(k.heap b (h.V▸hb) (h.W▸hw)).trans (h.heap b hb hw)⟩
theorem kO.rk{s1:St}{w1:World}{n1:Nat}{e:Array Goroutine}{t1:Trace}(h:kO X s1 n1 e w1 t1)(r:kB s s1 w w1):RK X.N.ty X.N.Wg s.V w w1 :=
 ⟨r.heap,fun _=>let ⟨st,sm,hw,_⟩:=h.wg;⟨st,sm,hw⟩⟩
theorem At.walk[kD X.P][lV X.P](K:X.Good){Stop:Goroutine→World→Prop}(M:∀g w,Stop g w→g.status=.running):∀{m:Nat}{s:St}{w:World}{a:Goroutine},At X s w a→Goes X.P true (RK X.N.ty X.N.Wg s.V) (DM s.V s.W) Stop m a w →
  ∃s' w' a',At X s' w' a'∧(∀w₁,RK X.N.ty X.N.Wg s'.V w' w₁→Stop a' w₁)∧Same s s' w w':=by
 intro m
 induction m with
 |zero =>
  intro s w a h C;exact⟨s,w,a,h,C,Same.refl s w⟩
 |succ m O =>
  intro s w a h C;rcases C with y|⟨hr,z⟩
  ·exact⟨s,w,a,h,y,Same.refl s w⟩
  ·obtain⟨s',w',a',k1,k2,Q⟩:=h.go K hr (Post:=fun s' w' a'=>Same s s' w w'∧Goes X.P true (RK X.N.ty X.N.Wg s'.V) (DM s'.V s'.W) Stop m a' w') fun s1 w1 r A=>by
    obtain⟨n1,U,t1,A⟩:=A;obtain⟨a',w',es,Y,⟨d1,d2,d3,d4⟩,Z⟩:=goes_elim (z w1 (A.rk r));have hV:∀b,(s1.V b∨(w1.heap.size≤b∧b<w'.heap.size))↔s1.V b:=fun b=>⟨fun h=>h.elim id fun h=>by omega,.inl⟩
    have hW:∀b,(s1.W b∨(w1.heap.size≤b∧b<w'.heap.size))↔s1.W b:=fun b=>⟨fun h=>h.elim id fun h=>by omega,.inl⟩
    have G:(fun b=>s1.V b∨(w1.heap.size≤b∧b<w'.heap.size))=s.V:=funext fun b=>(propext (hV b)).trans (congrFun r.V b)
    have H:(fun b=>s1.W b∨(w1.heap.size≤b∧b<w'.heap.size))=s.W:=funext fun b=>(propext (hW b)).trans (congrFun r.W b)
    refine⟨a',w',es,s1.d0,Y,by omega,d3,fun b _ hb=>d1 b (by rw[←r.W];exact hb),fun e he=>?_,?_,fun tag' aa ht=>⟨⟨r.j,r.p,r.d0,G,H,ht.trans r.sp,r.got,r.val,fun b hb hw=>(d1 b hw).trans (r.heap b hb)⟩,?_⟩⟩
    ·obtain⟨ad,wr,rfl,E,I⟩:=d4 e he;rw[←r.V]at E;rw[←r.W]at I;refine⟨fun x hx _=>?_,?_,by simp⟩
     ·have:x=⟨.cell ad,wr,.plain⟩:=by cases wr<;>simp[MemAct.ofEvent,MemAct.touch?]at hx<;>exact hx.symm
      subst this;exact .inr ⟨ad.block,rfl,.inl E,fun hw=>.inl (I hw)⟩
     ·have:=(A.ko.v _ E).1;show ad.block<_;omega
    ·exact xe (fun e he=>by obtain⟨ad,wr,rfl,_⟩:=d4 e he;simp) _
    ·show Goes X.P true (RK X.N.ty X.N.Wg fun b=>s1.V b∨(w1.heap.size≤b∧b<w'.heap.size)) (DM (fun b=>s1.V b∨(w1.heap.size≤b∧b<w'.heap.size)) fun b=>s1.W b∨(w1.heap.size≤b∧b<w'.heap.size)) Stop m a' w';rw[G,H];exact Z
   obtain⟨s2,w2,a2,l1,l2,l3⟩:=O k1 Q;exact⟨s2,w2,a2,l1,l2,k2.trans l3⟩
end
end
section
open Go.Conc Go.ConcN Go.Proofs.YtjnkcibpkkjniaaGreat.kx
open Go.ConcR (KK wgBlock WgAt stA smA rd wr DC0)
variable [Scope]
section
variable {X:Ctx} {s:St} {n:Nat} {gs:Array Goroutine} {w w':World} {sl:Option (Nat×Nat)} {t:Trace} {a a':Goroutine}
structure qZ (s s':St) (w w':World):Prop where
 j:s'.j=s.j
 V:s'.V=s.V
 W:s'.W=s.W
 sp:s'.tag=.sp↔s.tag=.sp
 got:s'.got=s.got
 val:∀i∈s.got,(s'.D i).v=(s.D i).v
 heap:∀b,s.V b→¬s.W b→w'.heap[b]?=w.heap[b]?
theorem Same.xh{s':St}(h:Same s s' w w'):qZ s s' w w':=⟨h.j,h.V,h.W,h.sp,h.got,h.val,h.heap⟩
theorem qZ.trans{s s' e:St}{w w' r:World}(h:qZ s s' w w')(k:qZ s' e w' r):qZ s e w r :=
 ⟨k.j.trans h.j,k.V.trans h.V,k.W.trans h.W,k.sp.trans h.sp,k.got.trans h.got,fun i y=>(k.val i (h.got▸y)).trans (h.val i y),fun b hb hw=>(k.heap b (h.V▸hb) (h.W▸hw)).trans (h.heap b hb hw)⟩
variable {m:Nat}
theorem Goes.dm{V W:Nat→Prop}{R:World→World→Prop}{Stop:Goroutine→World→Prop}(h:Goes X.P true R DC0 Stop m a w):Goes X.P true R (DM V W) Stop m a w:=Goes.vI (fun _ _ _=>DM.p9) h
variable {Next:Goroutine→World→Prop}
theorem At.says[kD X.P][lV X.P](E:X.Good)(h:At X s w a){e:Event}(y:∀w₁,RK X.N.ty X.N.Wg s.V w w₁→oT X.P true (RK X.N.ty X.N.Wg s.V) e Next a w₁)(A:∀s1,(s1.tag=.sp↔s.tag=.sp)→∀B,X.N.Wg<B→Ev0 X s1 B e∧(MemAct.ofEvent e).low B∧e.loc≠.mark (.release (stA X.N.Wg))):∃s' w' a',At X s' w' a'∧(∃m,Goes X.P true (RK X.N.ty X.N.Wg s'.V) DC0 Next m a' w')∧qZ s s' w w'∧s'.p=s.p∧s'.d0=deafBehind s.d0 #[e]:=by
 obtain⟨s',w',a',k1,k2⟩:=h.go E (y w (RK.refl w)).1 (Post:=fun s' w' a'=>(∃m,Goes X.P true (RK X.N.ty X.N.Wg s'.V) DC0 Next m a' w')∧qZ s s' w w'∧s'.p=s.p∧s'.d0=deafBehind s.d0 #[e]) fun s1 w1 r z=>by
  obtain⟨n1,G,t1,z⟩:=z;obtain⟨_,a',H,m,I⟩:=y w1 (z.rk r);have C:(fun b=>s1.V b∨(w1.heap.size≤b∧b<w1.heap.size))=s.V:=funext fun b=>(propext ⟨fun h=>h.elim id fun h=>by omega,.inl⟩).trans (congrFun r.V b)
  have K:(fun b=>s1.W b∨(w1.heap.size≤b∧b<w1.heap.size))=s.W:=funext fun b=>(propext ⟨fun h=>h.elim id fun h=>by omega,.inl⟩).trans (congrFun r.W b)
  refine⟨a',w1,#[e],_,H,dD _,rfl,fun _ _ _=>rfl,fun x hx=>?_,rfl,fun tag' M O=>⟨⟨m,?_⟩,⟨r.j,C,K,O.trans r.sp,r.got,r.val,fun b hb _=>r.heap b hb⟩,r.p,by rw[←r.d0]⟩⟩
  ·rw[gX]at hx;subst hx;exact A s1 r.sp _ z.ko.kJ.1
  ·show Goes X.P true (RK X.N.ty X.N.Wg fun b=>s1.V b∨(w1.heap.size≤b∧b<w1.heap.size)) DC0 Next m a' w1;rw[C];exact I
 exact⟨s',w',a',k1,k2⟩
theorem At.add[kD X.P][lV X.P](z:X.Good)(h:At X s w a)(al:∀g w,Next g w→g.status=.running)(kp:s.tag=.sp)(hp:s.p=0)(hd:s.d0=0)(hj:s.j<X.N.n)(hG:Goes X.P true (RK X.N.ty X.N.Wg s.V) DC0 (CW X.P true (RK X.N.ty X.N.Wg s.V) X.N.ty X.N.Wg Next) m a w):∃s' w' a',At X s' w' a'∧(∀w₁,RK X.N.ty X.N.Wg s'.V w' w₁→Next a' w₁)∧qZ s s' w w'∧s'.p=1∧s'.d0=0:=by
 have A:∀{m:Mark},(m=.disable∨m=.enable)→∀s1:St,∀B,X.N.Wg<B→Ev0 X s1 B (Go.ConcR.mk m)∧(MemAct.ofEvent (Go.ConcR.mk m)).low B∧(Go.ConcR.mk m).loc≠.mark (.release (stA X.N.Wg)):=fun hm s1 B hB=>by
  rcases hm with rfl|rfl
  ·exact⟨fun x hx=>by simp[Go.ConcR.mk,MemAct.ofEvent,MemAct.touch?]at hx,trivial,by simp[Go.ConcR.mk]⟩
  ·exact⟨fun x hx=>by simp[Go.ConcR.mk,MemAct.ofEvent,MemAct.touch?]at hx,trivial,by simp[Go.ConcR.mk]⟩
 obtain⟨s1,w1,a1,h1,q1,r1⟩:=h.walk z (fun g w k=>k.1) (Goes.dm hG);rw[←r1.V]at q1;obtain⟨s2,w2,a2,h2,⟨m2,q2⟩,r2,am,I⟩:=h1.says z q1 fun s1 _=>A (.inl rfl) s1
 rw[r1.d0,hd]at I;have I:s2.d0=1:=I;obtain⟨y,w3,a3,h3,q3,r3⟩:=h2.walk z (fun g w k=>k.1) (Goes.dm q2);have K:qZ s y w w3:=(r1.xh.trans r2).trans r3.xh;have ab:y.tag=.sp:=K.sp.2 kp;have an:y.p=0:=by rw[r3.p,am,r1.p,hp]
 have ao:y.d0=1:=by rw[r3.d0,I]
 have ap:s1.V=y.V:=r1.V.trans K.V.symm;obtain⟨n3,aF,aG,t3,aq⟩:=h3;obtain⟨n4,r,aH,w4,aI,t4,d,ar,f1,f2,f3,f4,f5⟩:=aq.turn z (q3 w3 (RK.refl w3)).1;have C:r.tag=.sp:=f2.sp.2 ab;have au:r.p=0:=f2.p.trans an;have aJ:r.j<X.N.n:=by rw[f2.j,K.j];exact hj
 obtain⟨st,sm,U,av⟩:=f4.wg;obtain⟨rfl,rfl,aw,_⟩:=av.opened (by rw[C];trivial);rw[au,gR]at U;have aK:=Vc_le r.j r.D;have aE:=z.qF;obtain⟨_,hA⟩:=q3 (w4.at d) (f4.rk f2);obtain⟨a5,e1,e2,e3⟩:=hA (Vc r.j r.D) (by omega) U;have M:=uN (X:=X) (a:=stA X.N.Wg) rfl (.inl rfl);have ae:((Vc r.j r.D:Nat):Int)+1=((Vc r.j r.D+1:Nat):Int):=by omega
 obtain⟨O,E⟩:∃x,x=(w4.at d).setCell (stA X.N.Wg) (.int .u64 ((((Vc r.j r.D:Nat):Int)+1)*KK)):=⟨_,rfl⟩;have af:O.heap.size=(w4.at d).heap.size:=by rw[E];simp[World.setCell]
 have G:∀b,b≠X.N.Wg→O.heap[b]?=(w4.at d).heap[b]?:=fun b hb=>by rw[E];exact sq _ _ _ hb
 have ag:O.os=(w4.at d).os:=by rw[E];rfl
 have ah:WgAt X.N.ty X.N.Wg O ((((Vc r.j r.D:Nat):Int)+1)*KK) 0:=by rw[E];exact U.setSt _
 rw[←E]at e1 e2 e3;have Q:∀tag',(tag'=r.tag∨(r.tag=.blk∧tag'=.w3))→Mode r.j 1 r.D tag' ((((Vc r.j r.D:Nat):Int)+1)*KK) 0:=fun tag' ht=>by
  have:tag'=.sp:=(pn ht).2 C;subst this;rw[ae];exact .opn trivial aw fun vs e=>by cases e
 have ai:∀e∈#[rd (stA X.N.Wg),wr (stA X.N.Wg)],Ev0 X r (w4.at d).heap.size e:=fun e he x hx ax=>by
  rcases M.1 e he with k|⟨ad,wr,rfl,k⟩
  ·rw[k]at hx;cases hx
  ·have:x=⟨.cell ad,wr,.atomic⟩:=by cases wr<;>simp[MemAct.ofEvent,MemAct.touch?]at hx<;>exact hx.symm
   subst this;exact .inl ⟨.inl ⟨ad,rfl,k⟩,by simp,by simp⟩
 obtain⟨tag',aL,k1,k2⟩:=f4.Dl z f1.main (a':=a5) (es:=#[rd (stA X.N.Wg),wr (stA X.N.Wg)]) f5 (w':=O) (by omega) ag (fun b _ hb _=>G b hb) (p':=1) (d0':=1) (by omega) (fun k=>absurd C k) ah Q ai
  (M.2.1 _ (by rw[af];exact f4.ko.kJ.1)) M.2.2.1 (by rw[f2.d0,ao];exact M.2.2.2.1)
 have eV:(fun b=>r.V b∨((w4.at d).heap.size≤b∧b<O.heap.size))=y.V:=funext fun b=>(propext ⟨fun h=>h.elim id fun h=>by omega,.inl⟩).trans (congrFun f2.V b)
 have eW:(fun b=>r.W b∨((w4.at d).heap.size≤b∧b<O.heap.size))=y.W:=funext fun b=>(propext ⟨fun h=>h.elim id fun h=>by omega,.inl⟩).trans (congrFun f2.W b)
 have ay:∃s5,At X s5 O a5∧qZ s s5 w O∧s5.p=1∧s5.d0=1∧s5.V=y.V:=by
  refine⟨_,⟨n4+1,_,ar,_,oK f1.run (f3.trans (fg (P:=X.P) (i:=0) f1.main e1)),k2,by rw[gN _ _ _ (dv.1 f1.main).1]⟩,K.trans ⟨f2.j,eV,eW,((pn k1).trans (f2.sp)),f2.got,f2.val,fun b hb hw=>?_⟩,rfl,rfl,eV⟩;have az:b≠X.N.Wg:=fun e=>by
   have:=f4.ko.v b (by rw[f2.V];exact hb);exact this.2.1 e
  exact(G b az).trans (f2.heap b hb)
 clear k2 k1;obtain⟨s5,h5,r5,aj,ak,Y⟩:=ay;rw[ap]at e2 e3;have last:∀{s6:St}{w6:World}{a6:Goroutine},At X s6 w6 a6→qZ s s6 w w6→s6.p=1→s6.d0=1→s6.V=y.V→(∃m,Goes X.P true (RK X.N.ty X.N.Wg y.V) DC0 (oT X.P true (RK X.N.ty X.N.Wg y.V) (Go.ConcR.mk .enable) Next) m a6 w6) →
   ∃s' w' a',At X s' w' a'∧(∀w₁,RK X.N.ty X.N.Wg s'.V w' w₁→Next a' w₁)∧qZ s s' w w'∧s'.p=1∧s'.d0=0:=by
  intro s6 w6 a6 h6 r6 aA aB aC ⟨m6,q6⟩;rw[←aC]at q6;obtain⟨s7,w7,a7,h7,q7,H⟩:=h6.walk z (fun g w k=>k.1) (Goes.dm q6);rw[←H.V]at q7;obtain⟨s8,w8,a8,h8,⟨m8,q8⟩,r8,Z,aa⟩:=h7.says z q7 fun s1 _=>A (.inr rfl) s1
  obtain⟨s9,w9,a9,h9,q9,r9⟩:=h8.walk z al (Goes.dm q8);exact⟨s9,w9,a9,h9,q9,((r6.trans H.xh).trans r8).trans r9.xh,by rw[r9.p,Z,H.p,aA],by rw[r9.d0,aa,H.d0,aB];rfl⟩
 by_cases hv:Vc r.j r.D=0
 ·obtain⟨m6,q6⟩:=e2 hv;rw[←Y]at q6;obtain⟨s7,w7,a7,h7,q7,H⟩:=h5.walk z (fun g w k=>k.1) (Goes.dm q6);rw[←H.V]at q7;obtain⟨s8,w8,a8,h8,q8,r8,Z,aa⟩:=h7.says z q7 fun s1 aD B hB=>⟨fun x hx ax=>by
   have:x=⟨.cell (smA X.N.Wg),false,.said⟩:=by simp[MemAct.ofEvent,MemAct.touch?]at hx;exact hx.symm
   subst this;exact .inl ⟨.inl ⟨_,rfl,rfl⟩,by simp,fun _=>aD.2 (H.sp.2 (r5.sp.2 kp))⟩,hB,by simp⟩
  have e7:s7.V=y.V:=H.V.trans Y;rw[r8.V,e7]at q8;exact last h8 ((r5.trans H.xh).trans r8) (by rw[Z,H.p,aj]) (by rw[aa,H.d0,ak];rfl) (r8.V.trans e7) q8
 ·exact last h5 r5 aj ak Y (e3 hv)
end
end
section
open Go.Conc Go.ConcN Go.Proofs.YtjnkcibpkkjniaaGreat.kx
open Go.ConcR (KK wgBlock WgAt stA smA rd wr DC0)
variable [Scope]
variable {P:Program} {i:Nat}
theorem WSit.Kr{N:nj}{pk:Machine→Nat×Nat×Option (Nat×Nat)}{m0:Machine}{t0:Trace}{Gt:Nat→Tape}{J z:Nat→me}{n:Nat}{d:WD}{g:Goroutine}{w:World}(e:z i=J i)(h:WSit P N pk m0 t0 Gt J i n d g w):WSit P N pk m0 t0 Gt z i n d g w:=by
 cases h with
 |pre y r=>rw[←e]at y r ⊢;exact .pre y r
 |si y r A I C E G H=>rw[←e]at A C E G H;exact .si y r A I C E G H
 |post y r=>rw[←e]at y r;exact .post y r
 |r0 y r=>rw[←e]at y r;exact .r0 y r
 |k1 y r=>rw[←e]at y r;exact .k1 y r
 |d1 y r=>rw[←e]at y r;exact .d1 y r
 |d2 y r=>rw[←e]at y r;exact .d2 y r
 |d3 y r=>rw[←e]at y r;exact .d3 y r
 |d4 y r=>rw[←e]at y r;exact .d4 y r
 |quit y r=>rw[←e]at r;exact .quit y r
def me.kX (J:me) (S:Nat→Prop):me:={ J with S:=S }
def Ctx.kX (X:Ctx) (j:Nat) (S:Nat→Prop):Ctx:={ X with J:=upd X.J j ((X.J j).kX S) }
theorem me.Good.kX{J:me}(h:J.Good P)(S:Nat→Prop):(J.kX S).Good P:=⟨h.C8,h.rel,h.calls,h.shape⟩
variable {X:Ctx} {j:Nat} {S:Nat→Prop}
theorem vL(h:i≠j):(X.kX j S).J i=X.J i:=fp _ _ h
theorem sY:(X.kX j S).J j=(X.J j).kX S:=fl _ _ _
theorem Ak(i:Nat):((X.kX j S).J i).ρ=(X.J i).ρ∧((X.kX j S).J i).wS=(X.J i).wS∧((X.kX j S).J i).msg=(X.J i).msg:=by
 by_cases h:i=j
 ·subst h;rw[sY];exact⟨rfl,rfl,rfl⟩
 ·rw[vL h];exact⟨rfl,rfl,rfl⟩
theorem Ctx.Good.kX{X:Ctx}(h:X.Good)(j:Nat)(S:Nat→Prop):(X.kX j S).Good where
 sync:=h.sync
 pos:=h.pos
 qE:=fun i r=>by
  by_cases e:i=j
  ·subst e;rw[sY];exact(h.qE i r).kX S
  ·rw[vL e];exact h.qE i r
 anch:=h.anch
 tO:=h.tO
 glue:=h.glue
 qF:=h.qF
 yn:=h.yn
 kJ:=h.kJ
 oU:=h.oU
section
variable {X:Ctx} {s:St} {n:Nat} {gs:Array Goroutine} {w w':World} {sl:Option (Nat×Nat)} {t:Trace} {a a':Goroutine}
theorem Dm(t:Trace)(fn:FuncId)(pos:String)(k:Nat)(x y:MemOp):t++((MemOp.ofEvents 0 fn pos #[]).push x |>.push y)=t++#[x,y]:=by
 simp[gJ]
theorem At.fork[kD X.P][lV X.P](hX:X.Good)(h:At X s w a)(hr:a.status=.running)(kp:s.tag=.sp)(hp:s.p=1)(hd:s.d0=0)(hj:s.j<X.N.n){S':Nat→Prop}(hS:∀b,S' b→s.V b){Post:Goroutine→World→Prop}(hgo:∀w₁,RK X.N.ty X.N.Wg s.V w w₁→∃a' child,stepG X.P true a w₁=.spawn a' child w₁ #[]∧(∃m,Goes X.P false (RK X.N.ty X.N.Wg S') (DQ S') (yk X.P X.N ((X.J s.j).kX S')) m child w₁)∧Post a' w₁):∃s' w' a',At (X.kX s.j S') s' w' a'∧Post a' w'∧s'.j=s.j+1∧s'.p=0∧s'.d0=0∧s'.V=s.V∧s'.W=(fun b=>s.W b∧¬S' b)∧s'.tag=.sp∧s'.got=s.got∧∀b,s.V b→w'.heap[b]?=w.heap[b]?:=by
 obtain⟨n,gs,sl,t,hn⟩:=h;obtain⟨n1,s1,U,w1,aE,t1,d,am,f1,f2,f3,f4,f5⟩:=hn.turn hX hr;obtain⟨a',child,e1,⟨m,e2⟩,e3⟩:=hgo (w1.at d) (f4.rk f2);have hB:=hX.pos;have z:s1.tag=.sp:=f2.sp.2 kp;have aw:s1.p=1:=f2.p.trans hp;have an:s1.d0=0:=f2.d0.trans hd;have ad:s1.j=s.j:=f2.j;have hsz:=f4.size.1 z;have M:=f4.ko;have hT:=runT_crowd_spawn (P:=X.P) (sl:=am) (i:=0) f1.main e1;rw[hsz]at hT;have ah:=f4.un s.j (by omega) hj;have av:child.status=.running:=by
  have:=(WSit.pre (pk:=X.pk) (m0:=X.m0) (t0:=X.t0) (Gt:=X.Gt) (J:=(X.kX s.j S').J) (i:=s.j) (n:=n1+1) (by rw[sY];exact e2) (by rw[sY];exact ah.2)).runs (by simp);exact this
 generalize hx:({ g:=0,fn:=a.frame.fn,pos:=a.frame.place,act:=.go (X.N.B+s1.j) }:MemOp)=x at hT;generalize hy:({ g:=X.N.B+s1.j,fn:=child.frame.fn,pos:=a.frame.place,act:=.start }:MemOp)=y at hT;have Z:x.g=0∧x.act=.go (X.N.B+s1.j):=by subst hx;exact⟨rfl,rfl⟩
 have aa:y.g=X.N.B+s1.j∧y.act=.start:=by subst hy;exact⟨rfl,rfl⟩
 have ao:∀op∈#[x,y],op.act≠.mark .disable∧op.act≠.mark .enable:=fun op G=>by
  simp only[fM,fN,fO,fP]at G;rcases G with rfl|rfl
  ·rw[Z.2];simp
  ·rw[aa.2];simp
 have ap:∀op∈#[x,y],op.act.touch? = none:=fun op G=>by
  simp only[fM,fN,fO,fP]at G;rcases G with rfl|rfl
  ·rw[Z.2];rfl
  ·rw[aa.2];rfl
 have E:∀k,Deaf (t1++#[x,y]) k=Deaf t1 k:=fun k=>gT t1 k _ ao
 have aq:Deaf t1 (X.N.B+s1.j)=0:=f4.fresh _ (by omega);obtain⟨st,sm,hw,hm⟩:=f4.wg;obtain⟨rfl,rfl,ho,_⟩:=hm.opened (by rw[z];trivial);have I:∀i,i<s1.j→upd s1.D s.j (⟨10,m,0,(X.J s.j).ρ,undef⟩:WD) i=s1.D i:=fun i K=>fp _ _ (by omega)
 have ae:∀i,(upd s1.D s.j (⟨10,m,0,(X.J s.j).ρ,undef⟩:WD) i).ρ=(s1.D i).ρ:=fun i=>by
  by_cases e:i=s.j
  ·subst e;rw[fl];exact ah.1.symm
  ·rw[fp _ _ e]
 have ar:∀b,S' b→s1.V b:=fun b hb=>by rw[f2.V];exact hS b hb
 refine⟨{ s1 with j:=s1.j+1,p:=0,D:=upd s1.D s.j ⟨10,m,0,(X.J s.j).ρ,undef⟩,W:=fun b=>s1.W b∧¬S' b },w1.at d,a',⟨n1+1,(U.setIfInBounds 0 a').push child,am,t1++#[x,y],?_,?_,?_⟩,e3,by simp only[ad],rfl,an,f2.V,by simp only[f2.W],z,f2.got,f2.heap⟩
 ·have:=oK f1.run (f3.trans hT);rw[Dm t1 _ _ 0]at this;exact this
 ·refine⟨⟨fun _=>?_,fun e=>absurd z e⟩,?_,fun i g h0 h1 h2=>?_,fun i K=>?_,fun i h1 h2=>?_,fun e=>absurd z e,by rw[E];exact f4.hear,fun j hj=>?_,⟨_,_,hw,?_⟩,?_,f4.nodup,fun i=>?_,f4.fin,?_,?_,?_,fun i K ai=>?_,fun e=>?_,fun e=>?_,?_,f4.base,f4.os⟩
  ·simp only[g8,gK,hsz];rfl
  ·simp only;show s1.j+1+0≤X.N.n;omega
  ·have ax:i<X.N.B:=h1;rw[ie (by simp;omega),←dw,dO (by omega)]at h2;rw[E];exact f4.lv i g h0 h1 h2
  ·have O:i<s1.j+1:=K;have aF:(X.kX s.j S').N=X.N:=rfl;rcases fG i s1.j with C|af
   ·obtain⟨g,k1,k2,k3⟩:=f4.wk i C;refine⟨g,?_,?_,by rw[E];simp only[I i C];exact k3⟩
    ·show((U.setIfInBounds 0 a').push child)[X.N.B+i]?=_;rw[ie (by simp;omega),←dw,dO (by omega)];exact k1
    ·simp only[I i C];exact WSit.Kr (vL (by omega)) (k2.rely hX.sync (f5 i (by omega)) (RK.refl _) (Leaves.refl _ _) rfl)
   ·obtain rfl:i=s.j:=by omega
    refine⟨child,?_,?_,?_⟩
    ·show((U.setIfInBounds 0 a').push child)[X.N.B+s.j]?=_;rw[show X.N.B+s.j=(U.setIfInBounds 0 a').size by simp[hsz,ad],Array.getElem?_push_size]
    ·simp only[fl];have ag:=WSit.pre (P:=X.P) (N:=X.N) (pk:=X.pk) (m0:=X.m0) (t0:=X.t0) (Gt:=X.Gt) (J:=(X.kX s.j S').J) (i:=s.j) (n:=n1+1) (by rw[sY];exact e2) (by rw[sY];exact ah.2);rw[sY]at ag;exact ag
    ·rw[E];simp only[fl];show Deaf t1 (X.N.B+s.j)=0;rw[←ad];exact aq
  ·have ax:s1.j+1≤i:=h1;have ay:i<X.N.n:=h2;have hu:=f4.un i (by omega) ay;simp only[fp s1.D (⟨10,m,0,(X.J s.j).ρ,undef⟩:WD) (show i≠s.j by omega),(Ak (X:=X) (j:=s.j) (S:=S') i).1,(Ak (X:=X) (j:=s.j) (S:=S') i).2.1];exact hu
  ·rw[E];simp only[g8,gK]at hj;exact f4.fresh j (by omega)
  ·have hv:Vc (s1.j+1) (upd s1.D s.j (⟨10,m,0,(X.J s.j).ρ,undef⟩:WD))=Vc s1.j s1.D+1:=by
    unfold Vc;rw[sumTo,sumTo_congr (g:=fun i=>cnt (s1.D i)) fun i K=>by rw[I i K],ad,fl];rfl
   rw[aw,←hv];have:=Mode.opn (p:=0) (D:=upd s1.D s.j (⟨10,m,0,(X.J s.j).ρ,undef⟩:WD)) (j:=s1.j+1) (tag:=s1.tag) (by rw[z];trivial) (fun i K=>?_) (fun vs e=>by rw[z]at e;cases e)
   ·rw[gR]at this;exact this
   ·rcases fG i s1.j with C|af
    ·rw[I i C];exact ho i C
    ·rw[show i=s.j by omega,fl];exact .inl (by simp)
  ·have hl:(s1.wait.map fun i=>((X.kX s.j S').J i).msg (upd s1.D s.j (⟨10,m,0,(X.J s.j).ρ,undef⟩:WD) i).v)=s1.wait.map fun i=>(X.J i).msg (s1.D i).v:=gO fun i K=>by
    have:=((f4.list i).1 (gP _ K)).1;rw[I i this,(Ak i).2.2]
   simp only;rw[hl];exact f4.back
  ·rw[f4.list];simp only;constructor
   ·rintro⟨k1,k2⟩;exact⟨by omega,by rw[I i k1];exact k2⟩
   ·rintro⟨k1,k2⟩;rcases fG i s1.j with C|af
    ·rw[I i C]at k2;exact⟨C,k2⟩
    ·rw[show i=s.j by omega,fl]at k2;simp at k2
  ·have eR:∀k,KP X s1 k→sn (X.kX s.j S') k=sn X k:=fun k Y=>by
    funext l;unfold sn;refine propext (exists_congr fun b=>and_congr_right fun _=>or_congr (exists_congr fun i=>and_congr_right fun K=>and_congr_right fun e=>?_) Iff.rfl);have:i≠s.j:=fun e'=>by
     rcases Y with⟨H,a2⟩|⟨H,_⟩
     ·have e2:k=X.N.B+i:=e;omega
     ·exact H z
    rw[vL this]
   have eO:pj (X.kX s.j S') { s1 with j:=s1.j+1,p:=0,D:=upd s1.D s.j ⟨10,m,0,(X.J s.j).ρ,undef⟩,W:=fun b=>s1.W b∧¬S' b }=pj X s1:=by
    funext k l;unfold pj;simp only[ae];rfl
   have eK:KP (X.kX s.j S') { s1 with j:=s1.j+1,p:=0,D:=upd s1.D s.j ⟨10,m,0,(X.J s.j).ρ,undef⟩,W:=fun b=>s1.W b∧¬S' b }=fun k=>KP X s1 k∨k=X.N.B+s1.j:=by
    funext k;refine propext ⟨fun Y=>?_,fun Y=>?_⟩
    ·rcases Y with⟨H,a2⟩|⟨H,_⟩
     ·have az:X.N.B≤k:=H;have aG:k<X.N.B+(s1.j+1):=a2
      by_cases e:k=X.N.B+s1.j
      ·exact .inr e
      ·exact .inl (.inl ⟨az,by omega⟩)
     ·exact absurd z H
    ·rcases Y with(⟨H,a2⟩|⟨H,_⟩)|e
     ·exact .inl ⟨H,show k<X.N.B+(s1.j+1) by omega⟩
     ·exact absurd z H
     ·exact .inl ⟨show X.N.B≤k by omega,show k<X.N.B+(s1.j+1) by omega⟩
   have ec:nX (X.kX s.j S') { s1 with j:=s1.j+1,p:=0,D:=upd s1.D s.j ⟨10,m,0,(X.J s.j).ρ,undef⟩,W:=fun b=>s1.W b∧¬S' b }=nX X s1:=rfl;rw[eO,eK,ec];have aA:=f4.tr.congr (Rd':=sn (X.kX s.j S')) (fun _ _=>rfl) eR;have A:Apart (oq X.N) X.Shun (pj X s1) (sn (X.kX s.j S')) (KP X s1):=by
    have A0:=M.xd hX (show s1.j≤X.N.n by omega);exact⟨A0.own,fun k k' l Y Q=>by rw[eR k' Q];exact A0.ownRd k k' l Y Q,A0.ownSh,fun k l Y=>by rw[eR k Y];exact A0.rdSh k l Y,A0.zero,A0.yh⟩
   refine PT.fork A aA (k:=X.N.B+s1.j) (by omega) (fun Y=>?_) Z aa (by rw[f4.hear,an]) aq (fun l _ hl=>?_) (fun l _ hl=>?_) (.inl rfl)
   ·rcases Y with⟨_,a2⟩|⟨H,_⟩
    ·omega
    ·exact H z
   ·obtain⟨i,K,e,hl⟩:=hl;have aB:i=s.j:=by omega
    subst aB;obtain⟨b,p,k1,k2⟩:=hl.block;have hb:=M.lt _ hj b p k1;refine⟨fun hs=>?_,M.oU _ hj b p l k1 k2,fun k' Q=>⟨fun⟨i',O,e',aj⟩=>?_,fun⟨b',aC,ak⟩=>?_⟩⟩
    ·rcases hs.block with q|q|q
     ·exact hb.2.2.1 (k2.uniq q)
     ·exact hb.2.2.2.1 (k2.uniq q)
     ·exact hb.2.2.2.2 (k2.uniq q)
    ·rcases Q with⟨H,a2⟩|⟨H,_⟩
     ·exact qD.loc hX.sync (M.apart s.j i' hj O (by omega)) hl aj
     ·exact H z
    ·obtain rfl:=k2.uniq aC;refine hb.2.1 ?_;rcases ak with⟨i',O,e',ab⟩|⟨e',_⟩
     ·rcases Q with⟨H,a2⟩|⟨H,_⟩
      ·have al:k'=X.N.B+i':=e';rw[vL (by omega)]at ab;exact(M.sj i' (by omega) _ ab).1
      ·exact absurd z H
     ·rcases Q with⟨H,a2⟩|⟨H,_⟩
      ·have al:k'=X.N.B+X.N.n:=e';omega
      ·exact absurd z H
   ·obtain⟨b,hb,ak⟩:=hl;have au:s1.V b:=by
     rcases ak with⟨i',O,e',ab⟩|⟨e',_⟩
     ·have al:X.N.B+s1.j=X.N.B+i':=e';have:i'=s.j:=by omega
      subst this;rw[sY]at ab;exact ar b ab
     ·have al:X.N.B+s1.j=X.N.B+X.N.n:=e';omega
    have hv:=M.v b au;refine⟨fun hs=>?_,hv.2.2.2.2 l hb,fun k' Q ⟨i',O,e',aj⟩=>?_⟩
    ·rcases hs.block with q|q|q
     ·exact hv.2.1 (hb.uniq q)
     ·exact hv.2.2.1 (hb.uniq q)
     ·exact hv.2.2.2.1 (hb.uniq q)
    ·obtain⟨y',p',k1,k2⟩:=aj.block;obtain rfl:=hb.uniq k2;exact(M.lt i' O y' p' k1).2.1 au
  ·intro op G;rcases dS.1 G with k|k
   ·exact f4.low op k
   ·simp only[fM,fN,fO,fP]at k;rcases k with rfl|rfl
    ·rw[Z.2];trivial
    ·rw[aa.2];trivial
  ·exact f4.norel.app fun op G=>by
    simp only[fM,fN,fO,fP]at G;rcases G with rfl|rfl
    ·rw[Z.2];simp
    ·rw[aa.2];simp
  ·rcases fG i s1.j with C|af
   ·simp only[I i C]at ai;obtain⟨r,hr⟩:=f4.rel i C ai;exact⟨r,hr.qY ap⟩
   ·have:i<s1.j+1:=K;simp only[show i=s.j by omega,fl]at ai;omega
  ·rw[show({ s1 with j:=s1.j+1,p:=0,D:=upd s1.D s.j ⟨10,m,0,(X.J s.j).ρ,undef⟩,W:=fun b=>s1.W b∧¬S' b }:St).tag=s1.tag from rfl,z]at e;cases e
  ·rw[show({ s1 with j:=s1.j+1,p:=0,D:=upd s1.D s.j ⟨10,m,0,(X.J s.j).ρ,undef⟩,W:=fun b=>s1.W b∧¬S' b }:St).tag=s1.tag from rfl,z]at e;cases e
  ·refine⟨fun i K b p hb=>M.lt i K b p (by rw[←ae i];exact hb),fun i i' h1 h2 aD=>?_,fun i K b p l hb=>M.oU i K b p l (by rw[←ae i];exact hb),M.v,fun b hb=>M.wv b hb.1,fun i K b hb=>?_,fun e=>absurd z e,M.kJ,M.old⟩
   ·simp only[ae];exact M.apart i i' h1 h2 aD
   ·have O:i<s1.j+1:=K;rcases fG i s1.j with C|af
    ·rw[vL (by omega)]at hb;have:=M.sj i C b hb;exact⟨this.1,fun k=>this.2 k.1⟩
    ·rw[show i=s.j by omega,sY]at hb;exact⟨ar b hb,fun k=>k.2 hb⟩
 ·show((U.setIfInBounds 0 a').push child)[0]?=some a';have h0:0<U.size:=(dv.1 f1.main).1;rw[ie (by simpa using h0),←dw,fj h0]
end
end
section
open Go.Conc Go.ConcN Go.Proofs.YtjnkcibpkkjniaaGreat.kx
open Go.ConcR (KK wgBlock WgAt stA smA rd wr DC0)
variable [Scope]
section
variable {X:Ctx} {s:St} {n n':Nat} {gs gs':Array Goroutine} {w w':World} {sl:Option (Nat×Nat)} {t u:Trace} {a a':Goroutine}
theorem At.Ks[kD X.P][lV X.P](hX:X.Good)(h:At X s w a)(hr:a.status=.running)(kp:s.tag=.sp)(hp:s.p=0)(hd:s.d0=0)(hj:s.j=X.N.n)(hS:∀b,X.Sc b→s.V b){Post:Goroutine→World→Prop}(hgo:∀w₁,RK X.N.ty X.N.Wg s.V w w₁→∃a' child,stepG X.P true a w₁=.spawn a' child w₁ #[]∧(∃m,Goes X.P false (RK X.N.ty X.N.Wg X.Sc) (DQ X.Sc) (oT X.P false (RK X.N.ty X.N.Wg X.Sc) (Go.ConcR.mk .disable) X.mw) m child w₁)∧Post a' w₁):∃s' w' a',At X s' w' a'∧Post a' w'∧s'.j=X.N.n∧s'.p=0∧s'.d0=0∧s'.V=s.V∧s'.W=(fun b=>s.W b∧¬X.Sc b)∧s'.tag≠.sp∧s'.got=s.got∧∀b,s.V b→w'.heap[b]?=w.heap[b]?:=by
 obtain⟨n,gs,sl,t,hn⟩:=h;obtain⟨n1,s1,M,w1,al,t1,d,U,f1,f2,f3,f4,f5⟩:=hn.turn hX hr;obtain⟨a',child,e1,⟨m,e2⟩,e3⟩:=hgo (w1.at d) (f4.rk f2);have hB:=hX.pos;have E:s1.tag=.sp:=f2.sp.2 kp;have Y:s1.p=0:=f2.p.trans hp;have Z:s1.d0=0:=f2.d0.trans hd;have H:s1.j=X.N.n:=f2.j.trans hj;have hsz:=f4.size.1 E;have G:=f4.ko;have hT:=runT_crowd_spawn (P:=X.P) (sl:=U) (i:=0) f1.main e1;rw[hsz,H]at hT;generalize hx:({ g:=0,fn:=a.frame.fn,pos:=a.frame.place,act:=.go (X.N.B+X.N.n) }:MemOp)=x at hT;generalize hy:({ g:=X.N.B+X.N.n,fn:=child.frame.fn,pos:=a.frame.place,act:=.start }:MemOp)=y at hT;have I:x.g=0∧x.act=.go (X.N.B+X.N.n):=by subst hx;exact⟨rfl,rfl⟩
 have K:y.g=X.N.B+X.N.n∧y.act=.start:=by subst hy;exact⟨rfl,rfl⟩
 have aa:∀op∈#[x,y],op.act≠.mark .disable∧op.act≠.mark .enable:=fun op C=>by
  simp only[fM,fN,fO,fP]at C;rcases C with rfl|rfl
  ·rw[I.2];simp
  ·rw[K.2];simp
 have ab:∀op∈#[x,y],op.act.touch? = none:=fun op C=>by
  simp only[fM,fN,fO,fP]at C;rcases C with rfl|rfl
  ·rw[I.2];rfl
  ·rw[K.2];rfl
 have z:∀k,Deaf (t1++#[x,y]) k=Deaf t1 k:=fun k=>gT t1 k _ aa
 have ad:Deaf t1 (X.N.B+X.N.n)=0:=f4.fresh _ (by omega);obtain⟨st,sm,hw,hm⟩:=f4.wg;obtain⟨rfl,rfl,ho,_⟩:=hm.opened (by rw[E];trivial);have ae:∀b,X.Sc b→s1.V b:=fun b hb=>by rw[f2.V];exact hS b hb
 refine⟨{ s1 with tag:=.kd,fc:=m,dc:=0,W:=fun b=>s1.W b∧¬X.Sc b },w1.at d,a',⟨n1+1,(M.setIfInBounds 0 a').push child,U,t1++#[x,y],?_,?_,?_⟩,e3,H,Y,Z,f2.V,by simp only[f2.W],by simp,f2.got,f2.heap⟩
 ·have:=oK f1.run (f3.trans hT);rw[Dm t1 _ _ 0]at this;exact this
 ·refine⟨⟨(fun e=>nomatch e),fun _=>⟨?_,H,Y⟩⟩,f4.jn,fun i g h0 h1 h2=>?_,fun i Q=>?_,fun i h1 h2=>?_,fun _=>⟨child,?_,.kd e2,by rw[z,ad]⟩,by rw[z];exact f4.hear,fun j hj=>?_,⟨_,_,hw,.opn trivial ho fun vs e=>by cases e⟩,f4.back,f4.nodup,f4.list,by rw[f4.fin,E];rfl,?_,?_,?_,fun i Q ah=>?_,(fun e=>nomatch e),(fun e=>nomatch e),?_,f4.base,f4.os⟩
  ·simp only[g8,gK,hsz,H]
  ·have am:i<X.N.B:=h1;rw[ie (by simp;omega),←dw,dO (by omega)]at h2;rw[z];exact f4.lv i g h0 h1 h2
  ·have O:i<s1.j:=Q;obtain⟨g,k1,k2,k3⟩:=f4.wk i O;refine⟨g,?_,k2.rely hX.sync (f5 i (by omega)) (RK.refl _) (Leaves.refl _ _) rfl,by rw[z];exact k3⟩;rw[ie (by simp;omega),←dw,dO (by omega)];exact k1
  ·exact f4.un i h1 h2
  ·rw[show X.N.B+X.N.n=(M.setIfInBounds 0 a').size by simp[hsz,H],Array.getElem?_push_size]
  ·rw[z];simp only[g8,gK]at hj;exact f4.fresh j (by omega)
  ·have eK:KP X { s1 with tag:=.kd,fc:=m,dc:=0,W:=fun b=>s1.W b∧¬X.Sc b }=fun k=>KP X s1 k∨k=X.N.B+X.N.n:=by
    funext k;refine propext ⟨fun hk=>?_,fun hk=>?_⟩
    ·rcases hk with k1|⟨_,k2⟩
     ·exact .inl (.inl k1)
     ·exact .inr k2
    ·rcases hk with(k1|⟨k1,_⟩)|e
     ·exact .inl k1
     ·exact absurd E k1
     ·exact .inr ⟨by simp,e⟩
   have ec:nX X { s1 with tag:=.kd,fc:=m,dc:=0,W:=fun b=>s1.W b∧¬X.Sc b }=X.N.B+X.N.n:=rfl;have eO:pj X { s1 with tag:=.kd,fc:=m,dc:=0,W:=fun b=>s1.W b∧¬X.Sc b }=pj X s1:=rfl;rw[eO,eK,ec];have af:=f4.tr;rw[Dk E]at af;have A:=G.xd hX (show s1.j≤X.N.n by omega);refine PT.fork A af (k:=X.N.B+X.N.n) (by omega) (fun hk=>?_) I K (by rw[f4.hear,Z]) ad (fun l _ hl=>?_) (fun l _ hl=>?_) (.inr ⟨rfl,rfl⟩)
   ·rcases hk with⟨_,a2⟩|⟨a1,_⟩
    ·omega
    ·exact a1 E
   ·obtain⟨i,Q,e,_⟩:=hl;omega
   ·obtain⟨b,hb,ai⟩:=hl;have ag:s1.V b:=by
     rcases ai with⟨i',O,e',_⟩|⟨_,aj⟩
     ·omega
     ·exact ae b aj
    have hv:=G.v b ag;refine⟨fun hs=>?_,hv.2.2.2.2 l hb,fun k' an ⟨i',O,e',ak⟩=>?_⟩
    ·rcases hs.block with q|q|q
     ·exact hv.2.1 (hb.uniq q)
     ·exact hv.2.2.1 (hb.uniq q)
     ·exact hv.2.2.2.1 (hb.uniq q)
    ·obtain⟨y',p',k1,k2⟩:=ak.block;obtain rfl:=hb.uniq k2;exact(G.lt i' O y' p' k1).2.1 ag
  ·intro op C;rcases dS.1 C with k|k
   ·exact f4.low op k
   ·simp only[fM,fN,fO,fP]at k;rcases k with rfl|rfl
    ·rw[I.2];trivial
    ·rw[K.2];trivial
  ·exact f4.norel.app fun op C=>by
    simp only[fM,fN,fO,fP]at C;rcases C with rfl|rfl
    ·rw[I.2];simp
    ·rw[K.2];simp
  ·obtain⟨r,hr⟩:=f4.rel i Q ah;exact⟨r,hr.qY ab⟩
  ·exact⟨G.lt,G.apart,G.oU,G.v,fun b hb=>G.wv b hb.1,fun i Q b hb=>⟨(G.sj i Q b hb).1,fun k=>(G.sj i Q b hb).2 k.1⟩,fun _ b hb=>⟨ae b hb,fun k=>k.2 hb⟩,G.kJ,G.old⟩
 ·show((M.setIfInBounds 0 a').push child)[0]?=some a';have h0:0<M.size:=(dv.1 f1.main).1;rw[ie (by simpa using h0),←dw,fj h0]
theorem kO.taken(K:X.Good)(h:kO X s n gs w t)(hsz:gs'.size=gs.size)(hgo:∀k,0<k→gs'[k]?=gs[k]?)(hn:∀i',i'<X.N.n→kI (kK X.P X.pk (X.N.B+i') X.m0 X.t0) n'=kI (kK X.P X.pk (X.N.B+i') X.m0 X.t0) n){got' wait':List Nat}(hl:got'++wait'=s.got++s.wait)(U:w'.heap[X.N.CB]?=some (.chan X.N.n (wait'.map fun i=>(X.J i).msg (s.D i).v).toArray false (got'.length+wait'.length) got'.length false))(y:∀b,b≠X.N.CB→w'.heap[b]?=w.heap[b]?)(e:w'.heap.size=w.heap.size)(G:w'.os=w.os)(E:∀op∈u,op.act.touch? = none)(W:∀op∈u,op.act.low w.heap.size)(ad:∀op∈u,op.g=0)(Y:∀op∈u,op.act≠.mark .disable∧op.act≠.mark .enable)(Z:∀op∈u,op.act≠.mark (.release (stA X.N.Wg))):kO X { s with got:=got',wait:=wait' } n' gs' w' (t++u):=by
 have hB:=K.pos;have ae:=h.jn;have z:∀k,Deaf (t++u) k=Deaf t k:=fun k=>gT t k u Y
 have O:∀S:Nat→Prop,(∀b,S b→s.V b)→RK X.N.ty X.N.Wg S w w':=fun S hS=>⟨fun b hb=>y b (h.ko.v b (hS b hb)).2.2.1,fun⟨a,b,k⟩=>⟨a,b,rC k (y _ K.kJ.1)⟩⟩
 have Q:∀i',i'<X.N.n→Leaves (s.D i').ρ w w':=fun i' A=>Leaves.block fun b p hb=>y _ (h.ko.lt i' A b p hb).2.2.2.1
 obtain⟨st,sm,hw,hm⟩:=h.wg;refine⟨by rw[hsz];exact h.size,h.jn,fun i' g1 h0 h1 H=>?_,fun i' A=>?_,fun i' h1 H=>?_,fun M=>?_,by rw[z];exact h.hear,fun j hj=>?_,⟨st,sm,rC hw (y _ K.kJ.1),hm⟩,U,by rw[show({ s with got:=got',wait:=wait' }:St).got++({ s with got:=got',wait:=wait' }:St).wait=got'++wait' from rfl,hl];exact h.nodup,fun i'=>by
  show i'∈got'++wait'↔_;rw[hl];exact h.list i',by rw[y _ (dJ K.kJ.2.2)];exact h.fin,?_,?_,?_,fun i' A aa=>?_,fun M=>?_,fun M=>?_,⟨by rw[e];exact h.ko.lt,h.ko.apart,h.ko.oU,by rw[e];exact h.ko.v,h.ko.wv,h.ko.sj,h.ko.sc,by rw[e];exact h.ko.kJ,by rw[e];exact h.ko.old⟩,by rw[e];exact h.base,G.trans h.os⟩
 ·rw[hgo i' h0]at H;rw[z];exact h.lv i' g1 h0 h1 H
 ·have ab:i'<s.j:=A;obtain⟨g1,e1,e2,e3⟩:=h.wk i' A;exact⟨g1,by rw[hgo _ (by omega)];exact e1,e2.rely K.sync (hn i' (by omega)) (O _ fun b hb=>(h.ko.sj i' A b hb).1) (Q i' (by omega)) G,by rw[z];exact e3⟩
 ·have I:=h.un i' h1 H;have hle:=Q i' H;rw[I.1]at hle;exact⟨I.1,HR.leaves K.sync I.2 hle G⟩
 ·obtain⟨a,k1,k2,k3⟩:=h.cl M;exact⟨a,by rw[hgo _ (by omega)];exact k1,k2.rely (O _ fun b hb=>(h.ko.sc M b hb).1),by rw[z];exact k3⟩
 ·rw[z];exact h.fresh j (by rw[←hsz];exact hj)
 ·have:=PT.Ah u.toList h.tr (fun op C=>E op (by simpa using C));have H:PT (oq X.N) X.Shun (pj X s) (sn X) (KP X s) (nX X s) (t++u):=by simpa using this
  exact H
 ·intro op C;rw[e];rcases dS.1 C with k|k
  ·exact h.low op k
  ·exact W op k
 ·exact h.norel.app fun op C=>Z op C
 ·obtain⟨r,hr⟩:=h.rel i' A aa;exact⟨r,hr.qY E⟩
 ·obtain⟨q,hq⟩:=h.acq M;exact⟨q,hq.app fun i' r _ hr=>hr.qY E⟩
 ·obtain⟨q,p,hq⟩:=h.cls M;exact⟨q,p,hq.app (fun i' r _ hr=>hr.qY E) fun op C _=>E op C⟩
theorem kO.leave(hX:X.Good)(h:kO X s n gs w t)(V:s.tag=.qt)(hd:s.d0=0)(hsz:gs'.size=gs.size)(hgo:∀k,0<k→gs'[k]?=gs[k]?){y:MemOp}(K:y.g=0∧y.act=.recvClosed X.N.CF):(∃q,Leavers X.P (t++#[y]) gs' q)∧Past (fun l=>X.Shun l∨oq X.N l) w.heap.size (t++#[y])∧∀i,i<X.N.n→Done (X.J i) (s.D i).ρ (s.D i).v w∧i∈s.got++s.wait:=by
 have hB:=hX.pos;have ht:s.tag≠.sp:=by rw[V];simp
 obtain⟨av,hj,hp⟩:=h.size.2 ht;obtain⟨st,sm,hw,hm⟩:=h.wg;obtain⟨_,_,_,W⟩:=hm.xg (by rw[V];trivial);obtain⟨qa,pc,hc⟩:=h.cls V;have H:∀op∈#[y],op.act.touch? = none:=fun op z=>by rw[gX]at z;rw[z,K.2];rfl
 have M:∀op∈#[y],op.act≠.mark .disable∧op.act≠.mark .enable:=fun op z=>by rw[gX]at z;rw[z,K.2];simp
 have G:∀k,Deaf (t++#[y]) k=Deaf t k:=fun k=>gT t k _ M
 have hyp:(t++#[y])[t.size]?=some y:=by rw[gW (dD _)];simp
 have ak:(t++#[y]).heard t.size:=⟨0,by simp[Trace.g?,K.1],by rw[deaf_old (dD _)];exact h.hear.trans hd⟩;have A:uM X (t++#[y]) qa pc:=hc.app (fun i r _ hr=>hr.qY H) fun op z _=>H op z
 have al:NoRelease (stA X.N.Wg) (t++#[y]):=h.norel.app fun op z=>by rw[gX]at z;rw[z,K.2];simp
 have O:HappensBefore (t++#[y]) pc t.size:=.single (.inr ⟨.closed (c:=X.N.CF) A.act (by rw[act?_of hyp,K.2]),A.heard,ak⟩);have ae:HappensBefore (t++#[y]) qa pc:=.single (.inl ⟨A.lt,_,A.acq.g,A.g⟩);have am:(t++#[y]).g? t.size=some 0:=by simp[Trace.g?,K.1]
 have known:∀i,HappensBefore (t++#[y]) i t.size→Knows (t++#[y]) 0 i:=fun i hi=>⟨t.size,y,hyp,K.1,.inr hi⟩
 have af:∀k,k<X.N.n→∃r,Rl X.N (t++#[y]) (X.N.B+k) r∧∀i,i≤r→(t++#[y]).g? i=some (X.N.B+k)→HappensBefore (t++#[y]) i t.size:=fun k Y=>by
  obtain⟨r,hr,an⟩:=A.acq.all k Y;have I:HappensBefore (t++#[y]) r qa:=.single (.inr ⟨.marked an (.inr hr.rel.act) A.acq.act (fun k _ _=>al k),hr.rel.heard,A.acq.heard⟩);refine⟨r,hr,fun i hi C=>?_⟩;rcases fG i r with E|Q
  ·have e0:HappensBefore (t++#[y]) i r:=.single (.inl ⟨E,_,C,hr.rel.g⟩);exact((e0.trans I).trans ae).trans O
  ·obtain rfl:i=r:=by omega
   exact(I.trans ae).trans O
 have ag:∀i op,(t++#[y])[i]?=some op→op.g=X.N.B+X.N.n→op.act.touch?≠none→HappensBefore (t++#[y]) i t.size:=fun i op U C ao=>by
  rcases Nat.lt_trichotomy i pc with E|rfl|ap
  ·have e0:HappensBefore (t++#[y]) i pc:=.single (.inl ⟨E,_,by unfold Trace.g?;rw[U];exact dI some C,A.g⟩);exact e0.trans O
  ·exact O
  ·exact absurd (A.after i op ap U C) ao
 have hK:∀g,KP X s g→(∃k,k<X.N.n∧g=X.N.B+k)∨g=X.N.B+X.N.n:=fun g C=>by
  rcases C with⟨a1,a2⟩|⟨_,a2⟩
  ·exact .inl ⟨g-X.N.B,by omega,by omega⟩
  ·exact .inr a2
 have aq:=h.tr.appMute (g:=0) (u:=#[y]) (fun op z=>by rw[gX]at z;rw[z];exact K.1) H;refine⟨?_,?_,fun i hi=>?_⟩
 ·refine⟨fun i=>if i<X.N.B then s.q i else if i<X.N.B+s.j then(s.D (i-X.N.B)).fuel else s.fc,fun i g h0 C=>?_,fun k Y=>?_⟩
  ·rw[hgo i h0]at C;rw[G];have E:i<gs.size:=(dv.1 C).1
   by_cases h1:i<X.N.B
   ·simp only[h1,dn];exact h.lv i g h0 h1 C
   ·by_cases h2:i<X.N.B+s.j
    ·simp only[h1,h2,dn,dp];obtain⟨g1,I,Z,e3⟩:=h.wk (i-X.N.B) (by omega);rw[show X.N.B+(i-X.N.B)=i by omega]at I e3;rw[C]at I;obtain rfl:=ff I;rw[e3];have aa:=W (i-X.N.B) (by omega);generalize s.D (i-X.N.B)=dd at Z aa
     cases Z with
     |quit V _=>exact V
     |_=>simp at aa
    ·simp only[h1,h2,dp];obtain⟨g1,I,Z,e3⟩:=h.cl ht;have:i=X.N.B+X.N.n:=by omega
     subst this;rw[C]at I;obtain rfl:=ff I;rw[e3];rw[V]at Z;generalize s.fc=fc,s.dc=dc at Z
     cases Z with
     |qt V=>exact V
  ·rw[hsz]at Y;rw[G];exact h.fresh _ Y
 ·refine aq.past (by rw[G];exact h.hear.trans hd) (fun op z=>?_) (fun i op x U C Y hx ar=>?_) (fun i g C Y ah=>?_)
  ·rcases dS.1 z with k|k
   ·exact h.low op k
   ·rw[gX]at k;rw[k,K.2];exact h.ko.kJ.2.2
  ·rcases hK _ Y with⟨k,ab,e⟩|e
   ·obtain⟨r,hr,ad⟩:=af k ab;rcases fG r i with E|Q
    ·exact .inr (hr.soft i op x E U e hx ar)
    ·exact .inl (known i (ad i Q (by unfold Trace.g?;rw[U];exact dI some e)))
   ·exact .inl (known i (ag i op U e (by rw[hx];simp)))
  ·refine⟨t.size,am,?_⟩;obtain⟨op,U,au⟩:=eo.1 C;rcases hK _ Y with⟨k,ab,e⟩|e
   ·obtain⟨r,hr,ad⟩:=af k ab;rcases fG r i with E|Q
    ·exact absurd ah (hr.rel.after i E (by rw[C,e]))
    ·exact ad i Q (by rw[C,e])
   ·refine ag i op U (au.trans e) fun hn=>?_
    obtain⟨x,hx,_⟩:=ah;obtain⟨aw,ai,aj⟩:=fI hx;rw[U]at ai;obtain rfl:=ff ai;rw[hn]at aj;cases aj
 ·have aa:=W i (by omega);obtain⟨g1,I,Z,e3⟩:=h.wk i (by omega);exact⟨Z.done (by omega),(h.list i).2 ⟨by omega,by omega⟩⟩
end
end
end Go.Proofs.YtjnkcibpkkjniaaGreat.kN
