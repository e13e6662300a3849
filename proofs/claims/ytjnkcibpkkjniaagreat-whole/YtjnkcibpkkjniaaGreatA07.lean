import Derived.Test.YtjnkcibpkkjniaaGreatA00
import Derived.Test.YtjnkcibpkkjniaaGreatA06
set_option linter.all false
set_option maxHeartbeats 8000000
set_option maxRecDepth 100000
namespace Go.Proofs.YtjnkcibpkkjniaaGreat.kj
section
open Go.Conc Go.ConcN Go.ConcN.Gen Go.RowKit Go.Conc.Lib Go.ConcR.Gen
open Go.ConcR (KK wgBlock WgAt stA smA rd wr mk DC0)
section
variable (P:Program) (mn:Bool) (R:World→World→Prop) (ty:TypeId) (Wg:Nat)
def Ce (g:Goroutine) (w:World):Prop :=
 g.status=.running∧mayWake P g=true∧(WgAt ty Wg w 0 0→∃g',stepG P mn g w=.go g' (w.setCell (smA Wg) (.int .u32 1)) (semEvents (smA Wg))∧∃q,QuitsD P q 1 g')
def Cf (g:Goroutine) (w:World):Prop :=
 g.status=.running∧(WgAt ty Wg w 1 0→∃g',stepG P mn g w=.go g' (w.setCell (stA Wg) (.int .u64 0)) #[wr (stA Wg)]∧∃m,Goes P mn R DC0 (Ce P mn ty Wg) m g' (w.setCell (stA Wg) (.int .u64 0)))
def Cg (g:Goroutine) (w:World):Prop :=
 g.status=.running∧(WgAt ty Wg w 1 0→∃g',stepG P mn g w=.go g' w #[rd (stA Wg)]∧∃m,Goes P mn R DC0 (Cf P mn R ty Wg) m g' w)
def Ch (g:Goroutine) (w:World):Prop :=
 g.status=.running∧∀v wt:Nat,wt≤1→v<2147483647→WgAt ty Wg w (((v:Int)+1)*KK+wt) 0 →
  ∃g',stepG P mn g w=.go g' (w.setCell (stA Wg) (.int .u64 ((v:Int)*KK+wt))) #[rd (stA Wg),wr (stA Wg)] ∧
   ((v=0∧wt=1)→∃m,Goes P mn R DC0 (Cg P mn R ty Wg) m g' (w.setCell (stA Wg) (.int .u64 ((v:Int)*KK+wt))))∧(¬(v=0∧wt=1)→∃q,QuitsD P q 1 g')
def Ci:Goroutine→World→Prop:=oy P mn R (mk .disable) (Ch P mn R ty Wg)
def u6:Goroutine→World→Prop:=oy P mn R (mk (.releaseMerge (stA Wg))) (Ci P mn R ty Wg)
end
section
variable {P:Program} {R:World→World→Prop} {F:World→Prop} {L:WgLink} {Wg:Nat}
 {b₀:Frame} {a₀:Act} {ops₀:Array Oper} {i₀:Nat} {rest₀:List Nat} {k₀:List Item} {cs:List Frame} {qt:Nat}
theorem IV(H:WgLib P L)(T:sd R F L.tWg Wg)(f:QuitsD P qt 0 (G (b₀.at (a₀.put ((ops₀[i₀]?).bind (·.dst)) (.tuple #[])) (.inRegion ops₀ rest₀::k₀)) cs))(w:World)(hF:F w∧WgLive L.tWg Wg w):Goes P false R DC0 (u6 P false R L.tWg Wg) 20 (G ((base L.add).at ⟨#[.pointer (some ⟨Wg,0,none⟩),.int .i64 (-1)]++Array.replicate 115 undef,[]⟩ [.code (body_add L)]) (b₀.at a₀ (.inRegion ops₀ (i₀::rest₀)::k₀)::cs)) w:=by
 lib_facts
 simp only[body_add,addFn,ez];walk_nrm
 u_c stepG_seq T.rl hF
 u_cnd true T.rl hF
 iterate 2 (u_c stepG_seq T.rl hF)
 u_reg T.rl hF
 iterate 2 (u_op T.rl hF)
 u_c stepG_region_end T.rl hF
 u_cnd true T.rl hF
 u_reg T.rl hF
 u_op T.rl hF
 u_conv H.underlying_tWgP H.room_tWg (WgLive.cell0 hF.2).choose_spec T.rl hF
 refine fM (fun h a=>?_);replace hF:=T.rl hF a;clear a;refine⟨rfl,_,fP .releaseMerge (by simp) rfl rfl (by k_ne) rfl H.f_relMerge (x_relMerge_n L) (x_relMerge_b L) (x_relMerge_x L) (x_relMerge_f L) (by simp[Act.eval,stA]),10,?_⟩;walk_nrm
 u_c stepG_region_end T.rl hF
 u_c stepG_seq T.rl hF
 u_reg T.rl hF
 refine fM (fun w₁ a=>?_);replace hF:=T.rl hF a;clear a;refine⟨rfl,_,fN .disable (by simp) rfl rfl (by k_ne) rfl H.f_disable (x_disable_n L) (x_disable_b L) (x_disable_x L) (x_disable_f L),50,?_⟩;walk_nrm
 u_c stepG_region_end T.rl hF
 u_reg T.rl hF
 u_defer T.rl hF
 u_c stepG_region_end T.rl hF
 u_c stepG_seq T.rl hF
 u_reg T.rl hF
 u_op T.rl hF
 u_c stepG_region_end T.rl hF
 iterate 2 (u_c stepG_seq T.rl hF)
 u_reg T.rl hF
 u_bub T.rl hF
 u_c stepG_region_end T.rl hF
 u_cnd false T.rl hF
 u_c stepG_skip T.rl hF
 u_c stepG_seq T.rl hF
 u_reg T.rl hF
 iterate 6 (u_op T.rl hF)
 u_call H.f_uAdd (nm_uAdd L) uAddFn T.rl hF
 u_c stepG_seq T.rl hF
 u_reg T.rl hF
 u_op T.rl hF
 u_c stepG_region_end T.rl hF
 u_c stepG_seq T.rl hF
 u_reg T.rl hF
 iterate 4 (u_op T.rl hF)
 refine fM (fun b a=>?_);replace hF:=T.rl hF a;clear a;refine⟨rfl,fun v wt m o hw=>?_⟩;have i:IntKind.u64.wrap (KK+1+18446744069414584320)=1:=by decide
 by_cases c:v=0∧wt=1
 ·obtain⟨rfl,rfl⟩:=c;replace hw:WgAt L.tWg Wg b (KK+1) 0:=by simpa using hw
  have z:((0:Nat):Int)*KK+((1:Nat):Int)=1:=by simp
  rw[z];refine⟨_,(fO rfl rfl (by k_ne) rfl H.f_addU64 (x_addU64_n L) (x_addU64_b L) (x_addU64_x L) .u64 (x_addU64_f L) rfl rfl hw.cellSt (hw.thaw 0)).trans (by rw[i];rfl),fun _=>⟨120,?_⟩,fun g=>absurd ⟨rfl,rfl⟩ g⟩;replace hF:F (b.setCell (stA Wg) (.int .u64 1))∧WgLive L.tWg Wg (b.setCell (stA Wg) (.int .u64 1)):=⟨T.own _ _ _ rfl hF.1,⟨_,_,hw.setSt 1⟩⟩;clear hw;walk_nrm
  u_op T.rl hF
  u_c stepG_region_end T.rl hF
  u_c stepG_ret' T.rl hF
  u_leave1 H.f_uAdd T.rl hF
  u_op T.rl hF
  u_c stepG_region_end T.rl hF
  iterate 2 (u_c stepG_seq T.rl hF)
  u_reg T.rl hF
  iterate 4 (u_op T.rl hF)
  iterate 2 (first|u_op T.rl hF|u_skip T.rl hF)
  u_op T.rl hF
  u_c stepG_region_end T.rl hF
  u_cnd false T.rl hF
  u_c stepG_skip T.rl hF
  u_c stepG_seq T.rl hF
  u_reg T.rl hF
  iterate 4 (u_op T.rl hF)
  u_c stepG_region_end T.rl hF
  u_c stepG_seq T.rl hF
  u_reg T.rl hF
  iterate 4 (u_op T.rl hF)
  u_c stepG_region_end T.rl hF
  iterate 2 (u_c stepG_seq T.rl hF)
  u_reg T.rl hF
  u_op T.rl hF
  iterate 2 (first|u_op T.rl hF|u_skip T.rl hF)
  iterate 2 (u_op T.rl hF)
  iterate 4 (first|u_op T.rl hF|u_skip T.rl hF)
  u_op T.rl hF
  u_c stepG_region_end T.rl hF
  u_cnd false T.rl hF
  u_c stepG_skip T.rl hF
  iterate 2 (u_c stepG_seq T.rl hF)
  u_reg T.rl hF
  iterate 2 (u_op T.rl hF)
  u_c stepG_region_end T.rl hF
  u_cnd false T.rl hF
  u_c stepG_skip T.rl hF
  iterate 2 (u_c stepG_seq T.rl hF)
  u_reg T.rl hF
  iterate 3 (u_op T.rl hF)
  iterate 2 (first|u_op T.rl hF|u_skip T.rl hF)
  iterate 2 (u_op T.rl hF)
  iterate 4 (first|u_op T.rl hF|u_skip T.rl hF)
  u_op T.rl hF
  u_c stepG_region_end T.rl hF
  u_cnd false T.rl hF
  u_c stepG_skip T.rl hF
  iterate 2 (u_c stepG_seq T.rl hF)
  u_reg T.rl hF
  iterate 3 (u_op T.rl hF)
  iterate 2 (first|u_op T.rl hF|u_skip T.rl hF)
  u_op T.rl hF
  u_c stepG_region_end T.rl hF
  u_cnd false T.rl hF
  u_c stepG_skip T.rl hF
  iterate 2 (u_c stepG_seq T.rl hF)
  u_reg T.rl hF
  iterate 3 (u_op T.rl hF)
  u_call H.f_uLoad (nm_uLoad L) uLoadFn T.rl hF
  u_c stepG_seq T.rl hF
  u_reg T.rl hF
  u_op T.rl hF
  u_c stepG_region_end T.rl hF
  u_c stepG_seq T.rl hF
  u_reg T.rl hF
  iterate 3 (u_op T.rl hF)
  refine fM (fun j a=>?_);replace hF:=T.rl hF a;clear a;refine⟨rfl,fun hw=>⟨_,fT rfl rfl (by k_ne) rfl H.f_loadU64 (x_loadU64_n L) (x_loadU64_b L) (x_loadU64_x L) .u64 (x_loadU64_f L) rfl hw.cellSt,40,?_⟩⟩;clear hw;walk_nrm
  u_op T.rl hF
  u_c stepG_region_end T.rl hF
  u_c stepG_ret' T.rl hF
  u_leave1 H.f_uLoad T.rl hF
  iterate 2 (u_op T.rl hF)
  u_c stepG_region_end T.rl hF
  u_cnd false T.rl hF
  u_c stepG_skip T.rl hF
  u_c stepG_seq T.rl hF
  u_reg T.rl hF
  iterate 3 (u_op T.rl hF)
  u_call H.f_uStore (nm_uStore L) uStoreFn T.rl hF
  u_reg T.rl hF
  iterate 4 (u_op T.rl hF)
  refine fM (fun d a=>?_);replace hF:=T.rl hF a;clear a;refine⟨rfl,fun hw=>⟨_,stepG_store_atomic rfl rfl (by k_ne) rfl H.f_storeU64 (x_storeU64_n L) (x_storeU64_b L) (x_storeU64_x L) (x_storeU64_f L) rfl rfl hw.cellSt (hw.thaw 0),50,?_⟩⟩;replace hF:F (d.setCell (stA Wg) (.int .u64 0))∧WgLive L.tWg Wg (d.setCell (stA Wg) (.int .u64 0)):=⟨T.own _ _ _ rfl hF.1,⟨_,_,hw.setSt 0⟩⟩;clear hw;walk_nrm
  u_c stepG_region_end T.rl hF
  u_c fU T.rl hF
  u_leave0 H.f_uStore T.rl hF
  u_c stepG_region_end T.rl hF
  iterate 2 (u_c stepG_seq T.rl hF)
  u_reg T.rl hF
  u_op T.rl hF
  u_c stepG_region_end T.rl hF
  u_cnd false T.rl hF
  u_c stepG_skip T.rl hF
  u_c stepG_block T.rl hF
  u_c stepG_loop T.rl hF
  iterate 2 (u_c stepG_seq T.rl hF)
  u_reg T.rl hF
  iterate 2 (u_op T.rl hF)
  u_c stepG_region_end T.rl hF
  u_cnd true T.rl hF
  u_c stepG_skip T.rl hF
  u_c stepG_seq T.rl hF
  u_c stepG_block T.rl hF
  u_reg T.rl hF
  iterate 3 (u_op T.rl hF)
  refine fM (fun k a=>?_);replace hF:=T.rl hF a;clear a;refine⟨rfl,mayWake_entry rfl rfl H.f_semrelease (x_semrelease_b L),fun hw=>⟨_,(stepG_semrelease rfl rfl (by k_ne) rfl H.f_semrelease (x_semrelease_n L) (x_semrelease_b L) (x_semrelease_x L) (x_semrelease_f L) (by simp[Act.eval,smA]) hw.cellSm (hw.thaw 1)).trans (by rfl),qt+19,?_⟩⟩;clear hw;walk_nrm
  q_c stepG_region_end
  q_c stepG_inBlock
  q_reg
  iterate 3 ((refine fV _ rfl rfl (by k_ne) (fun _=>by go_simp<;>rfl) (fun _=>by simp[go_sem, *]) ?_;walk_nrm))
  q_c stepG_region_end
  q_c stepG_inLoop
  iterate 2 (q_c stepG_seq)
  q_reg
  iterate 2 ((refine fV _ rfl rfl (by k_ne) (fun _=>by go_simp<;>rfl) (fun _=>by simp[go_sem, *]) ?_;walk_nrm))
  q_c stepG_region_end
  q_cond false
  q_exit
  q_c fU
  q_enable
  q_leave0 H.f_add
  exact f
 ·have e:wt=0∨wt=1:=by omega
  obtain⟨S,hS⟩:∃S:Int,S=(v:Int)*KK+wt:=⟨_,rfl⟩;have l:IntKind.u64.wrap (((v:Int)+1)*KK+wt+18446744069414584320)=S:=by rw[IntKind.wrap_u64,hS];simp only[KK];omega
  have p:S / 4294967296=(v:Int):=by rw[hS];simp only[KK];omega
  have b1:bits .and .u64 S 2147483648=0:=by rw[hS];have:=st_flag v wt (by omega) (by omega);simpa[KK]using this
  have b2:bits .and .u64 S 2147483647=(wt:Int):=by rw[hS];have:=st_waiters v wt (by omega) (by omega);simpa[KK]using this
  have c1:IntKind.i32.wrap (v:Int)=(v:Int):=by rw[IntKind.wrap_i32];omega
  have c2:IntKind.u32.wrap (wt:Int)=(wt:Int):=by rw[IntKind.wrap_u32];omega
  have q:decide ((v:Int)<0)=false:=fQ (by omega);have r:IntKind.u32.wrap 0=0:=by decide
  have s:IntKind.u32.wrap 1=1:=by decide
  have n2:IntKind.i32.wrap 0=0:=by decide
  rw[←hS];refine⟨_,(fO rfl rfl (by k_ne) rfl H.f_addU64 (x_addU64_n L) (x_addU64_b L) (x_addU64_x L) .u64 (x_addU64_f L) rfl rfl hw.cellSt (hw.thaw 0)).trans (by rw[l];rfl),fun g=>absurd g c,fun _=>⟨qt+89,?_⟩⟩;clear hw hS l i;rcases eT v with rfl|n
  ·obtain rfl:wt=0:=by omega
   walk_nrm
   (refine fV _ rfl rfl (by k_ne) (fun _=>by go_simp<;>rfl) (fun _=>by simp[go_sem, *]) ?_;walk_nrm)
   q_c stepG_region_end
   q_c stepG_ret'
   q_leave1 H.f_uAdd
   (refine fV _ rfl rfl (by k_ne) (fun _=>by go_simp<;>rfl) (fun _=>by simp[go_sem, *]) ?_;walk_nrm)
   q_c stepG_region_end
   iterate 2 (q_c stepG_seq)
   q_reg
   iterate 4 ((refine fV _ rfl rfl (by k_ne) (fun _=>by go_simp<;>rfl) (fun _=>by simp[go_sem, *]) ?_;walk_nrm))
   iterate 2 (first|(refine fV _ rfl rfl (by k_ne) (fun _=>by go_simp<;>rfl) (fun _=>by simp[go_sem, *]) ?_;walk_nrm)|q_skip)
   (refine fV _ rfl rfl (by k_ne) (fun _=>by go_simp<;>rfl) (fun _=>by simp[go_sem, *]) ?_;walk_nrm)
   q_c stepG_region_end
   q_cond false
   q_c stepG_skip
   q_c stepG_seq
   q_reg
   iterate 4 ((refine fV _ rfl rfl (by k_ne) (fun _=>by go_simp<;>rfl) (fun _=>by simp[go_sem, *]) ?_;walk_nrm))
   q_c stepG_region_end
   q_c stepG_seq
   q_reg
   iterate 4 ((refine fV _ rfl rfl (by k_ne) (fun _=>by go_simp<;>rfl) (fun _=>by simp[go_sem, *]) ?_;walk_nrm))
   q_c stepG_region_end
   iterate 2 (q_c stepG_seq)
   q_reg
   (refine fV _ rfl rfl (by k_ne) (fun _=>by go_simp<;>rfl) (fun _=>by simp[go_sem, *]) ?_;walk_nrm)
   iterate 2 (first|(refine fV _ rfl rfl (by k_ne) (fun _=>by go_simp<;>rfl) (fun _=>by simp[go_sem, *]) ?_;walk_nrm)|q_skip)
   iterate 2 ((refine fV _ rfl rfl (by k_ne) (fun _=>by go_simp<;>rfl) (fun _=>by simp[go_sem, *]) ?_;walk_nrm))
   iterate 4 (first|(refine fV _ rfl rfl (by k_ne) (fun _=>by go_simp<;>rfl) (fun _=>by simp[go_sem, *]) ?_;walk_nrm)|q_skip)
   (refine fV _ rfl rfl (by k_ne) (fun _=>by go_simp<;>rfl) (fun _=>by simp[go_sem, *]) ?_;walk_nrm)
   q_c stepG_region_end
   q_cond false
   q_c stepG_skip
   iterate 2 (q_c stepG_seq)
   q_reg
   iterate 2 ((refine fV _ rfl rfl (by k_ne) (fun _=>by go_simp<;>rfl) (fun _=>by simp[go_sem, *]) ?_;walk_nrm))
   q_c stepG_region_end
   q_cond false
   q_c stepG_skip
   iterate 2 (q_c stepG_seq)
   q_reg
   iterate 3 ((refine fV _ rfl rfl (by k_ne) (fun _=>by go_simp<;>rfl) (fun _=>by simp[go_sem, *]) ?_;walk_nrm))
   iterate 2 (first|(refine fV _ rfl rfl (by k_ne) (fun _=>by go_simp<;>rfl) (fun _=>by simp[go_sem, *]) ?_;walk_nrm)|q_skip)
   iterate 2 ((refine fV _ rfl rfl (by k_ne) (fun _=>by go_simp<;>rfl) (fun _=>by simp[go_sem, *]) ?_;walk_nrm))
   iterate 4 (first|(refine fV _ rfl rfl (by k_ne) (fun _=>by go_simp<;>rfl) (fun _=>by simp[go_sem, *]) ?_;walk_nrm)|q_skip)
   (refine fV _ rfl rfl (by k_ne) (fun _=>by go_simp<;>rfl) (fun _=>by simp[go_sem, *]) ?_;walk_nrm)
   q_c stepG_region_end
   q_cond false
   q_c stepG_skip
   iterate 2 (q_c stepG_seq)
   q_reg
   iterate 3 ((refine fV _ rfl rfl (by k_ne) (fun _=>by go_simp<;>rfl) (fun _=>by simp[go_sem, *]) ?_;walk_nrm))
   iterate 2 (first|(refine fV _ rfl rfl (by k_ne) (fun _=>by go_simp<;>rfl) (fun _=>by simp[go_sem, *]) ?_;walk_nrm)|q_skip)
   (refine fV _ rfl rfl (by k_ne) (fun _=>by go_simp<;>rfl) (fun _=>by simp[go_sem, *]) ?_;walk_nrm)
   q_c stepG_region_end
   q_cond true
   q_c stepG_ret'
   q_enable
   q_leave0 H.f_add
   exact f
  ·have t:decide (0<(v:Int))=true:=decide_eq_true (by omega);have u:((v:Int) == 0)=false:=by simp;omega
   have x:decide ((v:Int)=0)=false:=fQ (by omega);obtain rfl|rfl:=e
   ·walk_nrm
    (refine fV _ rfl rfl (by k_ne) (fun _=>by go_simp<;>rfl) (fun _=>by simp[go_sem, *]) ?_;walk_nrm)
    q_c stepG_region_end
    q_c stepG_ret'
    q_leave1 H.f_uAdd
    (refine fV _ rfl rfl (by k_ne) (fun _=>by go_simp<;>rfl) (fun _=>by simp[go_sem, *]) ?_;walk_nrm)
    q_c stepG_region_end
    iterate 2 (q_c stepG_seq)
    q_reg
    iterate 4 ((refine fV _ rfl rfl (by k_ne) (fun _=>by go_simp<;>rfl) (fun _=>by simp[go_sem, *]) ?_;walk_nrm))
    iterate 2 (first|(refine fV _ rfl rfl (by k_ne) (fun _=>by go_simp<;>rfl) (fun _=>by simp[go_sem, *]) ?_;walk_nrm)|q_skip)
    (refine fV _ rfl rfl (by k_ne) (fun _=>by go_simp<;>rfl) (fun _=>by simp[go_sem, *]) ?_;walk_nrm)
    q_c stepG_region_end
    q_cond false
    q_c stepG_skip
    q_c stepG_seq
    q_reg
    iterate 4 ((refine fV _ rfl rfl (by k_ne) (fun _=>by go_simp<;>rfl) (fun _=>by simp[go_sem, *]) ?_;walk_nrm))
    q_c stepG_region_end
    q_c stepG_seq
    q_reg
    iterate 4 ((refine fV _ rfl rfl (by k_ne) (fun _=>by go_simp<;>rfl) (fun _=>by simp[go_sem, *]) ?_;walk_nrm))
    q_c stepG_region_end
    iterate 2 (q_c stepG_seq)
    q_reg
    (refine fV _ rfl rfl (by k_ne) (fun _=>by go_simp<;>rfl) (fun _=>by simp[go_sem, *]) ?_;walk_nrm)
    iterate 2 (first|(refine fV _ rfl rfl (by k_ne) (fun _=>by go_simp<;>rfl) (fun _=>by simp[go_sem, *]) ?_;walk_nrm)|q_skip)
    iterate 2 ((refine fV _ rfl rfl (by k_ne) (fun _=>by go_simp<;>rfl) (fun _=>by simp[go_sem, *]) ?_;walk_nrm))
    iterate 4 (first|(refine fV _ rfl rfl (by k_ne) (fun _=>by go_simp<;>rfl) (fun _=>by simp[go_sem, *]) ?_;walk_nrm)|q_skip)
    (refine fV _ rfl rfl (by k_ne) (fun _=>by go_simp<;>rfl) (fun _=>by simp[go_sem, *]) ?_;walk_nrm)
    q_c stepG_region_end
    q_cond false
    q_c stepG_skip
    iterate 2 (q_c stepG_seq)
    q_reg
    iterate 2 ((refine fV _ rfl rfl (by k_ne) (fun _=>by go_simp<;>rfl) (fun _=>by simp[go_sem, *]) ?_;walk_nrm))
    q_c stepG_region_end
    q_cond false
    q_c stepG_skip
    iterate 2 (q_c stepG_seq)
    q_reg
    iterate 3 ((refine fV _ rfl rfl (by k_ne) (fun _=>by go_simp<;>rfl) (fun _=>by simp[go_sem, *]) ?_;walk_nrm))
    iterate 2 (first|(refine fV _ rfl rfl (by k_ne) (fun _=>by go_simp<;>rfl) (fun _=>by simp[go_sem, *]) ?_;walk_nrm)|q_skip)
    iterate 2 ((refine fV _ rfl rfl (by k_ne) (fun _=>by go_simp<;>rfl) (fun _=>by simp[go_sem, *]) ?_;walk_nrm))
    iterate 4 (first|(refine fV _ rfl rfl (by k_ne) (fun _=>by go_simp<;>rfl) (fun _=>by simp[go_sem, *]) ?_;walk_nrm)|q_skip)
    (refine fV _ rfl rfl (by k_ne) (fun _=>by go_simp<;>rfl) (fun _=>by simp[go_sem, *]) ?_;walk_nrm)
    q_c stepG_region_end
    q_cond false
    q_c stepG_skip
    iterate 2 (q_c stepG_seq)
    q_reg
    iterate 3 ((refine fV _ rfl rfl (by k_ne) (fun _=>by go_simp<;>rfl) (fun _=>by simp[go_sem, *]) ?_;walk_nrm))
    iterate 2 (first|(refine fV _ rfl rfl (by k_ne) (fun _=>by go_simp<;>rfl) (fun _=>by simp[go_sem, *]) ?_;walk_nrm)|q_skip)
    (refine fV _ rfl rfl (by k_ne) (fun _=>by go_simp<;>rfl) (fun _=>by simp[go_sem, *]) ?_;walk_nrm)
    q_c stepG_region_end
    q_cond true
    q_c stepG_ret'
    q_enable
    q_leave0 H.f_add
    exact f
   ·walk_nrm
    (refine fV _ rfl rfl (by k_ne) (fun _=>by go_simp<;>rfl) (fun _=>by simp[go_sem, *]) ?_;walk_nrm)
    q_c stepG_region_end
    q_c stepG_ret'
    q_leave1 H.f_uAdd
    (refine fV _ rfl rfl (by k_ne) (fun _=>by go_simp<;>rfl) (fun _=>by simp[go_sem, *]) ?_;walk_nrm)
    q_c stepG_region_end
    iterate 2 (q_c stepG_seq)
    q_reg
    iterate 4 ((refine fV _ rfl rfl (by k_ne) (fun _=>by go_simp<;>rfl) (fun _=>by simp[go_sem, *]) ?_;walk_nrm))
    iterate 2 (first|(refine fV _ rfl rfl (by k_ne) (fun _=>by go_simp<;>rfl) (fun _=>by simp[go_sem, *]) ?_;walk_nrm)|q_skip)
    (refine fV _ rfl rfl (by k_ne) (fun _=>by go_simp<;>rfl) (fun _=>by simp[go_sem, *]) ?_;walk_nrm)
    q_c stepG_region_end
    q_cond false
    q_c stepG_skip
    q_c stepG_seq
    q_reg
    iterate 4 ((refine fV _ rfl rfl (by k_ne) (fun _=>by go_simp<;>rfl) (fun _=>by simp[go_sem, *]) ?_;walk_nrm))
    q_c stepG_region_end
    q_c stepG_seq
    q_reg
    iterate 4 ((refine fV _ rfl rfl (by k_ne) (fun _=>by go_simp<;>rfl) (fun _=>by simp[go_sem, *]) ?_;walk_nrm))
    q_c stepG_region_end
    iterate 2 (q_c stepG_seq)
    q_reg
    (refine fV _ rfl rfl (by k_ne) (fun _=>by go_simp<;>rfl) (fun _=>by simp[go_sem, *]) ?_;walk_nrm)
    iterate 2 (first|(refine fV _ rfl rfl (by k_ne) (fun _=>by go_simp<;>rfl) (fun _=>by simp[go_sem, *]) ?_;walk_nrm)|q_skip)
    iterate 2 ((refine fV _ rfl rfl (by k_ne) (fun _=>by go_simp<;>rfl) (fun _=>by simp[go_sem, *]) ?_;walk_nrm))
    iterate 4 (first|(refine fV _ rfl rfl (by k_ne) (fun _=>by go_simp<;>rfl) (fun _=>by simp[go_sem, *]) ?_;walk_nrm)|q_skip)
    (refine fV _ rfl rfl (by k_ne) (fun _=>by go_simp<;>rfl) (fun _=>by simp[go_sem, *]) ?_;walk_nrm)
    q_c stepG_region_end
    q_cond false
    q_c stepG_skip
    iterate 2 (q_c stepG_seq)
    q_reg
    iterate 2 ((refine fV _ rfl rfl (by k_ne) (fun _=>by go_simp<;>rfl) (fun _=>by simp[go_sem, *]) ?_;walk_nrm))
    q_c stepG_region_end
    q_cond false
    q_c stepG_skip
    iterate 2 (q_c stepG_seq)
    q_reg
    iterate 3 ((refine fV _ rfl rfl (by k_ne) (fun _=>by go_simp<;>rfl) (fun _=>by simp[go_sem, *]) ?_;walk_nrm))
    iterate 2 (first|(refine fV _ rfl rfl (by k_ne) (fun _=>by go_simp<;>rfl) (fun _=>by simp[go_sem, *]) ?_;walk_nrm)|q_skip)
    iterate 2 ((refine fV _ rfl rfl (by k_ne) (fun _=>by go_simp<;>rfl) (fun _=>by simp[go_sem, *]) ?_;walk_nrm))
    iterate 4 (first|(refine fV _ rfl rfl (by k_ne) (fun _=>by go_simp<;>rfl) (fun _=>by simp[go_sem, *]) ?_;walk_nrm)|q_skip)
    (refine fV _ rfl rfl (by k_ne) (fun _=>by go_simp<;>rfl) (fun _=>by simp[go_sem, *]) ?_;walk_nrm)
    q_c stepG_region_end
    q_cond false
    q_c stepG_skip
    iterate 2 (q_c stepG_seq)
    q_reg
    iterate 3 ((refine fV _ rfl rfl (by k_ne) (fun _=>by go_simp<;>rfl) (fun _=>by simp[go_sem, *]) ?_;walk_nrm))
    iterate 2 (first|(refine fV _ rfl rfl (by k_ne) (fun _=>by go_simp<;>rfl) (fun _=>by simp[go_sem, *]) ?_;walk_nrm)|q_skip)
    (refine fV _ rfl rfl (by k_ne) (fun _=>by go_simp<;>rfl) (fun _=>by simp[go_sem, *]) ?_;walk_nrm)
    q_c stepG_region_end
    q_cond true
    q_c stepG_ret'
    q_enable
    q_leave0 H.f_add
    exact f
end
end
end Go.Proofs.YtjnkcibpkkjniaaGreat.kj
