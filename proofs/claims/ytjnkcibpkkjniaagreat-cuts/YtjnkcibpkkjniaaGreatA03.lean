import Derived.Test.YtjnkcibpkkjniaaGreatA00
import Derived.Conc.WgGenN3
set_option linter.all false
set_option maxHeartbeats 8000000
set_option maxRecDepth 100000
namespace Go.Proofs.YtjnkcibpkkjniaaGreat
def fQ:=@Go.Conc.Goes.stop
def fR:=@Go.Conc.stepG_mark0
def fS:=@Go.Conc.stepG_add_atomic
def fT:=@Go.Conc.stepG_markAt
def fU:=@decide_eq_false
def fV:=@List.getElem?_toArray
def fW:=@List.getElem?_cons_zero
def fX:=@Go.Conc.stepG_load_atomic
def gM:=@Go.ConcN.get_map_set
def gN:=@Go.ConcN.get_map_set_same
def gT:=@Go.ConcN.Deaf_still
def iN:=@Go.World.cell?_alloc_at
def iP:=@Go.World.cell?_alloc_past
end Go.Proofs.YtjnkcibpkkjniaaGreat
namespace Go.Proofs.YtjnkcibpkkjniaaGreat.kN
section
open Go.Conc Go.ConcN Go.ConcN.Gen Go.RowKit Go.Conc.Lib Go.ConcR.Gen
open Go.ConcR (KK wgBlock WgAt stA smA rd wr mk DC0)
structure sX (R:World→World→Prop) (F:World→Prop) (ty:TypeId) (Wg:Nat):Prop where
 trans:∀a b c,R a b→R b c→R a c
 live:∀w w₁,R w w₁→WgLive ty Wg w→WgLive ty Wg w₁
 keep:∀w w₁,R w w₁→F w→F w₁
 own:∀w a v,a.block=Wg→F w→F (w.setCell a v)
theorem sX.rl{R:World→World→Prop}{F:World→Prop}{ty:TypeId}{Wg:Nat}(T:sX R F ty Wg){w w₁:World}(h:F w∧WgLive ty Wg w)(r:R w w₁):F w₁∧WgLive ty Wg w₁:=⟨T.keep _ _ r h.1,T.live _ _ r h.2⟩
section
variable (P:Program) (mn:Bool) (R:World→World→Prop) (ty:TypeId) (Wg:Nat)
def oT (e:Event) (Next:Goroutine→World→Prop) (g:Goroutine) (w:World):Prop :=
 g.status=.running∧∃g',stepG P mn g w=.go g' w #[e]∧∃m,Goes P mn R DC0 Next m g' w
def JG (Next:Goroutine→World→Prop) (g:Goroutine) (w:World):Prop :=
 g.status=.running∧∀v:Nat,v<2147483647→WgAt ty Wg w ((v:Int)*KK) 0 →
  ∃g',stepG P mn g w=.go g' (w.setCell (stA Wg) (.int .u64 (((v:Int)+1)*KK))) #[rd (stA Wg),wr (stA Wg)] ∧
   (v=0→∃m,Goes P mn R DC0 (oT P mn R ⟨.mark (.read (smA Wg)),false,true⟩ (oT P mn R (mk .enable) Next)) m g' (w.setCell (stA Wg) (.int .u64 (((v:Int)+1)*KK)))) ∧
   (v≠0→∃m,Goes P mn R DC0 (oT P mn R (mk .enable) Next) m g' (w.setCell (stA Wg) (.int .u64 (((v:Int)+1)*KK))))
def CW (Next:Goroutine→World→Prop):Goroutine→World→Prop:=oT P mn R (mk .disable) (JG P mn R ty Wg Next)
def Aa (Next:Goroutine→World→Prop):Goroutine→World→Prop:=oT P mn R (mk .enable) (oT P mn R (mk (.acquire (stA Wg))) Next)
def CX (Next:Goroutine→World→Prop) (g:Goroutine) (w:World):Prop :=
 g.status=.running∧(WgAt ty Wg w 0 0→∃g',stepG P mn g w=.go g' w #[rd (stA Wg)]∧∃m,Goes P mn R DC0 (Aa P mn R Wg Next) m g' w)
def Ab (Next:Goroutine→World→Prop) (g:Goroutine) (w:World):Prop :=
 g.status=.running∧g.offers=none∧((∃st,WgAt ty Wg w st 0)→stepG P mn g w=.go { g with status:=.blocked } w #[]) ∧
  (WgAt ty Wg w 0 1→∃g',stepG P mn g w=.go g' (w.setCell (smA Wg) (.int .u32 0)) (semEvents (smA Wg))∧∃m,Goes P mn R DC0 (CX P mn R ty Wg Next) m g' (w.setCell (smA Wg) (.int .u32 0)))
def CY (Next:Goroutine→World→Prop):Goroutine→World→Prop:=oT P mn R ⟨.mark (.write (smA Wg)),false,true⟩ (Ab P mn R ty Wg Next)
def CZ (mw Next:Goroutine→World→Prop) (vs:Nat) (g:Goroutine) (w:World):Prop :=
 g.status=.running∧∀v:Nat,v<2147483648→WgAt ty Wg w ((v:Int)*KK) 0 →
  (v=vs→∃g',stepG P mn g w=.go g' (w.setCell (stA Wg) (.int .u64 ((v:Int)*KK+1))) #[rd (stA Wg),wr (stA Wg)]∧∃m,Goes P mn R DC0 (CY P mn R ty Wg Next) m g' (w.setCell (stA Wg) (.int .u64 ((v:Int)*KK+1)))) ∧
  (v≠vs→∃g',stepG P mn g w=.go g' w #[rd (stA Wg)]∧∃m,Goes P mn R DC0 mw m g' w)
def wT (mw Next:Goroutine→World→Prop) (g:Goroutine) (w:World):Prop :=
 g.status=.running∧∀v:Nat,v<2147483648→WgAt ty Wg w ((v:Int)*KK) 0→∃g',stepG P mn g w=.go g' w #[rd (stA Wg)] ∧
  (v=0→∃m,Goes P mn R DC0 (Aa P mn R Wg Next) m g' w)∧(v≠0→∃m,Goes P mn R DC0 (CZ P mn R ty Wg mw Next v) m g' w)
end
def yj (L:WgLink) (F:World→Prop) (Wg:Nat) (c:Frame) (cs:List Frame) (g:Goroutine) (w:World):Prop :=
 ∃T:Array Value,g=G ((base L.wait).at ⟨T,[]⟩ [.code (L7 L),.inLoop (L7 L),.inBlock 0]) (c::cs)∧T.size=84∧T[0]?=some (.pointer (some ⟨Wg,0,none⟩))∧F w∧WgLive L.tWg Wg w
section
variable {P:Program} {mn:Bool} {R:World→World→Prop} {F:World→Prop} {L:WgLink} {Wg:Nat} {Next:Goroutine→World→Prop}
 {b₀:Frame} {a₀:Act} {ops₀:Array Oper} {i₀:Nat} {rest₀:List Nat} {k₀:List Item} {cs:List Frame} {mT:Nat}
theorem JH(H:WgLib P L)(T:sX R F L.tWg Wg)(e:∀w,F w→WgLive L.tWg Wg w→Goes P mn R DC0 Next mT (G (b₀.at (a₀.put ((ops₀[i₀]?).bind (·.dst)) (.tuple #[])) (.inRegion ops₀ rest₀::k₀)) cs) w)(w:World)(hF:F w∧WgLive L.tWg Wg w):Goes P mn R DC0 (CW P mn R L.tWg Wg Next) 12 (G ((base L.add).at ⟨#[.pointer (some ⟨Wg,0,none⟩),.int .i64 1]++Array.replicate 115 undef,[]⟩ [.code (body_add L)]) (b₀.at a₀ (.inRegion ops₀ (i₀::rest₀)::k₀)::cs)) w:=by
 lib_facts
 simp only[body_add,addFn,eE];walk_nrm
 u_c stepG_seq T.rl hF
 u_cnd true T.rl hF
 iterate 2 (u_c stepG_seq T.rl hF)
 u_reg T.rl hF
 iterate 2 (u_op T.rl hF)
 u_c stepG_region_end T.rl hF
 u_cnd false T.rl hF
 u_c stepG_skip T.rl hF
 u_c stepG_seq T.rl hF
 u_reg T.rl hF
 refine fQ (fun w₁ b=>?_);replace hF:=T.rl hF b;clear b;refine⟨rfl,_,fR .disable (by simp) rfl rfl (by k_ne) rfl H.f_disable (x_disable_n L) (x_disable_b L) (x_disable_x L) (x_disable_f L),40,?_⟩;walk_nrm
 u_c stepG_region_end T.rl hF
 u_reg T.rl hF
 u_defer T.rl hF
 u_c stepG_region_end T.rl hF
 u_c stepG_seq T.rl hF
 u_reg T.rl hF
 u_op T.rl hF
 u_c stepG_region_end T.rl hF
 iterate 2 (u_c stepG_seq T.rl hF)
 u_reg T.rl hF
 u_bub T.rl hF
 u_c stepG_region_end T.rl hF
 u_cnd false T.rl hF
 u_c stepG_skip T.rl hF
 u_c stepG_seq T.rl hF
 u_reg T.rl hF
 iterate 6 (u_op T.rl hF)
 u_call H.f_uAdd (nm_uAdd L) uAddFn T.rl hF
 u_c stepG_seq T.rl hF
 u_reg T.rl hF
 u_op T.rl hF
 u_c stepG_region_end T.rl hF
 u_c stepG_seq T.rl hF
 u_reg T.rl hF
 iterate 4 (u_op T.rl hF)
 refine fQ (fun a b=>?_);replace hF:=T.rl hF b;clear b;refine⟨rfl,fun v m hw=>?_⟩;rcases fb v with rfl|i
 ·replace hw:WgAt L.tWg Wg a 0 0:=by simpa using hw
  have z:(((0:Nat):Int)+1)*KK=KK:=by simp
  rw[z];have j:IntKind.u64.wrap (0+4294967296)=KK:=by decide
  refine⟨_,(fS rfl rfl (by k_ne) rfl H.f_addU64 (x_addU64_n L) (x_addU64_b L) (x_addU64_x L) .u64 (x_addU64_f L) rfl rfl hw.cellSt (hw.thaw 0)).trans (by rw[j];rfl),fun _=>⟨110,?_⟩,fun h=>absurd rfl h⟩;replace hF:F (a.setCell (stA Wg) (.int .u64 KK))∧WgLive L.tWg Wg (a.setCell (stA Wg) (.int .u64 KK)):=⟨T.own _ _ _ rfl hF.1,⟨_,_,hw.setSt _⟩⟩;clear hw;simp only[KK]at hF ⊢;walk_nrm
  u_op T.rl hF
  u_c stepG_region_end T.rl hF
  u_c stepG_ret' T.rl hF
  u_leave1 H.f_uAdd T.rl hF
  u_op T.rl hF
  u_c stepG_region_end T.rl hF
  iterate 2 (u_c stepG_seq T.rl hF)
  u_reg T.rl hF
  iterate 4 (u_op T.rl hF)
  iterate 2 (first|u_op T.rl hF|u_skip T.rl hF)
  u_op T.rl hF
  u_c stepG_region_end T.rl hF
  u_cnd false T.rl hF
  u_c stepG_skip T.rl hF
  u_c stepG_seq T.rl hF
  u_reg T.rl hF
  iterate 4 (u_op T.rl hF)
  u_c stepG_region_end T.rl hF
  u_c stepG_seq T.rl hF
  u_reg T.rl hF
  iterate 4 (u_op T.rl hF)
  u_c stepG_region_end T.rl hF
  iterate 2 (u_c stepG_seq T.rl hF)
  u_reg T.rl hF
  u_op T.rl hF
  iterate 2 (first|u_op T.rl hF|u_skip T.rl hF)
  iterate 2 (u_op T.rl hF)
  iterate 4 (first|u_op T.rl hF|u_skip T.rl hF)
  u_op T.rl hF
  u_c stepG_region_end T.rl hF
  u_cnd true T.rl hF
  u_reg T.rl hF
  iterate 3 (u_op T.rl hF)
  u_conv H.underlying_tPU32 H.room_tU32 (WgLive.cell1 hF.2).choose_spec T.rl hF
  refine fQ (fun f b=>?_);replace hF:=T.rl hF b;clear b;refine⟨rfl,_,fT .read (by simp) rfl rfl (by k_ne) rfl H.f_raceRead (x_raceRead_n L) (x_raceRead_b L) (x_raceRead_x L) (x_raceRead_f L) (ad:=smA Wg) (by simp[Act.eval]<;>rfl),60,?_⟩;walk_nrm
  u_c stepG_region_end T.rl hF
  iterate 2 (u_c stepG_seq T.rl hF)
  u_reg T.rl hF
  iterate 2 (u_op T.rl hF)
  u_c stepG_region_end T.rl hF
  u_cnd false T.rl hF
  u_c stepG_skip T.rl hF
  iterate 2 (u_c stepG_seq T.rl hF)
  u_reg T.rl hF
  iterate 3 (u_op T.rl hF)
  iterate 2 (first|u_op T.rl hF|u_skip T.rl hF)
  iterate 2 (u_op T.rl hF)
  iterate 4 (first|u_op T.rl hF|u_skip T.rl hF)
  u_op T.rl hF
  u_c stepG_region_end T.rl hF
  u_cnd false T.rl hF
  u_c stepG_skip T.rl hF
  iterate 2 (u_c stepG_seq T.rl hF)
  u_reg T.rl hF
  iterate 3 (u_op T.rl hF)
  iterate 2 (first|u_op T.rl hF|u_skip T.rl hF)
  u_op T.rl hF
  u_c stepG_region_end T.rl hF
  u_cnd true T.rl hF
  u_c stepG_ret' T.rl hF
  refine fQ (fun c b=>?_);replace hF:=T.rl hF b;clear b;refine⟨rfl,_,stepG_unwind_entry (v:=.tuple #[]) (evs:=#[mk .enable]) rfl H.f_enable (x_enable_n L) (x_enable_b L) (x_enable_x L) (x_enable_f L) (by simp[Extern.Race.none_]) (by simp[mk]) (by simp[mk]),mT+1,?_⟩
  u_leave0 H.f_add T.rl hF
  exact e _ hF.1 hF.2
 ·obtain⟨V,d⟩:∃V:Int,V=(v:Int)+1:=⟨_,rfl⟩;obtain⟨S,hS⟩:∃S:Int,S=V*KK:=⟨_,rfl⟩;have g:IntKind.u64.wrap ((v:Int)*KK+4294967296)=S:=by rw[IntKind.wrap_u64,hS,d];simp only[KK];omega
  rw[←d,←hS];have n:S / 4294967296=V:=by rw[hS];simp only[KK];omega
  have b1:bits .and .u64 S 2147483648=0:=by rw[hS,d];have:=st_flag (v+1) 0 (by omega) (by omega);simpa[KK]using this
  have b2:bits .and .u64 S 2147483647=0:=by rw[hS,d];have:=st_waiters (v+1) 0 (by omega) (by omega);simpa[KK]using this
  have c1:IntKind.i32.wrap V=V:=by rw[IntKind.wrap_i32];omega
  have k:1<V:=by omega
  have l:V<2147483648:=by omega
  have o:(V == 1)=false:=by simp;omega
  have p:decide (V=1)=false:=fU (by omega);have q:decide (V<0)=false:=fU (by omega);have r:decide (0<V)=true:=decide_eq_true (by omega);have s:(V == 0)=false:=by simp;omega
  have t:decide (V=0)=false:=fU (by omega);refine⟨_,(fS rfl rfl (by k_ne) rfl H.f_addU64 (x_addU64_n L) (x_addU64_b L) (x_addU64_x L) .u64 (x_addU64_f L) rfl rfl hw.cellSt (hw.thaw 0)).trans (by rw[g];rfl),fun h=>absurd h (by omega),fun _=>⟨110,?_⟩⟩;replace hF:F (a.setCell (stA Wg) (.int .u64 S))∧WgLive L.tWg Wg (a.setCell (stA Wg) (.int .u64 S)):=⟨T.own _ _ _ rfl hF.1,⟨_,_,hw.setSt _⟩⟩;clear hw hS d g;walk_nrm
  u_op T.rl hF
  u_c stepG_region_end T.rl hF
  u_c stepG_ret' T.rl hF
  u_leave1 H.f_uAdd T.rl hF
  u_op T.rl hF
  u_c stepG_region_end T.rl hF
  iterate 2 (u_c stepG_seq T.rl hF)
  u_reg T.rl hF
  iterate 4 (u_op T.rl hF)
  iterate 2 (first|u_op T.rl hF|u_skip T.rl hF)
  u_op T.rl hF
  u_c stepG_region_end T.rl hF
  u_cnd false T.rl hF
  u_c stepG_skip T.rl hF
  u_c stepG_seq T.rl hF
  u_reg T.rl hF
  iterate 4 (u_op T.rl hF)
  u_c stepG_region_end T.rl hF
  u_c stepG_seq T.rl hF
  u_reg T.rl hF
  iterate 4 (u_op T.rl hF)
  u_c stepG_region_end T.rl hF
  iterate 2 (u_c stepG_seq T.rl hF)
  u_reg T.rl hF
  u_op T.rl hF
  iterate 2 (first|u_op T.rl hF|u_skip T.rl hF)
  iterate 2 (u_op T.rl hF)
  iterate 4 (first|u_op T.rl hF|u_skip T.rl hF)
  u_op T.rl hF
  u_c stepG_region_end T.rl hF
  u_cnd false T.rl hF
  u_c stepG_skip T.rl hF
  iterate 2 (u_c stepG_seq T.rl hF)
  u_reg T.rl hF
  iterate 2 (u_op T.rl hF)
  u_c stepG_region_end T.rl hF
  u_cnd false T.rl hF
  u_c stepG_skip T.rl hF
  iterate 2 (u_c stepG_seq T.rl hF)
  u_reg T.rl hF
  iterate 3 (u_op T.rl hF)
  iterate 2 (first|u_op T.rl hF|u_skip T.rl hF)
  iterate 2 (u_op T.rl hF)
  iterate 4 (first|u_op T.rl hF|u_skip T.rl hF)
  u_op T.rl hF
  u_c stepG_region_end T.rl hF
  u_cnd false T.rl hF
  u_c stepG_skip T.rl hF
  iterate 2 (u_c stepG_seq T.rl hF)
  u_reg T.rl hF
  iterate 3 (u_op T.rl hF)
  iterate 2 (first|u_op T.rl hF|u_skip T.rl hF)
  u_op T.rl hF
  u_c stepG_region_end T.rl hF
  u_cnd true T.rl hF
  u_c stepG_ret' T.rl hF
  refine fQ (fun c b=>?_);replace hF:=T.rl hF b;clear b;refine⟨rfl,_,stepG_unwind_entry (v:=.tuple #[]) (evs:=#[mk .enable]) rfl H.f_enable (x_enable_n L) (x_enable_b L) (x_enable_x L) (x_enable_f L) (by simp[Extern.Race.none_]) (by simp[mk]) (by simp[mk]),mT+1,?_⟩
  u_leave0 H.f_add T.rl hF
  exact e _ hF.1 hF.2
theorem JI(H:WgLib P L)(T:sX R F L.tWg Wg)(l:∀w,F w→WgLive L.tWg Wg w→Goes P mn R DC0 Next mT (G (b₀.at (a₀.put ((ops₀[i₀]?).bind (·.dst)) (.tuple #[])) (.inRegion ops₀ rest₀::k₀)) cs) w)(g:Goroutine)(w:World)(h:yj L F Wg (b₀.at a₀ (.inRegion ops₀ (i₀::rest₀)::k₀)) cs g w):∃m,Goes P mn R DC0 (wT P mn R L.tWg Wg (yj L F Wg (b₀.at a₀ (.inRegion ops₀ (i₀::rest₀)::k₀)) cs) Next) m g w:=by
 lib_facts
 obtain⟨k,rfl,d,t0,hF⟩:=h;obtain⟨v0,v1,v2,v3,v4,v5,v6,v7,v8,v9,v10,v11,q,r,v14,v15,v16,v17,v18,v19,v20,v21,v22,v23,v24,v25,v26,s,t,u,v30,x,y,z,A,B,C,D,E,I,J,K,M,N,O,Q,U,V,W,X,Y,Z,aa,ab,ae,af,ag,ah,ai,aj,ak,al,am,an,ao,ap,aq,ar,au,av,aw,ax,ay,az,aA,aB,aC,aD,aE,aF,aG,aH,aI,aJ,rfl⟩:=array84 k d;simp only[fV,fW,dW]at t0;subst t0;refine⟨30,?_⟩;simp only[L7,body_wait,waitFn,eE]
 u_c stepG_block T.rl hF
 u_c stepG_seq T.rl hF
 u_reg T.rl hF
 iterate 3 (u_op T.rl hF)
 u_call H.f_uLoad (nm_uLoad L) uLoadFn T.rl hF
 u_c stepG_seq T.rl hF
 u_reg T.rl hF
 u_op T.rl hF
 u_c stepG_region_end T.rl hF
 u_c stepG_seq T.rl hF
 u_reg T.rl hF
 iterate 3 (u_op T.rl hF)
 refine fQ (fun w₁ a=>?_);replace hF:=T.rl hF a;clear a;refine⟨rfl,fun v hv hw=>?_⟩;rcases fb v with rfl|aK
 ·replace hw:WgAt L.tWg Wg w₁ 0 0:=by simpa using hw
  refine⟨_,fX (v:=0) rfl rfl (by k_ne) rfl H.f_loadU64 (x_loadU64_n L) (x_loadU64_b L) (x_loadU64_x L) .u64 (x_loadU64_f L) rfl hw.cellSt,fun _=>⟨50,?_⟩,fun h=>absurd rfl h⟩;clear hw;walk_nrm
  u_op T.rl hF
  u_c stepG_region_end T.rl hF
  u_c stepG_ret' T.rl hF
  u_leave1 H.f_uLoad T.rl hF
  u_op T.rl hF
  u_c stepG_region_end T.rl hF
  u_c stepG_seq T.rl hF
  u_reg T.rl hF
  iterate 4 (u_op T.rl hF)
  u_c stepG_region_end T.rl hF
  u_c stepG_seq T.rl hF
  u_reg T.rl hF
  iterate 4 (u_op T.rl hF)
  u_c stepG_region_end T.rl hF
  iterate 2 (u_c stepG_seq T.rl hF)
  u_reg T.rl hF
  iterate 2 (u_op T.rl hF)
  u_c stepG_region_end T.rl hF
  u_cnd true T.rl hF
  u_c stepG_seq T.rl hF
  u_cnd true T.rl hF
  u_c stepG_seq T.rl hF
  u_reg T.rl hF
  refine fQ (fun f a=>?_);replace hF:=T.rl hF a;clear a;refine⟨rfl,_,fR .enable (by simp) rfl rfl (by k_ne) rfl H.f_enable (x_enable_n L) (x_enable_b L) (x_enable_x L) (x_enable_f L),12,?_⟩;walk_nrm
  u_c stepG_region_end T.rl hF
  u_reg T.rl hF
  u_op T.rl hF
  u_conv H.underlying_tWgP H.room_tWg (WgLive.cell0 hF.2).choose_spec T.rl hF
  refine fQ (fun i a=>?_);replace hF:=T.rl hF a;clear a;refine⟨rfl,_,fT .acquire (by simp) rfl rfl (by k_ne) rfl H.f_acquire (x_acquire_n L) (x_acquire_b L) (x_acquire_x L) (x_acquire_f L) (by simp[Act.eval,stA]),⟨mT+20,?_⟩⟩;walk_nrm
  u_c stepG_region_end T.rl hF
  iterate 2 (u_c stepG_seq T.rl hF)
  u_reg T.rl hF
  iterate 3 (u_op T.rl hF)
  iterate 3 (first|u_op T.rl hF|u_skip T.rl hF)
  iterate 2 (u_op T.rl hF)
  iterate 2 (first|u_op T.rl hF|u_skip T.rl hF)
  u_op T.rl hF
  u_c stepG_region_end T.rl hF
  u_cnd false T.rl hF
  u_c stepG_skip T.rl hF
  u_c stepG_ret' T.rl hF
  u_leave0 H.f_wait T.rl hF
  exact l _ hF.1 hF.2
 ·obtain⟨S,hS⟩:∃S:Int,(v:Int)*KK=S:=⟨_,rfl⟩;have a1:S / 4294967296=(v:Int):=by rw[←hS];simp only[KK];omega
  have b1:bits .and .u64 S 2147483648=0:=by rw[←hS];have:=st_flag v 0 (by omega) (by omega);simpa[KK]using this
  have b2:bits .and .u64 S 2147483647=0:=by rw[←hS];have:=st_waiters v 0 (by omega) (by omega);simpa[KK]using this
  have c1:IntKind.i32.wrap (v:Int)=(v:Int):=by rw[IntKind.wrap_i32];omega
  have w1:IntKind.u64.wrap (S+1)=S+1:=by rw[IntKind.wrap_u64,←hS];simp only[KK];omega
  have q3:decide ((v:Int)<0)=false:=fU (by omega);have q4:decide (0<(v:Int))=true:=decide_eq_true (by omega);have q5:((v:Int) == 0)=false:=by simp;omega
  have q6:decide ((v:Int)=0)=false:=fU (by omega);rw[hS]at hw;refine⟨_,fX (v:=S) rfl rfl (by k_ne) rfl H.f_loadU64 (x_loadU64_n L) (x_loadU64_b L) (x_loadU64_x L) .u64 (x_loadU64_f L) rfl hw.cellSt,fun h0=>absurd h0 (by omega),fun _=>⟨60,?_⟩⟩;clear hw;walk_nrm
  u_op T.rl hF
  u_c stepG_region_end T.rl hF
  u_c stepG_ret' T.rl hF
  u_leave1 H.f_uLoad T.rl hF
  u_op T.rl hF
  u_c stepG_region_end T.rl hF
  u_c stepG_seq T.rl hF
  u_reg T.rl hF
  iterate 4 (u_op T.rl hF)
  u_c stepG_region_end T.rl hF
  u_c stepG_seq T.rl hF
  u_reg T.rl hF
  iterate 4 (u_op T.rl hF)
  u_c stepG_region_end T.rl hF
  iterate 2 (u_c stepG_seq T.rl hF)
  u_reg T.rl hF
  iterate 2 (u_op T.rl hF)
  u_c stepG_region_end T.rl hF
  u_cnd false T.rl hF
  u_c stepG_skip T.rl hF
  u_c stepG_seq T.rl hF
  u_reg T.rl hF
  iterate 6 (u_op T.rl hF)
  u_call H.f_uCas (nm_uCas L) uCasFn T.rl hF
  u_c stepG_seq T.rl hF
  u_reg T.rl hF
  u_op T.rl hF
  u_c stepG_region_end T.rl hF
  u_c stepG_seq T.rl hF
  u_reg T.rl hF
  iterate 5 (u_op T.rl hF)
  refine fQ (fun c a=>?_);replace hF:=T.rl hF a;clear a;refine⟨rfl,fun v' aL hw=>⟨fun e=>?_,fun aM=>?_⟩⟩
  ·subst e;rw[hS]at hw ⊢;refine⟨_,stepG_cas_hit (v:=S) rfl rfl (by k_ne) rfl H.f_casU64 (x_casU64_n L) (x_casU64_b L) (x_casU64_x L) .u64 (x_casU64_f L) rfl rfl rfl hw.cellSt (hw.thaw 0),60,?_⟩;replace hF:F (c.setCell (stA Wg) (.int .u64 (S+1)))∧WgLive L.tWg Wg (c.setCell (stA Wg) (.int .u64 (S+1))):=⟨T.own _ _ _ rfl hF.1,⟨_,_,hw.setSt _⟩⟩;clear hw;walk_nrm
   u_op T.rl hF
   u_c stepG_region_end T.rl hF
   u_c stepG_ret' T.rl hF
   u_leave1 H.f_uCas T.rl hF
   u_c stepG_region_end T.rl hF
   u_cnd true T.rl hF
   iterate 2 (u_c stepG_seq T.rl hF)
   u_reg T.rl hF
   u_op T.rl hF
   iterate 2 (first|u_op T.rl hF|u_skip T.rl hF)
   u_op T.rl hF
   u_c stepG_region_end T.rl hF
   u_cnd true T.rl hF
   u_reg T.rl hF
   iterate 3 (u_op T.rl hF)
   u_conv H.underlying_tPU32 H.room_tU32 (WgLive.cell1 hF.2).choose_spec T.rl hF
   refine fQ (fun o a=>?_);replace hF:=T.rl hF a;clear a;refine⟨rfl,_,fT .write (by simp) rfl rfl (by k_ne) rfl H.f_raceWrite (x_raceWrite_n L) (x_raceWrite_b L) (x_raceWrite_x L) (x_raceWrite_f L) (ad:=smA Wg) (by simp[Act.eval]<;>rfl),60,?_⟩;walk_nrm
   u_c stepG_region_end T.rl hF
   u_c stepG_seq T.rl hF
   u_reg T.rl hF
   u_op T.rl hF
   u_c stepG_region_end T.rl hF
   iterate 2 (u_c stepG_seq T.rl hF)
   u_reg T.rl hF
   iterate 4 (u_op T.rl hF)
   first|u_op T.rl hF|u_skip T.rl hF
   u_op T.rl hF
   u_c stepG_region_end T.rl hF
   u_cnd false T.rl hF
   u_c stepG_skip T.rl hF
   u_c stepG_seq T.rl hF
   u_reg T.rl hF
   iterate 4 (u_op T.rl hF)
   refine fQ (fun b a=>?_);replace hF:=T.rl hF a;clear a;refine⟨rfl,rfl,fun⟨st,hw⟩=>stepG_semacquire_wait rfl rfl rfl H.f_semacquire (x_semacquire_n L) (x_semacquire_b L) (x_semacquire_x L) (x_semacquire_f L) (by simp[Act.eval,smA]) hw.cellSm,fun j=>?_⟩;refine⟨_,(stepG_semacquire (n:=1) rfl rfl (by k_ne) rfl H.f_semacquire (x_semacquire_n L) (x_semacquire_b L) (x_semacquire_x L) (x_semacquire_f L) (by simp[Act.eval,smA]) j.cellSm (by k_ne) (j.thaw 1)).trans (by rfl),30,?_⟩;replace hF:F (b.setCell (smA Wg) (.int .u32 0))∧WgLive L.tWg Wg (b.setCell (smA Wg) (.int .u32 0)):=⟨T.own _ _ _ rfl hF.1,⟨_,_,j.setSm 0⟩⟩;clear j;walk_nrm
   u_c stepG_region_end T.rl hF
   u_c stepG_seq T.rl hF
   u_reg T.rl hF
   iterate 3 (u_op T.rl hF)
   u_call H.f_uLoad (nm_uLoad L) uLoadFn T.rl hF
   u_c stepG_seq T.rl hF
   u_reg T.rl hF
   u_op T.rl hF
   u_c stepG_region_end T.rl hF
   u_c stepG_seq T.rl hF
   u_reg T.rl hF
   iterate 3 (u_op T.rl hF)
   refine fQ (fun p a=>?_);replace hF:=T.rl hF a;clear a;refine⟨rfl,fun hw=>⟨_,fX (v:=0) rfl rfl (by k_ne) rfl H.f_loadU64 (x_loadU64_n L) (x_loadU64_b L) (x_loadU64_x L) .u64 (x_loadU64_f L) rfl hw.cellSt,30,?_⟩⟩;clear hw;walk_nrm
   u_op T.rl hF
   u_c stepG_region_end T.rl hF
   u_c stepG_ret' T.rl hF
   u_leave1 H.f_uLoad T.rl hF
   iterate 2 (u_op T.rl hF)
   u_c stepG_region_end T.rl hF
   u_c stepG_seq T.rl hF
   u_cnd true T.rl hF
   u_c stepG_seq T.rl hF
   u_reg T.rl hF
   refine fQ (fun f a=>?_);replace hF:=T.rl hF a;clear a;refine⟨rfl,_,fR .enable (by simp) rfl rfl (by k_ne) rfl H.f_enable (x_enable_n L) (x_enable_b L) (x_enable_x L) (x_enable_f L),12,?_⟩;walk_nrm
   u_c stepG_region_end T.rl hF
   u_reg T.rl hF
   u_op T.rl hF
   u_conv H.underlying_tWgP H.room_tWg (WgLive.cell0 hF.2).choose_spec T.rl hF
   refine fQ (fun i a=>?_);replace hF:=T.rl hF a;clear a;refine⟨rfl,_,fT .acquire (by simp) rfl rfl (by k_ne) rfl H.f_acquire (x_acquire_n L) (x_acquire_b L) (x_acquire_x L) (x_acquire_f L) (by simp[Act.eval,stA]),⟨mT+10,?_⟩⟩;walk_nrm
   u_c stepG_region_end T.rl hF
   iterate 2 (u_c stepG_seq T.rl hF)
   u_reg T.rl hF
   u_op T.rl hF
   u_c stepG_region_end T.rl hF
   u_cnd false T.rl hF
   u_c stepG_skip T.rl hF
   u_c stepG_ret' T.rl hF
   u_leave0 H.f_wait T.rl hF
   exact l _ hF.1 hF.2
  ·refine⟨_,stepG_cas_miss (v:=(v':Int)*KK) (old:=S) (n:=S+1) rfl rfl (by k_ne) rfl H.f_casU64 (x_casU64_n L) (x_casU64_b L) (x_casU64_x L) .u64 (x_casU64_f L) rfl rfl rfl hw.cellSt (hw.thaw 0) (by rw[←hS];simp only[KK];omega),20,?_⟩;clear hw;walk_nrm
   u_op T.rl hF
   u_c stepG_region_end T.rl hF
   u_c stepG_ret' T.rl hF
   u_leave1 H.f_uCas T.rl hF
   u_c stepG_region_end T.rl hF
   u_cnd false T.rl hF
   u_c stepG_skip T.rl hF
   u_c stepG_inBlock T.rl hF
   u_c stepG_inLoop T.rl hF
   refine fQ (fun b a=>?_);replace hF:=T.rl hF a;clear a;exact⟨_,rfl,by simp,by simp,hF⟩
theorem JJ(H:WgLib P L)(T:sX R F L.tWg Wg)(w:World)(hF:F w∧WgLive L.tWg Wg w):Goes P mn R DC0 (oT P mn R (mk .disable) (yj L F Wg (b₀.at a₀ (.inRegion ops₀ (i₀::rest₀)::k₀)) cs)) 3
   (G ((base L.wait).at ⟨#[.pointer (some ⟨Wg,0,none⟩)]++Array.replicate 83 undef,[]⟩ [.code (body_wait L)]) (b₀.at a₀ (.inRegion ops₀ (i₀::rest₀)::k₀)::cs)) w:=by
 lib_facts
 simp only[body_wait,waitFn,eE];walk_nrm
 u_c stepG_seq T.rl hF
 u_cnd true T.rl hF
 u_reg T.rl hF
 refine fQ (fun w₁ b=>?_);replace hF:=T.rl hF b;clear b;refine⟨rfl,_,fR .disable (by simp) rfl rfl (by k_ne) rfl H.f_disable (x_disable_n L) (x_disable_b L) (x_disable_x L) (x_disable_f L),3,?_⟩;walk_nrm
 u_c stepG_region_end T.rl hF
 u_c stepG_block T.rl hF
 u_c stepG_loop T.rl hF
 exact fQ (fun c a=>⟨_,rfl,by simp,by simp,T.rl hF a⟩)
end
end
end Go.Proofs.YtjnkcibpkkjniaaGreat.kN
