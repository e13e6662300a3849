import Derived.Test.YtjnkcibpkkjniaaGreatA07
import Derived.Deep.RegionWith
set_option linter.unusedVariables false
set_option linter.unusedSimpArgs false
set_option linter.unusedSectionVars false
namespace Go.Proofs.YtjnkcibpkkjniaaGreat
open Go Go.RowKit
set_option maxHeartbeats 1600000
set_option maxRecDepth 20000
theorem idle_any {w:World} {sb:Nat} {au id:Int} {p:Pz} {st hold heard spoke:Int} {pa:Option Addr} {pl pc:Nat} (h:w.heap[sb]? = some (.cells (sessA au id p st hold heard spoke (.slice pa pl pc)) 100 (0,0))) :
  Calls Tryz.prog 158 #[.pointer (some ⟨sb,0,none⟩)] w fun e w'=>(∃ v,e=.returned v)∧w'.heap[sb]? = some (.cells (sessA au id p 0 0 0 0 (.slice none 0 0)) 100 (0,0))∧w'.os=w.os∧w.heap.size≤w'.heap.size∧∀ b,b < w.heap.size→b≠sb→w'.heap[b]? = w.heap[b]?:=by
 obtain ⟨qa,qh,ql,qp,qw,ia,il,ic,ea,el,ec⟩:=p
 simp only [sessA] at h ⊢
 have h0:=h
 have hlt:sb < w.heap.size:=(Array.getElem?_eq_some_iff.1 h).1
 have HN:=fun w=>new_any_sess au id ⟨qa,qh,ql,qp,qw,ia,il,ic,ea,el,ec⟩ w
 simp only [Pz.cells,sessA] at HN
 have c0:=cell_blk h 0;have c1:=cell_blk h 1;have c2:=cell_blk h 2;have c3:=cell_blk h 3;have c4:=cell_blk h 4;have c5:=cell_blk h 5;have c6:=cell_blk h 6;have c7:=cell_blk h 7;have c8:=cell_blk h 8
 simp at c0 c1 c2 c3 c4 c5 c6 c7 c8
 have H0:Hid (w.heap[sb]? = _):=h0
 have HN':Hid (∀ w,_):=HN
 clear h h0 HN
 go_enter Tryz.func158,Tryz.ntmps158
 go_wp2_with fail
 go_region_with (go_at_call 41;go_loud (refine (HN'.out _).mono ?_);go_loud (rintro e w1 ⟨rfl,hB⟩);go_loud (obtain hb:=(hB.block sb hlt).trans H0.out);go_loud (obtain ⟨e0,e1,e2,e3,e4,e5,e6,e7,e8,e9,e10,e11,e12,e13,z0,z1,z2,z3,z4,z5,z6,z7,z8,z9,z10,z11,z12,z13⟩:=cells14 hb))
 all_goals go_wp2_with fail
 all_goals
  have hE:=set14w hb (.int .i64 au) (.int .u32 id) (.int .i64 qa) (.int .i64 qh) (.int .i64 ql) (.int .i64 qp) (.int .i64 qw) (.slice ia il ic) (.slice ea el ec) (.int .i64 0) (.int .i64 0) (.int .i64 0) (.int .i64 0) (.slice none 0 0)
  have hsz:w.heap.size≤w1.heap.size:=hB.size
  exact bodyPost_end (v:=.tuple #[]) (by simp [results,Tryz.results158,go_sem]) rfl ⟨⟨_,rfl⟩,hE.1,hE.2.os.trans hB.os,by rw [hE.2.size];exact hsz,fun b h1 h2=>(hE.2.oth b h2).trans (hB.block b h1)⟩
end Go.Proofs.YtjnkcibpkkjniaaGreat
