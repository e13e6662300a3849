import Derived.Test.YtjnkcibpkkjniaaGreatA16
set_option linter.unusedVariables false
set_option linter.unusedSimpArgs false
set_option linter.unusedSectionVars false
namespace Go.Proofs.YtjnkcibpkkjniaaGreat
open Go Go.RowKit
set_option maxHeartbeats 1600000
set_option maxRecDepth 20000
def xsOne (k0:Int) (s0:List Int):Nat→List Value
 | 0=>[]
 | _=>[.int .i64 0, .int .i64 k0, .string (strOfNums s0)]
theorem split_one {w:World} {sp xb xc jb jo jc:Nat} {k0:Int} {s0:List Int} (hc:w.cell? ⟨sp,1,none⟩=some (.slice (some ⟨xb,0,none⟩) 1 xc)) (hsp:sp < w.heap.size) (hjb:jb < w.heap.size) (i0:InAt w jb jo 0 k0 s0) :
  Calls Tryz.prog 36 #[.pointer (some ⟨sp,0,none⟩), .slice (some ⟨jb,jo,none⟩) 1 jc] w fun e w'=>∃ nb g c,e=.returned (.slice (some ⟨nb,0,none⟩) 1 1)∧w.heap.size≤nb∧g≠nb∧Below w.heap.size w w'∧w'.heap[nb]? = some (.cells #[.slice (some ⟨g,0,none⟩) 1 c] 44 (0,0))∧InRow w' g 1 c w.heap.size∧InAt w' g 0 0 k0 s0:=by
 have km:=mk44
 obtain ⟨i2,z2,hE,hzQ⟩:=el43Q
 have HE:Hid (ElI 43 i2 z2 3 32):=hE
 have HZ:Hid (∀ u∈z2.cells.toList,Pl u):=hzQ
 have H0:Hid (InAt w jb jo 0 k0 s0):=i0
 have HH:Hid (∀ w',w'.cell? ⟨sp,1,none⟩=some (.slice (some ⟨xb,0,none⟩) 1 xc)→Calls Tryz.prog 37 #[.pointer (some ⟨sp,0,none⟩), .int .i64 0] w' fun e w''=>e=.returned (.bool true)∧w''=w'):=fun w' h=>has_any w' sp _ 1 xc h (by decide)
 clear i0 hE hzQ
 go_enter Tryz.func36,Tryz.ntmps36
 go_wp2_with fail
 go_loopw [16] (fun i wr=>∃ k:Nat,k≤1∧i=.int .i64 k∧SpR w wr k (xsOne k0 s0 k)) (fun i _=>1 - (intOf i).toNat)
 case atStart=>exact ⟨0,by decide,rfl,(Below.refl _ _).alloc (Nat.le_refl _) _,_,Go.heap_alloc_new w _,World.ownsRow_nil _ _ _ _,AllQ.nil _ _⟩
 case round =>
  obtain ⟨k,hk,rfl,hR⟩:=hrel
  obtain rfl | rfl:k=0∨k=1:=by omega
  ·obtain ⟨hBr,v,hv,hown,hq⟩:=hR
   obtain ⟨ao,cp,rfl,hao⟩:=own_slice hown
   have hc2:=(hBr.cell (p:=⟨sp,1,none⟩) hsp).trans hc
   obtain ⟨a0,a1,a2⟩:=H0.out.keep (hBr.block jb hjb)
   have hlt:w.heap.size < wr.heap.size:=(Array.getElem?_eq_some_iff.1 hv).1
   have HBr:Hid (Below w.heap.size w wr):=hBr
   have HV:Hid (wr.heap[w.heap.size]? = some (.cells #[.slice ao 0 cp] 44 (0,0))):=hv
   have HO:Hid (wr.ownsRow (w.heap.size+1) 43 3 (.slice ao 0 cp) 0 []):=hown
   have HQ:Hid (AllQ Pl wr (.slice ao 0 cp)):=hq
   have HA:Hid (∀ k,(Value.slice ao 0 cp).ownBlock=some k→w.heap.size+1≤k):=hao
   have HC2:Hid (∀ o,(wr.alloc o).cell? ⟨sp,1,none⟩=some (.slice (some ⟨xb,0,none⟩) 1 xc)):=fun o=>(((Below.refl wr.heap.size wr).alloc (Nat.le_refl _) o).cell (p:=⟨sp,1,none⟩) (by show sp < wr.heap.size;omega)).trans hc2
   clear hBr hv hown hq hao hc2
   go_wp2_with (go_at_call 37;go_loud (refine (HH.out _ (HC2.out _)).mono ?_);go_loud (rintro e w2 ⟨rfl,rfl⟩))
   have hvb:=Go.heap_alloc_new wr (.cells #[.int .i64 0, .int .i64 k0, .string (strOfNums s0)] 43)
   have hnb2:=(Go.heap_alloc_old wr (.cells #[.int .i64 0, .int .i64 k0, .string (strOfNums s0)] 43) (r:=w.heap.size) hlt).trans HV.out
   have hB2:Below wr.heap.size wr (wr.alloc (.cells #[.int .i64 0, .int .i64 k0, .string (strOfNums s0)] 43)):=(Below.refl _ _).alloc (Nat.le_refl _) _
   have hsz2:(wr.alloc (.cells #[.int .i64 0, .int .i64 k0, .string (strOfNums s0)] 43)).heap.size=wr.heap.size+1:=by simp
   have hO2:=own_keep HO.out (w':=wr.alloc (.cells #[.int .i64 0, .int .i64 k0, .string (strOfNums s0)] 43)) fun k hk=>hB2.block k (World.ownsRow.lt HO.out k hk).2
   have hq2:=HQ.out.keep (w':=wr.alloc (.cells #[.int .i64 0, .int .i64 k0, .string (strOfNums s0)] 43)) fun k hk=>hB2.block k (World.ownsRow.lt HO.out k hk).2
   clear a0 a1 a2 HC2
   generalize (wr.alloc (.cells #[.int .i64 0, .int .i64 k0, .string (strOfNums s0)] 43))=w2 at hvb hnb2 hB2 hsz2 hO2 hq2 ⊢
   have HB2:Hid (Below wr.heap.size wr w2):=hB2
   have HSZ:Hid (w2.heap.size=wr.heap.size+1):=hsz2
   have hl1:w.heap.size < w2.heap.size:=by omega
   have hl2:wr.heap.size < w2.heap.size:=by omega
   clear hsz2
   have HNB2:Hid (w2.heap[w.heap.size]? = some (.cells #[.slice ao 0 cp] 44 (0,0))):=hnb2
   have HVB2:Hid (w2.heap[wr.heap.size]? = some (.cells #[.int .i64 0, .int .i64 k0, .string (strOfNums s0)] 43 (0,0))):=hvb
   have HO2:Hid (w2.ownsRow (w.heap.size+1) 43 3 (.slice ao 0 cp) 0 []):=hO2
   have HQ2:Hid (AllQ Pl w2 (.slice ao 0 cp)):=hq2
   have n0:=cell_blk hnb2 0
   have m0:=frozen_blk hnb2 0
   have x0:=cell_blk hvb 0;have x1:=cell_blk hvb 1;have x2:=cell_blk hvb 2
   simp at n0 x0 x1 x2
   clear hB2 hnb2 hvb hO2 hq2
   go_region_law (go_loud (refine step_append_all rfl (.tmp 31) (.tmp 33) 44 rfl Pl (w.heap.size+1) 43 i2 z2 3 32 Tryz.underlying44 HE.out.info HE.out.zero HE.out.size HE.out.bytes HE.out.cells (by decide) (.slice ao 0 cp) 0 [] (by simp [Act.eval,Act.put]) (own_keep HO2.out fun k hk=>Below.block (B:=w2.heap.size) (by (repeat (first | exact Below.refl _ _ | refine Below.drew ?_ | refine Below.alloc ?_ (by first | omega | (simp only [World.size_alloc,World.size_setCell,World.size_drew];omega) | simp) _ | refine Below.setCell ?_ (by first | omega | simp) _ | assumption))) k (World.ownsRow.lt HO2.out k hk).2) ⟨w2.heap.size,0,none⟩ 1 1 [.int .i64 0, .int .i64 k0, .string (strOfNums s0)] (by simp [Act.eval,Act.put]) rfl (by intro j u hu;match j,hu with | 0,hu=>simp at hu;subst hu;simp [Addr.add] | 1,hu=>simp at hu;subst hu;simp [Addr.add] | 2,hu=>simp at hu;subst hu;simp [Addr.add]) (by intro u hu;simp at hu;rcases hu with rfl | rfl | rfl <;> rfl) (by unfold maxLen;omega) (by omega) (by have:=HSZ.out;simp;omega) HZ.out (by intro u hu;simp at hu;rcases hu with rfl | rfl | rfl;exact Pl.int _ _;exact Pl.int _ _;exact Pl.string _) (HQ2.out.keep fun k hk=>Below.block (B:=w2.heap.size) (by (repeat (first | exact Below.refl _ _ | refine Below.drew ?_ | refine Below.alloc ?_ (by first | omega | (simp only [World.size_alloc,World.size_setCell,World.size_drew];omega) | simp) _ | refine Below.setCell ?_ (by first | omega | simp) _ | assumption))) k (World.ownsRow.lt HO2.out k hk).2) ?_);go_loud (intro v' w3 hown hg hq hv);go_loud (obtain ⟨g1,c1,cur1,hv1,hg1,hle1,hcur1,hcell1⟩:=row_open hown (by simp));go_loud (subst hv1);go_loud (have e3:=grown_blk hg (fun e=>by have:=HA.out _ e;omega) HNB2.out (by (repeat (first | exact Below.refl _ _ | refine Below.drew ?_ | refine Below.alloc ?_ (by first | omega | (simp only [World.size_alloc,World.size_setCell,World.size_drew];omega) | simp) _ | refine Below.setCell ?_ (by first | omega | simp) _ | assumption))));go_loud (have e4:=grown_blk hg (fun e=>by have:=(World.ownsRow.lt HO.out _ e).2;omega) HVB2.out (by (repeat (first | exact Below.refl _ _ | refine Below.drew ?_ | refine Below.alloc ?_ (by first | omega | (simp only [World.size_alloc,World.size_setCell,World.size_drew];omega) | simp) _ | refine Below.setCell ?_ (by first | omega | simp) _ | assumption))));go_loud (have n1:=cell_blk e3 0);go_loud (have m1:=frozen_blk e3 0);go_loud (have y0:=cell_blk e4 0);go_loud (have HS:Hid (SpR w (w3.setCell ⟨w.heap.size,0,none⟩ (.slice (some ⟨g1,0,none⟩) (0+1) c1)) (0+1) ([]++[.int .i64 0, .int .i64 k0, .string (strOfNums s0)])):=SpR.next HBr.out HV.out HB2.out (by (repeat (first | exact Below.refl _ _ | refine Below.drew ?_ | refine Below.alloc ?_ (by first | omega | (simp only [World.size_alloc,World.size_setCell,World.size_drew];omega) | simp) _ | refine Below.setCell ?_ (by first | omega | simp) _ | assumption))) hown hg hq HA.out);simp at n1 y0;clear hown hg hq hv hcell1 hcur1 e3 e4)
   all_goals (go_wp2_with fail)
   all_goals go_roundw
   all_goals first
    | case rel=>exact ⟨1,by decide,by go_num,HS.out⟩
    | case measure=>simp [intOf]
  ·obtain ⟨hBr,v,hv,hown,hq⟩:=hR
   obtain ⟨g,c,cur,rfl,hg,hle,hcur,hcell⟩:=row_open hown (by simp [xsOne])
   have hqq:=hq g cur _ _ rfl hcur
   have c0:=hcell 0 (by simp [xsOne])
   have c1:=hcell 1 (by simp [xsOne])
   have c2:=hcell 2 (by simp [xsOne])
   simp [xsOne] at c0 c1 c2
   have HBr:Hid (Below w.heap.size w wr):=hBr
   have HV:Hid (wr.heap[w.heap.size]? = _):=hv
   clear hBr hv hown hq hcell
   go_wp2_with fail
   exact bodyPost_ret (v:=.slice (some ⟨w.heap.size,0,none⟩) 1 1) (by simp [results,Tryz.results36,go_sem]) rfl ⟨w.heap.size,g,c,rfl,Nat.le_refl _,by omega,HBr.out,HV.out,⟨⟨cur,hcur,hqq⟩,by omega,hle⟩,⟨c0,c1,c2⟩⟩
end Go.Proofs.YtjnkcibpkkjniaaGreat
