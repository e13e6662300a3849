import Derived.Test.YtjnkcibpkkjniaaGreatA28
import Derived.Test.YtjnkcibpkkjniaaGreatA13
import Derived.Test.YtjnkcibpkkjniaaGreatA27
set_option linter.unusedVariables false
set_option linter.unusedSimpArgs false
set_option linter.unusedSectionVars false
namespace Go.Proofs.YtjnkcibpkkjniaaGreat
open Go Go.RowKit
open Go.Proofs.YtjnkcibpkkjniaaGreat.Pool (okOps topB wp_region_lb)
open Go.Proofs.YtjnkcibpkkjniaaGreat.Sim (PlBlk Sess Named3)
set_option maxHeartbeats 1000000
set_option maxRecDepth 20000
def rl0:Rl:=⟨true,0,0,0,32⟩
theorem RuBlk.rs {w:World} {g:Nat} (h:RuBlk w g):RsAt w (.slice (some ⟨g,0,none⟩) 1 1) 1 fun _=>rl0:=by
 refine ⟨⟨_,_,rfl,Nat.le_refl _,by decide,fun _=>⟨g,0,rfl,fun i hi k u hu=>?_⟩⟩,fun i hi=>⟨by show (0:Int)≤0;decide,by show (0:Int) < 4294967296;decide⟩⟩
 obtain rfl:i=0:=by omega
 have:=cell_blk h k
 simp only [Nat.zero_mul,Nat.zero_add]
 exact this.trans (by simpa [ruC,rl0,Rl.cells] using hu)
def pr0 (hd lm wt:Int) (g1 g2:Nat):Pr:=⟨100,hd,lm,100,wt, .slice (some ⟨g1,0,none⟩) 1 1,1,fun _=>rl0, .slice (some ⟨g2,0,none⟩) 1 1,1,fun _=>rl0⟩
theorem PeRow.ps {w:World} {B q qc g1 g2:Nat} {hd lm wt:Int} (h:PeRow w B q qc g1 g2 hd lm wt):PsAt w (.slice (some ⟨q,0,none⟩) 1 qc) 1 fun _=>pr0 hd lm wt g1 g2:=by
 refine ⟨⟨_,_,rfl,h.c1,h.c2,fun _=>⟨q,0,rfl,fun i hi k u hu=>?_⟩⟩,fun i hi=>⟨h.r1.rs,h.r2.rs⟩⟩
 obtain rfl:i=0:=by omega
 simp only [Nat.zero_mul,Nat.zero_add]
 exact h.cell k u hu
theorem pr0_ok {hd lm wt:Int} {g1 g2:Nat} (h1:3≤hd) (h2:hd≤65535) (h3:0≤lm) (h4:0≤wt) (h5:wt≤1000):peerB (pr0 hd lm wt g1 g2)=true:=by
 simp [peerB,pr0,betB,holdB,fltB,allB,ruleB,rl0,h1,h2,h3,h4,h5]
theorem check_one {w:World} {B q qc g1 g2:Nat} {hd lm wt:Int} (h:PeRow w B q qc g1 g2 hd lm wt) (h1:3≤hd) (h2:hd≤65535) (h3:0≤lm) (h4:0≤wt) (h5:wt≤1000) :
  Calls Tryz.prog 39 #[.agg #[.int .i64 65000, .int .u32 200, .int .u32 168430090, .slice (some ⟨q,0,none⟩) 1 qc]] w fun e w'=>e=.returned (.agg #[.int .i64 0, .int .i64 0])∧Below w.heap.size w w':=by
 have hf:faultOf 65000 200 1 (fun _=>pr0 hd lm wt g1 g2)=(0,0):=by
  simp [faultOf,spkB,betB,firstBad,pr0_ok h1 h2 h3 h4 h5]
 have:=check_any 65000 200 168430090 _ 1 qc _ w h.ps
 rw [hf] at this
 exact this
theorem arr42 {C:Array Value} (h:C.size=42):∃ c0 c1 c2 c3 c4 c5 c6 c7 c8 c9 c10 c11 c12 c13 c14 c15 c16 c17 c18 c19 c20 c21 c22 c23 c24 c25 c26 c27 c28 c29 c30 c31 c32 c33 c34 c35 c36 c37 c38 c39 c40 c41,C=#[c0,c1,c2,c3,c4,c5,c6,c7,c8,c9,c10,c11,c12,c13,c14,c15,c16,c17,c18,c19,c20,c21,c22,c23,c24,c25,c26,c27,c28,c29,c30,c31,c32,c33,c34,c35,c36,c37,c38,c39,c40,c41]:=by
 obtain ⟨l⟩:=C
 match l,h with
 | c0::c1::c2::c3::c4::c5::c6::c7::c8::c9::c10::c11::c12::c13::c14::c15::c16::c17::c18::c19::c20::c21::c22::c23::c24::c25::c26::c27::c28::c29::c30::c31::c32::c33::c34::c35::c36::c37::c38::c39::c40::c41::[],_=>exact ⟨_,_,_,_,_,_,_,_,_,_,_,_,_,_,_,_,_,_,_,_,_,_,_,_,_,_,_,_,_,_,_,_,_,_,_,_,_,_,_,_,_,_,rfl⟩
theorem field_cfg (au id nh:Int) (ao:Option Addr) (n cap:Nat) (w:World) :
  Sem.run Tryz.prog (Instr.field 25 (.agg #[.int .i64 au, .int .u32 id, .int .u32 nh, .slice ao n cap]) 3) w=.ok (.slice ao n cap) w:=by
 simp [Instr.field,part,isAgg,asAgg,go_sem]
theorem new_one {w:World} {B q qc g1 g2:Nat} {hd lm wt:Int} (h:PeRow w B q qc g1 g2 hd lm wt) (h1:3≤hd) (h2:hd≤65535) (h3:0≤lm) (h4:0≤wt) (h5:wt≤1000) :
  Calls Tryz.prog 20 #[.agg #[.int .i64 65000, .int .u32 200, .int .u32 168430090, .slice (some ⟨q,0,none⟩) 1 qc]] w fun e w'=>∃ sp,e=.returned (.tuple #[.pointer (some ⟨sp,0,none⟩), .agg #[.int .i64 0, .int .i64 0]])∧∃ (xb xc:Nat) (Z:List Value) (p:Pz),w'.heap[sp]? = some (.cells #[.int .i64 0, .slice (some ⟨xb,0,none⟩) 1 xc] 91 (0,0))∧Sess w' xb Z 65000 200 p 0 0 0 0 none 0 0∧p.au=100∧p.hold=hd∧sp≠xb∧¬ Named3 p none sp∧(w.heap.size≤sp∧w.heap.size≤xb∧∀ b,Named3 p none b→w.heap.size≤b)∧Below w.heap.size w w':=by
 have HCk:Hid (∀ w',Below w.heap.size w w'→Calls Tryz.prog 39 #[.agg #[.int .i64 65000, .int .u32 200, .int .u32 168430090, .slice (some ⟨q,0,none⟩) 1 qc]] w' fun e w''=>e=.returned (.agg #[.int .i64 0, .int .i64 0])∧Below w'.heap.size w' w''):=fun w' hB=>check_one (h.below hB) h1 h2 h3 h4 h5
 have HCp:Hid (∀ w',Below w.heap.size w w'→Calls Tryz.prog 40 #[.agg #[.int .i64 65000, .int .u32 200, .int .u32 168430090, .slice (some ⟨q,0,none⟩) 1 qc]] w' fun e w''=>∃ q' qc' a1 c1 a2 c2,e=.returned (.agg #[.int .i64 65000, .int .u32 200, .int .u32 168430090, .slice (some ⟨q',0,none⟩) 1 qc'])∧PcRow w'' w'.heap.size q' a1 c1 a2 c2 hd lm wt∧Below w'.heap.size w' w''):=fun w' hB=>copy_one (h.below hB) _ _ _
 clear h
 go_enter Tryz.func20,Tryz.ntmps20
 go_wp2_with (go_at_call 39;go_loud (refine (HCk.out _ (by (repeat (first | exact Below.refl _ _ | refine Below.drew ?_ | refine Below.alloc ?_ (by first | omega | (simp only [World.size_alloc,World.size_setCell,World.size_drew];omega) | simp) _ | refine Below.setCell ?_ (by first | omega | simp) _ | assumption)))).mono ?_);go_loud (rintro e w1 ⟨rfl,hB1⟩);go_loud (have y0:=hB1.cell (p:=⟨w.heap.size,0,none⟩) (by simp;omega));go_loud (have y1:=hB1.cell (p:=⟨w.heap.size,1,none⟩) (by simp;omega));go_loud (have y2:=hB1.cell (p:=⟨w.heap.size,2,none⟩) (by simp;omega));go_loud (have y3:=hB1.cell (p:=⟨w.heap.size,3,none⟩) (by simp;omega));go_loud (have hlt:=hB1.size);simp at y0 y1 y2 y3 hlt;go_loud (have hlt0:w.heap.size < w1.heap.size:=by omega);go_loud (have hlt1:w.heap.size+1 < w1.heap.size:=by omega))
 have k0:w1.heap[w.heap.size]? = some (.cells #[.int .i64 65000, .int .u32 200, .int .u32 168430090, .slice (some ⟨q,0,none⟩) 1 qc] 25 (0,0)):=(hB1.block _ (by simp;omega)).trans ((Go.heap_alloc_old _ _ (by simp)).trans (Go.heap_alloc_new w _))
 have k1:w1.heap[w.heap.size+1]? = some (.cells #[.int .i64 0, .int .i64 0] 50 (0,0)):=(hB1.block _ (by simp)).trans (by
  have:=Go.heap_alloc_new (w.alloc (.cells #[.int .i64 65000, .int .u32 200, .int .u32 168430090, .slice (some ⟨q,0,none⟩) 1 qc] 25)) (.cells #[.int .i64 0, .int .i64 0] 50)
  simpa using this)
 have hBw1:Below w.heap.size w w1:=Below.trans (by (repeat (first | exact Below.refl _ _ | refine Below.drew ?_ | refine Below.alloc ?_ (by first | omega | (simp only [World.size_alloc,World.size_setCell,World.size_drew];omega) | simp) _ | refine Below.setCell ?_ (by first | omega | simp) _ | assumption))) (hB1.mono (by simp <;> omega))
 have hWB:Below w.heap.size w ((w1.alloc (.cells #[.int .i64 0, .int .i64 0] 50)).alloc (.cells #[.int .i64 0, .slice none 0 0] 91)):=(hBw1.alloc (by omega) _).alloc (by simp <;> omega) _
 have e0:((w1.alloc (.cells #[.int .i64 0, .int .i64 0] 50)).alloc (.cells #[.int .i64 0, .slice none 0 0] 91)).heap[w.heap.size]? = _:=(Go.heap_alloc_old _ _ (by simp;omega)).trans ((Go.heap_alloc_old _ _ hlt0).trans k0)
 have e1:((w1.alloc (.cells #[.int .i64 0, .int .i64 0] 50)).alloc (.cells #[.int .i64 0, .slice none 0 0] 91)).heap[w.heap.size+1]? = _:=(Go.heap_alloc_old _ _ (by simp;omega)).trans ((Go.heap_alloc_old _ _ hlt1).trans k1)
 have e2:((w1.alloc (.cells #[.int .i64 0, .int .i64 0] 50)).alloc (.cells #[.int .i64 0, .slice none 0 0] 91)).heap[w1.heap.size+1]? = some (.cells #[.int .i64 0, .slice none 0 0] 91 (0,0)):=by
  have:=Go.heap_alloc_new (w1.alloc (.cells #[.int .i64 0, .int .i64 0] 50)) (.cells #[.int .i64 0, .slice none 0 0] 91)
  simpa using this
 have hWz:((w1.alloc (.cells #[.int .i64 0, .int .i64 0] 50)).alloc (.cells #[.int .i64 0, .slice none 0 0] 91)).heap.size=w1.heap.size+2:=by simp
 clear y0 y1 y2 y3 k0 k1 hB1 HCk hBw1
 generalize ((w1.alloc (.cells #[.int .i64 0, .int .i64 0] 50)).alloc (.cells #[.int .i64 0, .slice none 0 0] 91))=W at hWB e0 e1 e2 hWz ⊢
 refine (HCp.out W hWB).mono ?_
 rintro e w2 ⟨q',qc',a1,c1,a2,c2,rfl,hPc,hB2⟩
 have hs2:=hB2.size
 have hfield:=fun wx=>field_cfg 65000 200 168430090 (some ⟨q',0,none⟩) 1 qc' wx
 have E0:=(hB2.block _ (by omega)).trans e0
 have E1:=(hB2.block _ (by omega)).trans e1
 have E2:=(hB2.block _ (by omega)).trans e2
 obtain ⟨cur,hq,hqc⟩:=hPc.row
 have d0:=(cell_blk hq 0).trans (hqc 0 _ rfl)
 have d1:=(cell_blk hq 1).trans (hqc 1 _ rfl)
 have d2:=(cell_blk hq 2).trans (hqc 2 _ rfl)
 have d3:=(cell_blk hq 3).trans (hqc 3 _ rfl)
 have d4:=(cell_blk hq 4).trans (hqc 4 _ rfl)
 have d5:=(cell_blk hq 5).trans (hqc 5 _ rfl)
 have d6:=(cell_blk hq 6).trans (hqc 6 _ rfl)
 have HE0:Hid (w2.heap[w.heap.size]? = _):=E0
 have HE1:Hid (w2.heap[w.heap.size+1]? = _):=E1
 have HE2:Hid (w2.heap[w1.heap.size+1]? = _):=E2
 have HB2:Hid (Below w.heap.size w w2):=hWB.trans (hB2.mono (by omega))
 have HPc:Hid (PcRow w2 W.heap.size q' a1 c1 a2 c2 hd lm wt):=hPc
 clear E0 E1 E2 e0 e1 e2 hB2 hPc hq hqc hWB HCp
 go_wp2_with fail
 refine wp_loop_rounds 2 ?_
 rw [rounds_succ]
 go_wp2_with fail
 have g0:=(Go.heap_alloc_old w2 (.cells #[.int .i64 100, .int .i64 hd, .int .i64 lm, .int .i64 100, .int .i64 wt, .slice (some ⟨a1,0,none⟩) 1 c1, .slice (some ⟨a2,0,none⟩) 1 c2] 69) (r:=w.heap.size) (by omega)).trans HE0.out
 have g1:=(Go.heap_alloc_old w2 (.cells #[.int .i64 100, .int .i64 hd, .int .i64 lm, .int .i64 100, .int .i64 wt, .slice (some ⟨a1,0,none⟩) 1 c1, .slice (some ⟨a2,0,none⟩) 1 c2] 69) (r:=w.heap.size+1) (by omega)).trans HE1.out
 have g2:=(Go.heap_alloc_old w2 (.cells #[.int .i64 100, .int .i64 hd, .int .i64 lm, .int .i64 100, .int .i64 wt, .slice (some ⟨a1,0,none⟩) 1 c1, .slice (some ⟨a2,0,none⟩) 1 c2] 69) (r:=w1.heap.size+1) (by omega)).trans HE2.out
 have g3:=Go.heap_alloc_new w2 (.cells #[.int .i64 100, .int .i64 hd, .int .i64 lm, .int .i64 100, .int .i64 wt, .slice (some ⟨a1,0,none⟩) 1 c1, .slice (some ⟨a2,0,none⟩) 1 c2] 69)
 have hz:(w2.alloc (.cells #[.int .i64 100, .int .i64 hd, .int .i64 lm, .int .i64 100, .int .i64 wt, .slice (some ⟨a1,0,none⟩) 1 c1, .slice (some ⟨a2,0,none⟩) 1 c2] 69)).heap.size=w2.heap.size+1:=by simp
 have hB3:Below w.heap.size w (w2.alloc (.cells #[.int .i64 100, .int .i64 hd, .int .i64 lm, .int .i64 100, .int .i64 wt, .slice (some ⟨a1,0,none⟩) 1 c1, .slice (some ⟨a2,0,none⟩) 1 c2] 69)):=HB2.out.alloc (by omega) _
 have r1:PlBlk (w2.alloc (.cells #[.int .i64 100, .int .i64 hd, .int .i64 lm, .int .i64 100, .int .i64 wt, .slice (some ⟨a1,0,none⟩) 1 c1, .slice (some ⟨a2,0,none⟩) 1 c2] 69)) a1:=HPc.out.r1.keep (Go.heap_alloc_old _ _ (by obtain ⟨_,_,_,k,_⟩:=HPc.out.r1;exact (Array.getElem?_eq_some_iff.1 k).1))
 have r2:PlBlk (w2.alloc (.cells #[.int .i64 100, .int .i64 hd, .int .i64 lm, .int .i64 100, .int .i64 wt, .slice (some ⟨a1,0,none⟩) 1 c1, .slice (some ⟨a2,0,none⟩) 1 c2] 69)) a2:=HPc.out.r2.keep (Go.heap_alloc_old _ _ (by obtain ⟨_,_,_,k,_⟩:=HPc.out.r2;exact (Array.getElem?_eq_some_iff.1 k).1))
 have hla1:a1 < w2.heap.size:=by obtain ⟨_,_,_,k,_⟩:=HPc.out.r1;exact (Array.getElem?_eq_some_iff.1 k).1
 have hla2:a2 < w2.heap.size:=by obtain ⟨_,_,_,k,_⟩:=HPc.out.r2;exact (Array.getElem?_eq_some_iff.1 k).1
 have hba1:=HPc.out.b1
 have hba2:=HPc.out.b2
 clear d0 d1 d2 d3 d4 d5 d6
 generalize (w2.alloc (.cells #[.int .i64 100, .int .i64 hd, .int .i64 lm, .int .i64 100, .int .i64 wt, .slice (some ⟨a1,0,none⟩) 1 c1, .slice (some ⟨a2,0,none⟩) 1 c2] 69))=w3 at g0 g1 g2 g3 hz hB3 r1 r2 ⊢
 have c0:=cell_blk g0 0;have c1':=cell_blk g0 1
 have s1:=cell_blk g2 1;have m1:=frozen_blk g2 1
 have d0:=cell_blk g3 0;have d1:=cell_blk g3 1;have d2:=cell_blk g3 2;have d3:=cell_blk g3 3;have d4:=cell_blk g3 4;have d5:=cell_blk g3 5;have d6:=cell_blk g3 6
 simp at c0 c1' s1 d0 d1 d2 d3 d4 d5 d6
 refine wp_region_lb (D:=_) (ops:=nwOps) (val:=nwV (w1.heap.size+1) w.heap.size (w2.heap.size+1) 65000 200 ⟨100,hd,lm,100,wt,some ⟨a1,0,none⟩,1,c1,some ⟨a2,0,none⟩,1,c2⟩) (fix:=[(1, .pointer (some ⟨w.heap.size,0,none⟩)),(3, .pointer (some ⟨w.heap.size+1,0,none⟩)),(5, .pointer (some ⟨w1.heap.size+1,0,none⟩)),(7, .pointer (some ⟨w2.heap.size,0,none⟩)),(18, .slice (some ⟨q',0,none⟩) 1 qc'),(19, .int .i64 1),(20, .int .i64 0)]) (T:=42) (w0:=w3) (Post:=fun (_:Act) (w':World)=>∃ (wz:World) (xb xc:Nat) (Z:List Value),Below w3.heap.size w3 wz∧w'=wz.setCell ⟨w1.heap.size+1,1,none⟩ (.slice (some ⟨xb,0,none⟩) 1 xc)∧w2.heap.size+1≤xb∧wz.heap[xb]? = some (.cells (sessA 65000 200 ⟨100,hd,lm,100,wt,some ⟨a1,0,none⟩,1,c1,some ⟨a2,0,none⟩,1,c2⟩ 0 0 0 0 (.slice none 0 0)++Z.toArray) 100 (0,0))∧∀ u∈Z,Pl u) (n:=15) (by kernel_rfl) nw_ok nw_top nw_size nwV_mono
  (fun i o a wx hi ho hfx hdep hs K hK=>nw_hop (by omega) (by omega) (by omega) (by omega) s1 c0 c1' d0 d1 d2 d3 d4 d5 d6 i o a wx hi ho (hfx (1, .pointer (some ⟨w.heap.size,0,none⟩)) (by simp)) (hfx (5, .pointer (some ⟨w1.heap.size+1,0,none⟩)) (by simp)) (hfx (7, .pointer (some ⟨w2.heap.size,0,none⟩)) (by simp)) hdep hs K hK)
  (fun o a wx ho hfx hdep hs K hK=>nw_last (by omega) s1 m1 o a wx ho hdep hs K fun v w' wz xb xc Z j1 j2 j3 j4 j5=>hK v w' ⟨wz,xb,xc,Z,j1,j2,j3,j4,j5⟩) (fun a wx hdf hsz hfx hP=>?_) rfl rfl ?_ ?_
 rotate_left
 ·intro x hx
  simp at hx
  rcases hx with rfl | rfl | rfl | rfl | rfl | rfl | rfl <;> rfl
 ·exact ⟨rfl,rfl,rfl,Nat.le_refl _,fun _ _=>rfl⟩
 obtain ⟨wz,xb,xc,Z,hBz,rfl,hxb,hblk,hpl⟩:=hP
 have f3:a.tmps[3]? = some (.pointer (some ⟨w.heap.size+1,0,none⟩)):=hfx (3, .pointer (some ⟨w.heap.size+1,0,none⟩)) (by simp)
 have f5:a.tmps[5]? = some (.pointer (some ⟨w1.heap.size+1,0,none⟩)):=hfx (5, .pointer (some ⟨w1.heap.size+1,0,none⟩)) (by simp)
 have f19:a.tmps[19]? = some (.int .i64 1):=hfx (19, .int .i64 1) (by simp)
 have f20:a.tmps[20]? = some (.int .i64 0):=hfx (20, .int .i64 0) (by simp)
 obtain ⟨tm,df⟩:=a
 simp only at hdf hsz f3 f5 f19 f20
 subst hdf
 obtain ⟨k0,k1,k2,k3,k4,k5,k6,k7,k8,k9,k10,k11,k12,k13,k14,k15,k16,k17,k18,k19,k20,k21,k22,k23,k24,k25,k26,k27,k28,k29,k30,k31,k32,k33,k34,k35,k36,k37,k38,k39,k40,k41,rfl⟩:=arr42 hsz
 simp only [List.getElem?_toArray,List.getElem?_cons_succ,List.getElem?_cons_zero,Option.some.injEq] at f3 f5 f19 f20
 subst f3 f5 f19 f20
 have hk:∀ b,b≠w1.heap.size+1→(wz.setCell ⟨w1.heap.size+1,1,none⟩ (.slice (some ⟨xb,0,none⟩) 1 xc)).heap[b]? = wz.heap[b]?:=fun b hb=>set_oth hb.symm 1 _
 have F1:(wz.setCell ⟨w1.heap.size+1,1,none⟩ (.slice (some ⟨xb,0,none⟩) 1 xc)).heap[w.heap.size+1]? = some (.cells #[.int .i64 0, .int .i64 0] 50 (0,0)):=(hk _ (by omega)).trans ((hBz.block _ (by omega)).trans g1)
 have F2:(wz.setCell ⟨w1.heap.size+1,1,none⟩ (.slice (some ⟨xb,0,none⟩) 1 xc)).heap[w1.heap.size+1]? = some (.cells #[.int .i64 0, .slice (some ⟨xb,0,none⟩) 1 xc] 91 (0,0)):=by
  rw [set_blk ((hBz.block _ (by omega)).trans g2)]
  rfl
 have FS:Sess (wz.setCell ⟨w1.heap.size+1,1,none⟩ (.slice (some ⟨xb,0,none⟩) 1 xc)) xb Z 65000 200 ⟨100,hd,lm,100,wt,some ⟨a1,0,none⟩,1,c1,some ⟨a2,0,none⟩,1,c2⟩ 0 0 0 0 none 0 0:=by
  refine ⟨(hk _ (by omega)).trans hblk,hpl,fun b hb=>?_⟩
  rcases hb with ⟨ad,e,rfl⟩ | ⟨ad,e,rfl⟩ | ⟨ad,e,rfl⟩
  ·cases e;exact ⟨by show a1≠xb;omega,r1.keep ((hk a1 (by omega)).trans (hBz.block _ (by omega)))⟩
  ·cases e;exact ⟨by show a2≠xb;omega,r2.keep ((hk a2 (by omega)).trans (hBz.block _ (by omega)))⟩
  ·cases e
 have FB:Below w.heap.size w (wz.setCell ⟨w1.heap.size+1,1,none⟩ (.slice (some ⟨xb,0,none⟩) 1 xc)):=(hB3.trans (hBz.mono (by omega))).setCell (by show w.heap.size≤w1.heap.size+1;omega) _
 have HX2:∀ b,Named3 ⟨100,hd,lm,100,wt,some ⟨a1,0,none⟩,1,c1,some ⟨a2,0,none⟩,1,c2⟩ none b→w1.heap.size+2≤b:=fun b hb=>by
  rcases hb with ⟨ad,e,e2⟩ | ⟨ad,e,e2⟩ | ⟨ad,e,e2⟩
  ·cases e;have:a1=b:=e2;omega
  ·cases e;have:a2=b:=e2;omega
  ·cases e
 have HX:Hid (w1.heap.size+1≠xb∧¬ Named3 ⟨100,hd,lm,100,wt,some ⟨a1,0,none⟩,1,c1,some ⟨a2,0,none⟩,1,c2⟩ none (w1.heap.size+1)∧(w.heap.size≤w1.heap.size+1∧w.heap.size≤xb∧∀ b,Named3 ⟨100,hd,lm,100,wt,some ⟨a1,0,none⟩,1,c1,some ⟨a2,0,none⟩,1,c2⟩ none b→w.heap.size≤b)):=by
  refine ⟨by omega,fun hb=>?_,by omega,by omega,fun b hb=>?_⟩
  ·have:=HX2 _ hb;omega
  ·have:=HX2 _ hb;omega
 clear HX2
 clear s1 m1 c0 c1' d0 d1 d2 d3 d4 d5 d6 g0 g1 g2 g3 hBz hblk r1 r2 hk hfx hB3
 generalize (wz.setCell ⟨w1.heap.size+1,1,none⟩ (.slice (some ⟨xb,0,none⟩) 1 xc))=wf at F1 F2 FS FB ⊢
 have HF2:Hid (wf.heap[w1.heap.size+1]? = _):=F2
 have HFS:Hid (Sess wf _ _ _ _ _ _ _ _ _ _ _ _):=FS
 have HFB:Hid (Below _ _ wf):=FB
 have x0:=cell_blk F1 0;have x1:=cell_blk F1 1
 have z0:=frozen_blk F1 0;have z1:=frozen_blk F1 1
 simp at x0 x1
 have hne:w1.heap.size+1≠w.heap.size+1:=by omega
 have HN1:Hid (∀ b,b≠w.heap.size+1→((wf.setCell ⟨w.heap.size+1,0,none⟩ (.int .i64 0)).setCell ⟨w.heap.size+1,1,none⟩ (.int .i64 0)).heap[b]? = wf.heap[b]?):=fun b hb=>by
  rw [set_oth hb.symm 1 _,set_oth hb.symm 0 _]
 have HFl:Hid (xb≠w.heap.size+1∧a1≠w.heap.size+1∧a2≠w.heap.size+1):=⟨by omega,by omega,by omega⟩
 clear F1 F2 FS FB hne
 go_wp2_with fail
 rw [rounds_succ]
 go_wp2_with fail
 have HG1:Hid (((wf.setCell ⟨w.heap.size+1,0,none⟩ (.int .i64 0)).setCell ⟨w.heap.size+1,1,none⟩ (.int .i64 0)).heap[w1.heap.size+1]? = _):=(HN1.out _ (by omega)).trans HF2.out
 have HG2:Hid (Sess ((wf.setCell ⟨w.heap.size+1,0,none⟩ (.int .i64 0)).setCell ⟨w.heap.size+1,1,none⟩ (.int .i64 0)) _ _ _ _ _ _ _ _ _ _ _ _):=HFS.out.keep fun b hb=>HN1.out b (by
  rcases hb with rfl | ⟨ad,e,rfl⟩ | ⟨ad,e,rfl⟩ | ⟨ad,e,rfl⟩
  ·exact HFl.out.1
  ·cases e;exact HFl.out.2.1
  ·cases e;exact HFl.out.2.2
  ·cases e)
 have HG3:Hid (Below w.heap.size w ((wf.setCell ⟨w.heap.size+1,0,none⟩ (.int .i64 0)).setCell ⟨w.heap.size+1,1,none⟩ (.int .i64 0))):=(HFB.out.setCell (Nat.le_succ _) _).setCell (Nat.le_succ _) _
 exact bodyPost_ret (v:=.tuple #[.pointer (some ⟨w1.heap.size+1,0,none⟩), .agg #[.int .i64 0, .int .i64 0]]) (by simp [results,Tryz.results20,go_sem,x0,x1]) rfl ⟨_,rfl,xb,xc,Z,_,HG1.out,HG2.out,rfl,rfl,HX.out.1,HX.out.2.1,HX.out.2.2,HG3.out⟩
end Go.Proofs.YtjnkcibpkkjniaaGreat
namespace Go.Proofs.YtjnkcibpkkjniaaGreat.Pool
open Go Go.Conc Go.RowKit Go.Proofs.YtjnkcibpkkjniaaGreat.Sim
theorem GX.append {cs:List Frame} {Q:Frame→List Frame→World→Prop} {b:Frame} {a:Act} {ops:Array Oper} {i:Nat} {l:List Nat} {k:List Item} {xs:List Frame} {w:World} {o:Oper} (ho:ops[i]? = some o) (hw:Region.wanted o (yielded ops a.tmps)=true) (hok:@okOper scopeM Tryz.prog o=true)
  (s x:Operand) (t:TypeId) (hop:o.op=Op.call { callee:=Callee.builtin Builtin.append,args:=#[s,x],argTypes:=#[t,t] }) {sv xv:Value} (hs:a.eval s=sv) (hx:a.eval x=xv)
  (hrun:∀ T,∃ v w2,(Builtin.append_ #[t,t] o.type #[sv,xv]).run Tryz.prog (again w T)=.ok v w2∧GX cs Q (b.at (a.put o.dst v) (.inRegion ops l::k)) xs w2) (hu:noMkL o.op.operands a.eval=true:=by first | rfl | (simp [noMkL,Op.operands,Call.operands,Act.eval,m_ptr,m_sl,m_int,m_str,m_bool,m_func,m_tup,m_agg, *])):GX cs Q (b.at a (.inRegion ops (i::l)::k)) xs w :=
 GX.opv (hu:=hu) ho hw hok fun T=>by
  obtain ⟨v,w2,e,h⟩:=hrun T
  refine ⟨v,w2,?_,h⟩
  simp [execOp,hop,resolve,invoke,builtin,hs,hx,e,Result.andThen]
end Go.Proofs.YtjnkcibpkkjniaaGreat.Pool
namespace Go.Proofs.YtjnkcibpkkjniaaGreat.Pool
open Go Go.Conc Go.RowKit Go.Proofs.YtjnkcibpkkjniaaGreat.Sim
set_option maxRecDepth 20000
set_option maxHeartbeats 2000000
noncomputable def mtRest:Code:=match Tryz.f14.body with | some (.seq _ (.seq _ (.seq _ (.seq _ (.seq _ r)))))=>r | _=>.skip
theorem met_to {cs:List Frame} {Q:Frame→List Frame→World→Prop} {xs:List Frame} {w:World} {hd:Int} (h1:3≤hd) (h2:hd≤65535)
  (hk:∀ (a:Act) (w':World) (sp xb xc:Nat) (Z:List Value) (p:Pz) (jb jc:Nat),a.defers=[]→a.tmps.size=83→a.tmps[0]? = some (.int .i64 1)→a.tmps[1]? = some (.int .i64 hd)→a.tmps[9]? = some (.pointer (some ⟨sp,0,none⟩))→a.tmps[11]? = some (.slice (some ⟨jb,0,none⟩) 2 jc)→Stnd w' sp xb xc Z 0 65000 200 p 0 0 0 0 none 0 0→p.au=100→p.hold=hd→jb < w'.heap.size→jb≠sp→InAt w' jb 0 0 1 []→InAt w' jb (0+3) 0 2 (opnD hd)→(∀ b,b < w.heap.size→w'.heap[b]? = w.heap[b]?)→(w.heap.size≤sp∧w.heap.size≤xb∧∀ b,Named3 p none b→w.heap.size≤b) →
   GX cs Q ((base 14).at a [.code mtRest]) xs w') :
  GX cs Q ((base 14).at { tmps:=#[.int .i64 1, .int .i64 hd, .int .i64 0, .int .i64 0]++Array.replicate 79 undef,defers:=[] } [.code (Tryz.f14.body.getD .skip)]) xs w:=by
 have HK:Hid (_):=hk
 clear hk
 (have g_v:=valTo_ok;have g_s:=skpTo_ok;have g_e:=entTo_ok;have g_c:=cell_again;have g_f:=frozen_again;have g_h:=heap_again)
 simp only [Tryz.f14,Option.getD_some]
 walk_nrm
 refine GX.seq ?_
 ((refine GX.region ?_);walk_nrm)
 ((refine GX.v rfl rfl (by kernel_rfl) (fun T K hK=>?_));unfold execOp;go_simp;(refine hK _ _ ?_);clear hK K;(refine GX.like (v:=w) ?_ rfl rfl);clear T;walk_nrm)
 refine GX.regionEnd ?_
 refine GX.seq ?_
 ((refine GX.region ?_);walk_nrm)
 iterate 4 ((refine GX.v rfl rfl (by kernel_rfl) (fun T K hK=>?_));unfold execOp;go_simp;(refine hK _ _ ?_);clear hK K;(refine GX.like (v:=w) ?_ rfl rfl);clear T;walk_nrm)
 refine GX.c rfl rfl (by kernel_rfl) (fun T K hK=>?_)
 unfold execOp
 go_simp
 refine hK _ _ _ (fun T'=>?_)
 clear hK K
 refine Calls.mono (config_one _ hd 0 0) ?_
 rintro e w1 ⟨q,qc,g1,g2,rfl,hR,hB1⟩
 refine ⟨_,rfl,?_⟩
 walk_nrm
 refine GX.c rfl rfl (by kernel_rfl) (fun T K hK=>?_)
 unfold execOp
 go_simp
 refine hK _ _ _ (fun T'=>?_)
 clear hK K
 refine Calls.mono (new_one (B:=w.heap.size) (w:=again w1 T') (hR.keep fun b _ _=>rfl) h1 h2 (by decide) (by decide) (by decide)) ?_
 rintro e w2 ⟨sp,rfl,xb,xc,Z,p,hsp,hS,hpa,hph,hne,hnm,hnew,hB2⟩
 refine ⟨_,rfl,?_⟩
 walk_nrm
 iterate 3 ((refine GX.v rfl rfl (by kernel_rfl) (fun T K hK=>?_));unfold execOp;go_simp;(refine hK _ _ ?_);clear hK K;(refine GX.like (v:=w2) ?_ rfl rfl);clear T;walk_nrm)
 iterate 2 ((refine GX.v rfl rfl (by kernel_rfl) (fun T K hK=>?_));unfold execOp;go_simp;(refine hK _ _ ?_);clear hK K;(refine GX.like (v:=(w2.alloc (.cells #[.int .i64 0, .int .i64 0] 50))) ?_ rfl rfl);clear T;walk_nrm)
 refine GX.u rfl rfl (by kernel_rfl) (fun T K hK=>?_)
 unfold execOp
 go_simp
 refine hK _ ?_
 clear hK K
 refine GX.like (v:=(((w2.alloc (.cells #[.int .i64 0, .int .i64 0] 50)).setCell ⟨w2.heap.size,0,none⟩ (.int .i64 0)).setCell ⟨w2.heap.size,1,none⟩ (.int .i64 0))) ?_ rfl rfl
 clear T
 have hz3:(((w2.alloc (.cells #[.int .i64 0, .int .i64 0] 50)).setCell ⟨w2.heap.size,0,none⟩ (.int .i64 0)).setCell ⟨w2.heap.size,1,none⟩ (.int .i64 0)).heap.size=w2.heap.size+1:=by simp
 have hF:(((w2.alloc (.cells #[.int .i64 0, .int .i64 0] 50)).setCell ⟨w2.heap.size,0,none⟩ (.int .i64 0)).setCell ⟨w2.heap.size,1,none⟩ (.int .i64 0)).heap[w2.heap.size]? = some (.cells #[.int .i64 0, .int .i64 0] 50 (0,0)):=by
  rw [set_blk (set_blk (Go.heap_alloc_new w2 _) 0 _) 1 _]
  rfl
 have hk3:∀ b,b < w2.heap.size→(((w2.alloc (.cells #[.int .i64 0, .int .i64 0] 50)).setCell ⟨w2.heap.size,0,none⟩ (.int .i64 0)).setCell ⟨w2.heap.size,1,none⟩ (.int .i64 0)).heap[b]? = w2.heap[b]?:=fun b hb=>by
  rw [set_oth (by omega) 1 _,set_oth (by omega) 0 _]
  exact Go.heap_alloc_old w2 _ hb
 generalize (((w2.alloc (.cells #[.int .i64 0, .int .i64 0] 50)).setCell ⟨w2.heap.size,0,none⟩ (.int .i64 0)).setCell ⟨w2.heap.size,1,none⟩ (.int .i64 0))=w3 at hz3 hF hk3 ⊢
 have y0:=cell_blk hF 0
 have y1:=cell_blk hF 1
 simp at y0 y1
 walk_nrm
 refine GX.regionEnd ?_
 refine GX.seq ?_
 refine GX.seq ?_
 ((refine GX.region ?_);walk_nrm)
 iterate 7 ((refine GX.v rfl rfl (by kernel_rfl) (fun T K hK=>?_));unfold execOp;go_simp;(refine hK _ _ ?_);clear hK K;(refine GX.like (v:=w3) ?_ rfl rfl);clear T;walk_nrm)
 refine GX.regionEnd ?_
 refine GX.cond (t:=false) (by kernel_rfl) rfl ?_
 simp only [Bool.false_eq_true,if_false]
 refine GX.skipCode ?_
 refine GX.seq ?_
 ((refine GX.region ?_);walk_nrm)
 iterate 1 ((refine GX.v rfl rfl (by kernel_rfl) (fun T K hK=>?_));unfold execOp;go_simp;(refine hK _ _ ?_);clear hK K;(refine GX.like (v:=w3) ?_ rfl rfl);clear T;walk_nrm)
 refine GX.regionEnd ?_
 refine GX.seq ?_
 refine GX.seq ?_
 ((refine GX.region ?_);walk_nrm)
 ((refine GX.v rfl rfl (by kernel_rfl) (fun T K hK=>?_));unfold execOp;go_simp;(refine hK _ _ ?_);clear hK K;(refine GX.like (v:=w3) ?_ rfl rfl);clear T;walk_nrm)
 refine GX.regionEnd ?_
 refine GX.block ?_
 refine GX.loop ?_
 refine GX.seq ?_
 refine GX.seq ?_
 ((refine GX.region ?_);walk_nrm)
 iterate 3 ((refine GX.v rfl rfl (by kernel_rfl) (fun T K hK=>?_));unfold execOp;go_simp;(refine hK _ _ ?_);clear hK K;(refine GX.like (v:=w3) ?_ rfl rfl);clear T;walk_nrm)
 refine GX.regionEnd ?_
 refine GX.cond (t:=true) (by kernel_rfl) rfl ?_
 simp only [if_true]
 refine GX.skipCode ?_
 refine GX.seq ?_
 refine GX.block ?_
 ((refine GX.region ?_);walk_nrm)
 iterate 9 ((refine GX.v rfl rfl (by kernel_rfl) (fun T K hK=>?_));unfold execOp;go_simp;(refine hK _ _ ?_);clear hK K;(refine GX.like (v:=w3) ?_ rfl rfl);clear T;walk_nrm)
 rw [show IntKind.i64.wrap 100=100 from rfl,show IntKind.i64.wrap 1=1 from rfl]
 refine GX.c rfl rfl (by kernel_rfl) (fun T K hK=>?_)
 unfold execOp
 go_simp
 refine hK _ _ _ (fun T'=>?_)
 clear hK K
 refine Calls.mono (kopen_any 100 hd 1 _) ?_
 rintro e w4 ⟨rfl,hB4⟩
 refine ⟨_,rfl,?_⟩
 walk_nrm
 refine GX.c rfl rfl (by kernel_rfl) (fun T K hK=>?_)
 unfold execOp
 go_simp
 refine hK _ _ _ (fun T'=>?_)
 clear hK K
 refine Calls.mono (kalive_any _) ?_
 rintro e w5 ⟨rfl,hB5⟩
 refine ⟨_,rfl,?_⟩
 walk_nrm
 have ks:=S_append
 iterate 2 ((refine GX.v rfl rfl (by kernel_rfl) (fun T K hK=>?_));unfold execOp;go_simp;(refine hK _ _ ?_);clear hK K;(refine GX.like (v:=w5) ?_ rfl rfl);clear T;walk_nrm)
 refine GX.v rfl rfl (by kernel_rfl) (fun T K hK=>?_)
 unfold execOp
 go_simp
 refine hK _ _ ?_
 clear hK K
 refine GX.like (v:=(w5.alloc (.cells #[.int .i64 0, .int .i64 1, .string ⟨#[]⟩, .int .i64 0, .int .i64 2, .string (strOfNums (msgL 1 (openL 100 hd [0,0,0,IntKind.u8.wrap 1,0])++msgL 4 []))] 43))) ?_ rfl rfl
 clear T
 have hI:(w5.alloc (.cells #[.int .i64 0, .int .i64 1, .string ⟨#[]⟩, .int .i64 0, .int .i64 2, .string (strOfNums (msgL 1 (openL 100 hd [0,0,0,IntKind.u8.wrap 1,0])++msgL 4 []))] 43)).heap[w5.heap.size]? = some (.cells #[.int .i64 0, .int .i64 1, .string ⟨#[]⟩, .int .i64 0, .int .i64 2, .string (strOfNums (msgL 1 (openL 100 hd [0,0,0,IntKind.u8.wrap 1,0])++msgL 4 []))] 43 (0,0)):=Go.heap_alloc_new w5 _
 have hB6:Below w5.heap.size w5 (w5.alloc (.cells #[.int .i64 0, .int .i64 1, .string ⟨#[]⟩, .int .i64 0, .int .i64 2, .string (strOfNums (msgL 1 (openL 100 hd [0,0,0,IntKind.u8.wrap 1,0])++msgL 4 []))] 43)):=(Below.refl _ _).alloc (Nat.le_refl _) _
 generalize (w5.alloc (.cells #[.int .i64 0, .int .i64 1, .string ⟨#[]⟩, .int .i64 0, .int .i64 2, .string (strOfNums (msgL 1 (openL 100 hd [0,0,0,IntKind.u8.wrap 1,0])++msgL 4 []))] 43))=w6 at hI hB6 ⊢
 walk_nrm
 obtain ⟨i2,z2,hE,hZ⟩:=el43Q
 have hrun:=fun T:Tape=>run_append_nil (P:=Tryz.prog) (w:=again w6 T) 44 44 43 i2 z2 Tryz.underlying44 hE.info hE.zero ⟨w5.heap.size,0,none⟩ 2 2 (#[.int .i64 0, .int .i64 1, .string ⟨#[]⟩, .int .i64 0, .int .i64 2, .string (strOfNums (msgL 1 (openL 100 hd [0,0,0,IntKind.u8.wrap 1,0])++msgL 4 []))]).toList (by rw [hE.size];rfl) (fun j u hu=>by
  rw [show (⟨w5.heap.size,0,none⟩:Addr).add j=⟨w5.heap.size,j,none⟩ from by simp [Addr.add_lit]]
  exact (cell_blk (w:=again w6 T) hI j).trans (by simpa using hu)) (by decide) (by decide) (by rw [hE.bytes];decide)
 refine GX.append rfl rfl (by kernel_rfl) (.tmp 37) (.tmp 50) 44 rfl rfl rfl (fun T=>⟨_,_,hrun T,?_⟩)
 clear hrun
 have hJ:((again w6 T).drew.alloc (.cells ((#[.int .i64 0, .int .i64 1, .string ⟨#[]⟩, .int .i64 0, .int .i64 2, .string (strOfNums (msgL 1 (openL 100 hd [0,0,0,IntKind.u8.wrap 1,0])++msgL 4 []))]:Array Value).toList.toArray++Builtin.zeroCells z2.cells (grownCap (again w6 T) 2 0 43 - 2)) 43)).heap[w6.heap.size]? = some (.cells _ 43 (0,0)):=Go.heap_alloc_new (again w6 T).drew _
 have hB7:Old w6 ((again w6 T).drew.alloc (.cells ((#[.int .i64 0, .int .i64 1, .string ⟨#[]⟩, .int .i64 0, .int .i64 2, .string (strOfNums (msgL 1 (openL 100 hd [0,0,0,IntKind.u8.wrap 1,0])++msgL 4 []))]:Array Value).toList.toArray++Builtin.zeroCells z2.cells (grownCap (again w6 T) 2 0 43 - 2)) 43)):=⟨rfl,by rw [World.size_alloc];exact Nat.le_succ _,fun b hb=>Go.heap_alloc_old (again w6 T).drew _ hb⟩
 generalize ((again w6 T).drew.alloc (.cells ((#[.int .i64 0, .int .i64 1, .string ⟨#[]⟩, .int .i64 0, .int .i64 2, .string (strOfNums (msgL 1 (openL 100 hd [0,0,0,IntKind.u8.wrap 1,0])++msgL 4 []))]:Array Value).toList.toArray++Builtin.zeroCells z2.cells (grownCap (again w6 T) 2 0 43 - 2)) 43))=w7 at hJ hB7 ⊢
 rw [show (again w6 T).heap.size=w6.heap.size from rfl]
 generalize grownCap (again w6 T) 2 0 43=jc at hJ ⊢
 walk_nrm
 ((refine GX.v rfl rfl (by kernel_rfl) (fun T K hK=>?_));unfold execOp;go_simp;(refine hK _ _ ?_);clear hK K;(refine GX.like (v:=w7) ?_ rfl rfl);clear T;walk_nrm)
 refine GX.regionEnd ?_
 refine GX.inBlock ?_
 ((refine GX.region ?_);walk_nrm)
 iterate 3 ((refine GX.v rfl rfl (by kernel_rfl) (fun T K hK=>?_));unfold execOp;go_simp;(refine hK _ _ ?_);clear hK K;(refine GX.like (v:=w7) ?_ rfl rfl);clear T;walk_nrm)
 refine GX.regionEnd ?_
 refine GX.inLoop ?_
 refine GX.seq ?_
 refine GX.seq ?_
 ((refine GX.region ?_);walk_nrm)
 iterate 3 ((refine GX.v rfl rfl (by kernel_rfl) (fun T K hK=>?_));unfold execOp;go_simp;(refine hK _ _ ?_);clear hK K;(refine GX.like (v:=w7) ?_ rfl rfl);clear T;walk_nrm)
 refine GX.regionEnd ?_
 refine GX.cond (t:=false) (by kernel_rfl) rfl ?_
 simp only [Bool.false_eq_true,if_false]
 refine GX.exit rfl ?_
 have s1:w.heap.size≤w1.heap.size:=hB1.size
 have s2:w1.heap.size≤w2.heap.size:=hB2.size
 have s4:w3.heap.size≤w4.heap.size:=hB4.size
 have s5:w4.heap.size≤w5.heap.size:=hB5.size
 have s6:=hB6.size
 have s7:=hB7.size
 have c7:∀ b,b < w2.heap.size→w7.heap[b]? = w2.heap[b]?:=fun b hb=>(hB7.block b (by omega)).trans ((hB6.block b (by omega)).trans ((hB5.block b (by show b < w4.heap.size;omega)).trans ((hB4.block b (by show b < w3.heap.size;omega)).trans (hk3 b hb))))
 have l1:=(Array.getElem?_eq_some_iff.1 hsp).1
 have l2:=(Array.getElem?_eq_some_iff.1 hS.blk).1
 have lJ:=(Array.getElem?_eq_some_iff.1 hJ).1
 have cJ:∀ j,j < 6→w7.cell? ⟨w6.heap.size,j,none⟩=(#[.int .i64 0, .int .i64 1, .string ⟨#[]⟩, .int .i64 0, .int .i64 2, .string (strOfNums (msgL 1 (openL 100 hd [0,0,0,IntKind.u8.wrap 1,0])++msgL 4 []))]:Array Value)[j]?:=fun j hj=>(cell_blk hJ j).trans (Array.getElem?_append_left (by simpa using hj))
 have hfin:=HK.out
 unfold mtRest at hfin
 simp only [Tryz.f14] at hfin
 refine hfin _ _ sp xb xc Z p w6.heap.size jc rfl rfl rfl rfl rfl rfl ⟨(c7 sp l1).trans hsp,hS.keep fun b hb=>c7 b ?_,hne,hnm⟩ hpa hph lJ (by omega) ⟨cJ 0 (by decide),cJ 1 (by decide),cJ 2 (by decide)⟩ ⟨cJ 3 (by decide),cJ 4 (by decide),cJ 5 (by decide)⟩ (fun b hb=>(c7 b (by omega)).trans ((hB2.block b (by show b < w1.heap.size;omega)).trans (hB1.block b hb))) ⟨Nat.le_trans s1 hnew.1,Nat.le_trans s1 hnew.2.1,fun b hb=>Nat.le_trans s1 (hnew.2.2 b hb)⟩
 rcases hb with rfl | hb
 ·exact l2
 ·obtain ⟨cur,ty,fr,q,_⟩:=(hS.rows b hb).2
  exact (Array.getElem?_eq_some_iff.1 q).1
end Go.Proofs.YtjnkcibpkkjniaaGreat.Pool
namespace Go.Proofs.YtjnkcibpkkjniaaGreat.Pool
open Go Go.Conc Go.RowKit Go.Proofs.YtjnkcibpkkjniaaGreat.Sim
set_option maxRecDepth 20000
theorem GX.callTurn {cs:List Frame} {Q:Frame→List Frame→World→Prop} {b:Frame} {a:Act} {ops:Array Oper} {i:Nat} {l:List Nat} {k:List Item} {xs:List Frame} {w:World} {o:Oper} (ho:ops[i]? = some o) (hw:Region.wanted o (yielded ops a.tmps)=true) {x y z:Operand} {ats:Array TypeId}
  (hop:o.op=.call { callee:=.value (.func 17),args:=#[x,y,z],argTypes:=ats }) (hargs:(#[x,y,z]:Array Operand).all (@okOperand scopeM)=true) {v0 v1 v2:Value} (h0:a.eval x=v0) (h1:a.eval y=v1) (h2:a.eval z=v2)
  (h:GX cs Q ((base 17).at { tmps:=#[v0,v1,v2]++Array.replicate 19 undef,defers:=[] } [.code (Tryz.f17.body.getD .skip)]) (b.at a (.inRegion ops (i::l)::k)::xs) w) (m0:isMk v0=false:=by rfl) (m1:isMk v1=false:=by rfl) (m2:isMk v2=false:=by rfl):GX cs Q (b.at a (.inRegion ops (i::l)::k)) xs w:=by
 have hma:noMkL #[x,y,z] a.eval=true:=by simp [noMkL,h0,h1,h2,m0,m1,m2]
 refine GX.callX (hma:=hma) ho hw hop hargs Tryz.func17 rfl rfl ?_
 have e:(#[x,y,z]:Array Operand).map a.eval=#[v0,v1,v2]:=by simp [h0,h1,h2]
 rw [e]
 exact h
theorem fin_at {b:Frame} {a:Act} {ops:Array Oper} {i:Nat} {l:List Nat} {k:List Item} {o:Oper} (ho:ops[i]? = some o) (v:Value):(b.at a (.inRegion ops (i::l)::k)).finish v=b.at (a.put o.dst v) (.inRegion ops l::k):=by rw [Frame.finish_at,ho];rfl
theorem arr83 {C:Array Value} (h:C.size=83):∃ k0 k1 k2 k3 k4 k5 k6 k7 k8 k9 k10 k11 k12 k13 k14 k15 k16 k17 k18 k19 k20 k21 k22 k23 k24 k25 k26 k27 k28 k29 k30 k31 k32 k33 k34 k35 k36 k37 k38 k39 k40 k41 k42 k43 k44 k45 k46 k47 k48 k49 k50 k51 k52 k53 k54 k55 k56 k57 k58 k59 k60 k61 k62 k63 k64 k65 k66 k67 k68 k69 k70 k71 k72 k73 k74 k75 k76 k77 k78 k79 k80 k81 k82,C=#[k0,k1,k2,k3,k4,k5,k6,k7,k8,k9,k10,k11,k12,k13,k14,k15,k16,k17,k18,k19,k20,k21,k22,k23,k24,k25,k26,k27,k28,k29,k30,k31,k32,k33,k34,k35,k36,k37,k38,k39,k40,k41,k42,k43,k44,k45,k46,k47,k48,k49,k50,k51,k52,k53,k54,k55,k56,k57,k58,k59,k60,k61,k62,k63,k64,k65,k66,k67,k68,k69,k70,k71,k72,k73,k74,k75,k76,k77,k78,k79,k80,k81,k82]:=by
 obtain ⟨l⟩:=C
 match l,h with
 | k0::k1::k2::k3::k4::k5::k6::k7::k8::k9::k10::k11::k12::k13::k14::k15::k16::k17::k18::k19::k20::k21::k22::k23::k24::k25::k26::k27::k28::k29::k30::k31::k32::k33::k34::k35::k36::k37::k38::k39::k40::k41::k42::k43::k44::k45::k46::k47::k48::k49::k50::k51::k52::k53::k54::k55::k56::k57::k58::k59::k60::k61::k62::k63::k64::k65::k66::k67::k68::k69::k70::k71::k72::k73::k74::k75::k76::k77::k78::k79::k80::k81::k82::[],_=>exact ⟨_,_,_,_,_,_,_,_,_,_,_,_,_,_,_,_,_,_,_,_,_,_,_,_,_,_,_,_,_,_,_,_,_,_,_,_,_,_,_,_,_,_,_,_,_,_,_,_,_,_,_,_,_,_,_,_,_,_,_,_,_,_,_,_,_,_,_,_,_,_,_,_,_,_,_,_,_,_,_,_,_,_,_,rfl⟩
end Go.Proofs.YtjnkcibpkkjniaaGreat.Pool
