import Derived.Test.YtjnkcibpkkjniaaGreatA21
import Derived.Test.YtjnkcibpkkjniaaGreatA10
import Derived.BigRegion
import Derived.Test.YtjnkcibpkkjniaaGreatA15
set_option linter.unusedVariables false
set_option linter.unusedSimpArgs false
set_option linter.unusedSectionVars false
namespace Go.Proofs.YtjnkcibpkkjniaaGreat
open Go Go.RowKit
open Go.Proofs.YtjnkcibpkkjniaaGreat.Pool (TabP okOps wp_region_lin getD_set)
set_option maxHeartbeats 4000000
set_option maxRecDepth 20000
theorem connect_any {w:World} {base tb sb:Nat} {now:Int} {sv:Value} {sent:List Int} {cl ov:Bool} {au id:Int} {p:Pz} {hold heard spoke:Int} {pa:Option Addr} {pl pc:Nat} (h:TS w base tb sb now sv sent cl ov (sessA au id p 0 hold heard spoke (.slice pa pl pc))) (hl:sent.length≤50000) (hid:0≤id) :
  Calls Tryz.prog 147 #[.pointer (some ⟨tb,0,none⟩)] w fun e w'=>(∃ v,e=.returned v)∧∃ sv',TS w' base tb sb now sv' (sent++msgL 1 (4::(twoL au++(twoL p.hold++(fourL id++[0]))))) cl ov (sessA au id p 1 p.hold now now (.slice pa pl pc))∧Rest base tb sb w w':=by
 obtain ⟨⟨c0,c1,c2,c3,c4⟩,z2,z3,z4⟩:=h.facts
 obtain ⟨qa,qh,ql,qp,qw,ia,il,ic,ea,el,ec⟩:=p
 simp only [sessA] at h ⊢
 obtain ⟨e0,e1,e2,e3,e4,e5,e6,e7,e8,e9,e10,e11,e12,e13,y0,y1,y2,y3,y4,y5,y6,y7,y8,y9,y10,y11,y12,y13⟩:=cells14 h.s
 have H0:Hid (TS w base tb sb now sv sent cl ov _):=h
 have hne:=h.ne
 clear h
 go_enter Tryz.func147,Tryz.ntmps147
 go_wp2_with fail
 go_region
 have k1:=H0.out.setS 9 (.int .i64 1)
 have k2:=k1.1.setS 10 (.int .i64 qh)
 have k3:=k2.1.setS 11 (.int .i64 now)
 have hT:=k3.1.drew
 have hR:=(k1.2.trans (k2.2.trans k3.2)).drew
 simp only [List.setIfInBounds_toArray,List.set_cons_succ,List.set_cons_zero] at hT
 generalize ((((w.setCell ⟨sb,9,none⟩ (.int .i64 1)).setCell ⟨sb,10,none⟩ (.int .i64 qh)).setCell ⟨sb,11,none⟩ (.int .i64 now)).drew)=w1 at hT hR ⊢
 go_wp2_with fail
 refine wp_region_lin (ops:=cnOps) (val:=fun i v _=>cnV tb sb au qh id i v) (fix:=[(0, .pointer (some ⟨tb,0,none⟩))]) (T:=66)
  (Sok:=CnS w base tb sb now sv sent cl ov #[.int .i64 au, .int .u32 id, .int .i64 qa, .int .i64 qh, .int .i64 ql, .int .i64 qp, .int .i64 qw, .slice ia il ic, .slice ea el ec, .int .i64 1, .int .i64 qh, .int .i64 now, .int .i64 spoke, .slice pa pl pc] (msgL 1 (4::(twoL au++(twoL qh++(fourL id++[0]))))))
  (by kernel_rfl) cn_ok (fun i o listed a w2 ho hr ht hs K hK=>cn_hop rfl rfl rfl rfl rfl (by omega) i o listed a w2 ho hr ht hs K fun v w' hv hS=>hK v w' hv (fun _ _ _ h=>h) hS) (fun listed a w2 ht hall hs=>?_) ?_ ?_ ?_ ?_
 ·have hl25:=hall 25 (by rw [cn_size];decide)
  unfold CnS at hs
  rw [if_pos hl25] at hs
  obtain ⟨sv',hT2,hR2⟩:=hs
  simp only [List.setIfInBounds_toArray,List.set_cons_succ,List.set_cons_zero] at hT2
  obtain ⟨tm,df⟩:=a
  have hdf:=ht.defers
  simp only at hdf
  subst hdf
  go_wp2_with fail
  exact bodyPost_end (v:=.tuple #[]) (by simp [results,Tryz.results147,go_sem]) rfl ⟨⟨_,rfl⟩,_,hT2,hR2⟩
 ·rfl
 ·rfl
 ·intro x hx
  simp at hx
  subst hx
  rfl
 ·unfold CnS
  rw [if_neg (by simp [Array.getD_eq_getD_getElem?,Array.getElem?_replicate,cn_size])]
  exact ⟨⟨hT.t,hT.s,hT.own,hT.lt,hT.ne⟩,⟨hR.os,hR.size,hR.heap⟩⟩
end Go.Proofs.YtjnkcibpkkjniaaGreat
namespace Go.Proofs.YtjnkcibpkkjniaaGreat
open Go Go.RowKit
set_option maxHeartbeats 2000000
set_option maxRecDepth 20000
theorem take_connect {w:World} {base tb sb:Nat} {now:Int} {sv:Value} {sent:List Int} {cl ov:Bool} {au id:Int} {p:Pz} {hold heard spoke:Int} (h:TS w base tb sb now sv sent cl ov (sessA au id p 0 hold heard spoke (.slice none 0 0))) (hl:sent.length≤50000) (hid:0≤id) (pe:Int) (s:ByteArray) :
  Calls Tryz.prog 119 #[.pointer (some ⟨tb,0,none⟩), .agg #[.int .i64 pe, .int .i64 1, .string s]] w fun e w'=>(∃ v,e=.returned v)∧∃ sv',TP w' base tb sb now sv' (sent++msgL 1 (4::(twoL au++(twoL p.hold++(fourL id++[0]))))) cl ov (sessA au id p 1 p.hold now now (.slice none 0 0)) (.slice none 0 0) []∧Rest base tb sb w w':=by
 have H0:Hid (TS w base tb sb now sv sent cl ov (sessA au id p 0 hold heard spoke (.slice none 0 0))):=h
 have Hl:Hid (sent.length≤50000):=hl
 have Hi:Hid (0≤id):=hid
 clear h hl hid
 go_enter Tryz.func119,Tryz.ntmps119
 go_wp2_with (go_at_call 147;go_loud (refine Calls.mono (connect_any (TS.below H0.out (by (repeat (first | exact Below.refl _ _ | refine Below.drew ?_ | refine Below.alloc ?_ (by first | omega | (simp only [World.size_alloc,World.size_setCell,World.size_drew];omega) | simp) _ | refine Below.setCell ?_ (by first | omega | simp) _ | assumption)))) Hl.out Hi.out) ?_);go_loud (rintro e w1 ⟨⟨v,rfl⟩,sv1,hT1,hR1⟩))
 exact bodyPost_end (v:=.tuple #[]) (by simp [results,Tryz.results119,go_sem]) rfl ⟨⟨_,rfl⟩,sv1,⟨hT1,rfl,World.ownsRow_nil _ _ _ _,(fun k hk=>by cases hk),AllQ.nil _ _⟩,(Rest.below (by (repeat (first | exact Below.refl _ _ | refine Below.drew ?_ | refine Below.alloc ?_ (by first | omega | (simp only [World.size_alloc,World.size_setCell,World.size_drew];omega) | simp) _ | refine Below.setCell ?_ (by first | omega | simp) _ | assumption))) H0.out.lt.2.2).trans hR1⟩
theorem take_both {w:World} {base tb sb:Nat} {now:Int} {sv:Value} {sent:List Int} {cl:Bool} {au id:Int} {p:Pz} {hold heard spoke:Int} {pv:Value} (h:TP w base tb sb now sv sent cl false (sessA au id p 1 hold heard spoke pv) pv []) (hl:sent.length≤50000) {d d1 d2 b:List Int} {n2 n3:Int} (hd:Bytes d) (hlen:d.length=48)
  (e1:d.drop 19=d1) (e2:d1.drop 10=d2) (e3:d2.drop 19=[]) (eb:d1.take 10=b) (h1:HdOk (d.take 19) 29 1) (h3:HdOk (d2.take 19) 19 4)
  (HRO:Hid (∀ w,Calls Tryz.prog 173 #[.string (strOfNums b), .int .i64 p.au] w fun e w'=>e=.returned (.agg #[.int .i64 p.au, .int .i64 n2, .int .u32 n3])∧Below w.heap.size w w')) (pe:Int) :
  Calls Tryz.prog 119 #[.pointer (some ⟨tb,0,none⟩), .agg #[.int .i64 pe, .int .i64 2, .string (strOfNums d)]] w fun e w'=>(∃ v,e=.returned v)∧∃ sv' g c,TP w' base tb sb now sv' (sent++msgL 4 []) cl false (sessA au id p 3 (minI p.hold n2) now now (.slice (some ⟨g,0,none⟩) 0 c)) (.slice (some ⟨g,0,none⟩) 0 c) []∧Rest base tb sb w w':=by
 have H0:Hid (TP w base tb sb now sv sent cl false (sessA au id p 1 hold heard spoke pv) pv []):=h
 have HH:Hid (∀ w',TP w' base tb sb now sv sent cl false (sessA au id p 1 hold heard spoke pv) pv []→Calls Tryz.prog 148 #[.pointer (some ⟨tb,0,none⟩), .string (strOfNums d)] w' fun e w''=>(∃ v,e=.returned v)∧∃ sv' g c,TP w'' base tb sb now sv' (sent++msgL 4 []) cl false (sessA au id p 3 (minI p.hold n2) now now (.slice (some ⟨g,0,none⟩) 0 c)) (.slice (some ⟨g,0,none⟩) 0 c) []∧Rest base tb sb w' w''):=fun w' hw=>hear_both hw hl hd hlen e1 e2 e3 eb h1 h3 HRO
 clear h hl hd hlen e1 e2 e3 eb h1 h3 HRO
 go_enter Tryz.func119,Tryz.ntmps119
 go_wp2_with (go_at_call 148;go_loud (refine Calls.mono (HH.out _ (TP.below H0.out (by (repeat (first | exact Below.refl _ _ | refine Below.drew ?_ | refine Below.alloc ?_ (by first | omega | (simp only [World.size_alloc,World.size_setCell,World.size_drew];omega) | simp) _ | refine Below.setCell ?_ (by first | omega | simp) _ | assumption))))) ?_);go_loud (rintro e w1 ⟨⟨v,rfl⟩,sv1,g,c,hT1,hR1⟩))
 exact bodyPost_end (v:=.tuple #[]) (by simp [results,Tryz.results119,go_sem]) rfl ⟨⟨_,rfl⟩,sv1,g,c,hT1,(Rest.below (by (repeat (first | exact Below.refl _ _ | refine Below.drew ?_ | refine Below.alloc ?_ (by first | omega | (simp only [World.size_alloc,World.size_setCell,World.size_drew];omega) | simp) _ | refine Below.setCell ?_ (by first | omega | simp) _ | assumption))) H0.out.ts.lt.2.2).trans hR1⟩
theorem take_idle {w:World} {base tb sb:Nat} {now:Int} {sv:Value} {sent:List Int} {cl ov:Bool} {au id:Int} {p:Pz} {hold heard spoke:Int} {pv:Value} (h:TS w base tb sb now sv sent cl ov (sessA au id p 0 hold heard spoke pv)) (pe:Int) (s:ByteArray) :
  Calls Tryz.prog 119 #[.pointer (some ⟨tb,0,none⟩), .agg #[.int .i64 pe, .int .i64 2, .string s]] w fun e w'=>(∃ v,e=.returned v)∧Below w.heap.size w w':=by
 have H0:Hid (TS w base tb sb now sv sent cl ov (sessA au id p 0 hold heard spoke pv)):=h
 clear h
 go_enter Tryz.func119,Tryz.ntmps119
 go_wp2_with (go_at_call 148;go_loud (refine Calls.mono (hear_idle (TS.below H0.out (by (repeat (first | exact Below.refl _ _ | refine Below.drew ?_ | refine Below.alloc ?_ (by first | omega | (simp only [World.size_alloc,World.size_setCell,World.size_drew];omega) | simp) _ | refine Below.setCell ?_ (by first | omega | simp) _ | assumption)))) _) ?_);go_loud (rintro e w1 ⟨⟨v,rfl⟩,rfl⟩))
 exact bodyPost_end (v:=.tuple #[]) (by simp [results,Tryz.results119,go_sem]) rfl ⟨⟨_,rfl⟩,by (repeat (first | exact Below.refl _ _ | refine Below.drew ?_ | refine Below.alloc ?_ (by first | omega | (simp only [World.size_alloc,World.size_setCell,World.size_drew];omega) | simp) _ | refine Below.setCell ?_ (by first | omega | simp) _ | assumption))⟩
end Go.Proofs.YtjnkcibpkkjniaaGreat
namespace Go.Proofs.YtjnkcibpkkjniaaGreat
open Go Go.RowKit
open Go.Proofs.YtjnkcibpkkjniaaGreat.Pool (okOps topB wp_region_lb)
set_option maxHeartbeats 2000000
set_option maxRecDepth 20000
theorem TS.rebase {w:World} {base base' tb sb:Nat} {now:Int} {sent:List Int} {cl ov:Bool} {S:Array Value} (h:TS w base tb sb now (.slice none 0 0) [] cl ov S) (hb:base≤base') (hs:base'≤w.heap.size):TS w base' tb sb now (.slice none 0 0) [] cl ov S :=
 ⟨h.t,h.s,World.ownsRow_nil _ _ _ _,⟨by have:=h.lt;omega,by have:=h.lt;omega,hs⟩,h.ne⟩
theorem TS.lower {w:World} {base base' tb sb:Nat} {now:Int} {sv:Value} {sent:List Int} {cl ov:Bool} {S:Array Value} (h:TS w base' tb sb now sv sent cl ov S) (hb:base≤base') (ht:tb < base) (hs:sb < base):TS w base tb sb now sv sent cl ov S :=
 ⟨h.t,h.s,own_mono h.own hb,⟨ht,hs,by have:=h.lt;omega⟩,h.ne⟩
theorem Rest.lower {base base' tb sb:Nat} {w w':World} (h:Rest base' tb sb w w') (hb:base≤base'):Rest base tb sb w w':=⟨h.os,h.size,fun b h1 h2 h3=>h.heap b (by omega) h2 h3⟩
theorem arr27 {C:Array Value} (h:C.size=27):∃ c0 c1 c2 c3 c4 c5 c6 c7 c8 c9 c10 c11 c12 c13 c14 c15 c16 c17 c18 c19 c20 c21 c22 c23 c24 c25 c26,C=#[c0,c1,c2,c3,c4,c5,c6,c7,c8,c9,c10,c11,c12,c13,c14,c15,c16,c17,c18,c19,c20,c21,c22,c23,c24,c25,c26]:=by
 obtain ⟨l⟩:=C
 match l,h with
 | c0::c1::c2::c3::c4::c5::c6::c7::c8::c9::c10::c11::c12::c13::c14::c15::c16::c17::c18::c19::c20::c21::c22::c23::c24::c25::c26::[],_=>exact ⟨_,_,_,_,_,_,_,_,_,_,_,_,_,_,_,_,_,_,_,_,_,_,_,_,_,_,_,rfl⟩
theorem work_both {w:World} {base tb sb:Nat} {now:Int} {au id:Int} {p:Pz} (h:TS w base tb sb now (.slice none 0 0) [] false false (sessA au id p 0 0 0 0 (.slice none 0 0))) (hn:Sane now) (hid:0≤id) {d d1 d2 b:List Int} {n2 n3:Int} (hd:Bytes d) (hlen:d.length=48)
  (e1:d.drop 19=d1) (e2:d1.drop 10=d2) (e3:d2.drop 19=[]) (eb:d1.take 10=b) (h1:HdOk (d.take 19) 29 1) (h3:HdOk (d2.take 19) 19 4)
  (HRO:Hid (∀ w,Calls Tryz.prog 173 #[.string (strOfNums b), .int .i64 p.au] w fun e w'=>e=.returned (.agg #[.int .i64 p.au, .int .i64 n2, .int .u32 n3])∧Below w.heap.size w w')) {ib io cp:Nat} {p0 p1:Int} {s0:List Int} (hib:ib < base∧ib≠tb∧ib≠sb) (i0:InAt w ib io p0 1 s0) (i1:InAt w ib (io+3) p1 2 d) :
  Calls Tryz.prog 79 #[.pointer (some ⟨tb,0,none⟩), .slice (some ⟨ib,io,none⟩) 2 cp] w fun e w'=>(∃ v,e=.returned v)∧∃ sv' g c,TS w' base tb sb now sv' (msgL 1 (4::(twoL au++(twoL p.hold++(fourL id++[0]))))++msgL 4 []) false false (sessA au id p 3 (minI p.hold n2) now now (.slice (some ⟨g,0,none⟩) 0 c))∧Rest base tb sb w w'∧(base≤g∧∃ cur,w'.heap[g]? = some (.cells cur 5 (0,0))∧∀ u∈cur.toList,Pl u):=by
 have hmf:∀ (fn:Fn) (first cap:Array Value) (w:World),(Instr.makeFunc fn first cap).run Tryz.prog w=.ok (.func fn first cap) w:=fun _ _ _ _=>rfl
 have hlt:=h.lt
 have HB:Below w.heap.size w (w.alloc (.cells #[.pointer (some ⟨tb,0,none⟩)] 169)):=(Below.refl _ _).alloc (Nat.le_refl _) _
 have H0:Hid (TS (w.alloc (.cells #[.pointer (some ⟨tb,0,none⟩)] 169)) (w.heap.size+1) tb sb now (.slice none 0 0) [] false false (sessA au id p 0 0 0 0 (.slice none 0 0))):=(h.below HB).rebase (sent:=[]) (by omega) (by simp)
 have HW:Hid (Calls Tryz.prog 118 #[.pointer (some ⟨tb,0,none⟩)] (w.alloc (.cells #[.pointer (some ⟨tb,0,none⟩)] 169)) fun e w'=>(∃ v,e=.returned v)∧TS w' (w.heap.size+1) tb sb now (.slice none 0 0) [] false false (sessA au id p 0 0 0 0 (.slice none 0 0))∧Rest (w.heap.size+1) tb sb (w.alloc (.cells #[.pointer (some ⟨tb,0,none⟩)] 169)) w') :=
  watch_none H0.out hn (by unfold Sane;omega) (by unfold Sane;omega) (by omega) (by simp [silentB]) (by simp [owesB])
 have hbx:(w.alloc (.cells #[.pointer (some ⟨tb,0,none⟩)] 169)).heap[w.heap.size]? = some (.cells #[.pointer (some ⟨tb,0,none⟩)] 169 (0,0)):=Go.heap_alloc_new w _
 have hib2:(w.alloc (.cells #[.pointer (some ⟨tb,0,none⟩)] 169)).heap[ib]? = w.heap[ib]?:=HB.block ib (by omega)
 have R0:Hid (Rest base tb sb w (w.alloc (.cells #[.pointer (some ⟨tb,0,none⟩)] 169))):=Rest.below HB hlt.2.2
 have HT1:Hid (∀ w',TS w' (w.heap.size+1) tb sb now (.slice none 0 0) [] false false (sessA au id p 0 0 0 0 (.slice none 0 0))→Calls Tryz.prog 119 #[.pointer (some ⟨tb,0,none⟩), .agg #[.int .i64 p0, .int .i64 1, .string (strOfNums s0)]] w' fun e w''=>(∃ v,e=.returned v)∧∃ sv',TP w'' (w.heap.size+1) tb sb now sv' (msgL 1 (4::(twoL au++(twoL p.hold++(fourL id++[0]))))) false false (sessA au id p 1 p.hold now now (.slice none 0 0)) (.slice none 0 0) []∧Rest (w.heap.size+1) tb sb w' w'') :=
  fun w' hw=>take_connect hw (by simp) hid p0 _
 have HT2:Hid (∀ w' sv',TP w' (w.heap.size+1) tb sb now sv' (msgL 1 (4::(twoL au++(twoL p.hold++(fourL id++[0]))))) false false (sessA au id p 1 p.hold now now (.slice none 0 0)) (.slice none 0 0) []→Calls Tryz.prog 119 #[.pointer (some ⟨tb,0,none⟩), .agg #[.int .i64 p1, .int .i64 2, .string (strOfNums d)]] w' fun e w''=>(∃ v,e=.returned v)∧∃ sv' g c,TP w'' (w.heap.size+1) tb sb now sv' (msgL 1 (4::(twoL au++(twoL p.hold++(fourL id++[0]))))++msgL 4 []) false false (sessA au id p 3 (minI p.hold n2) now now (.slice (some ⟨g,0,none⟩) 0 c)) (.slice (some ⟨g,0,none⟩) 0 c) []∧Rest (w.heap.size+1) tb sb w' w'') :=
  fun w' sv' hw=>take_both hw (by rw [msgL_len];simp [k_2,k_4]) hd hlen e1 e2 e3 eb h1 h3 HRO p1
 have HI0:Hid (InAt w ib io p0 1 s0):=i0
 have HI1:Hid (InAt w ib (io+3) p1 2 d):=i1
 clear h hn hid hd hlen e1 e2 e3 eb h1 h3 HRO i0 i1 HB
 go_enter_defers Tryz.func79,Tryz.ntmps79
 go_wp2_with (go_at_call 118;go_loud (refine HW.out.mono ?_);go_loud (rintro e w1 ⟨⟨v1,rfl⟩,hT1,hR1⟩))
 have g1:=(hR1.heap w.heap.size (by omega) (by omega) (by omega)).trans hbx
 have g2:=(hR1.heap ib (by omega) hib.2.1 hib.2.2).trans hib2
 have x0:=cell_blk g1 0
 simp at x0
 obtain ⟨a0,a1,a2⟩:=HI0.out.keep g2
 obtain ⟨a3,a4,a5⟩:=HI1.out.keep g2
 obtain ⟨⟨c0,c1,c2,c3,c4⟩,z2,z3,z4⟩:=hT1.facts
 have H1:Hid (TS w1 _ tb sb now _ _ _ _ _):=hT1
 have R1:Hid (Rest base tb sb w w1):=R0.out.trans (hR1.lower (by omega))
 clear hT1 hR1 HW R0 H0 hbx hib2
 refine wp_loop_rounds 3 ?_
 rw [rounds_succ]
 go_wp2_with fail
 have hI0:InAt w1 ib (io+3 * 0) p0 1 s0:=HI0.out.keep g2
 have hbl0:w.heap.size < w1.heap.size:=(Array.getElem?_eq_some_iff.1 g1).1
 have hil0:ib < w1.heap.size:=by have:=H1.out.lt.2.2;omega
 have HG0:Hid (∀ wx,Below w1.heap.size w1 wx→Calls Tryz.prog 119 #[.pointer (some ⟨tb,0,none⟩), .agg #[.int .i64 p0, .int .i64 1, .string (strOfNums s0)]] wx fun e w'=>(∃ v,e=.returned v)∧∃ sv',TP w' (w.heap.size+1) tb sb now sv' (msgL 1 (4::(twoL au++(twoL p.hold++(fourL id++[0]))))) false false (sessA au id p 1 p.hold now now (.slice none 0 0)) (.slice none 0 0) []∧Rest (w.heap.size+1) tb sb w1 w'):=fun wx hB=>by
  refine (HT1.out wx (H1.out.below hB)).mono ?_
  rintro e w' ⟨hv,sv',k1,k2⟩
  exact ⟨hv,sv',k1,(Rest.below hB H1.out.lt.2.2).trans k2⟩
 refine wp_region_lb (D:=_) (ops:=wkOps) (val:=wkV tb ib io 2 cp p0 1 s0 0) (fix:=[(1, .slice (some ⟨ib,io,none⟩) 2 cp),(2, .pointer (some ⟨w.heap.size,0,none⟩)),(4, .int .i64 0)]) (T:=27) (w0:=w1) (Post:=fun _ w'=>∃ sv',TP w' (w.heap.size+1) tb sb now sv' (msgL 1 (4::(twoL au++(twoL p.hold++(fourL id++[0]))))) false false (sessA au id p 1 p.hold now now (.slice none 0 0)) (.slice none 0 0) []∧Rest (w.heap.size+1) tb sb w1 w') (n:=5) (by kernel_rfl) wk_ok wk_top wk_size wkV_mono
  (fun i o a wx hi ho hfx hdep hs K hK=>wk_hop0 (by decide) hbl0 hil0 x0 hI0 i o a wx hi ho (hfx (1, .slice (some ⟨ib,io,none⟩) 2 cp) (by simp)) (hfx (2, .pointer (some ⟨w.heap.size,0,none⟩)) (by simp)) (hfx (4, .int .i64 0) (by simp)) hdep hs K hK)
  (fun o a wx ho hfx hdep hs K hK=>wk_last (P0:=fun w'=>∃ sv',TP w' (w.heap.size+1) tb sb now sv' (msgL 1 (4::(twoL au++(twoL p.hold++(fourL id++[0]))))) false false (sessA au id p 1 p.hold now now (.slice none 0 0)) (.slice none 0 0) []∧Rest (w.heap.size+1) tb sb w1 w') HG0 o a wx ho hdep hs K hK) (fun a wx hdf hsz hfx hP=>?_) rfl rfl ?_ ?_
 rotate_left
 ·intro x hx
  simp at hx
  rcases hx with rfl | rfl | rfl <;> rfl
 ·exact ⟨rfl,rfl,rfl,Nat.le_refl _,fun _ _=>rfl⟩
 obtain ⟨sv2,hT2,hR2⟩:=hP
 have f1:a.tmps[1]? = some (.slice (some ⟨ib,io,none⟩) 2 cp):=hfx (1, .slice (some ⟨ib,io,none⟩) 2 cp) (by simp)
 have f2:a.tmps[2]? = some (.pointer (some ⟨w.heap.size,0,none⟩)):=hfx (2, .pointer (some ⟨w.heap.size,0,none⟩)) (by simp)
 have f4:a.tmps[4]? = some (.int .i64 0):=hfx (4, .int .i64 0) (by simp)
 clear HG0 hI0 x0 a0 a1 a2 a3 a4 a5 c0 c1 c2 c3 c4 z2 z3 z4 hfx
 obtain ⟨tm,df⟩:=a
 simp only at hdf hsz f1 f2 f4
 subst hdf
 obtain ⟨k0,k1,k2,k3,k4,k5,k6,k7,k8,k9,k10,k11,k12,k13,k14,k15,k16,k17,k18,k19,k20,k21,k22,k23,k24,k25,k26,rfl⟩:=arr27 hsz
 simp only [List.getElem?_toArray,List.getElem?_cons_succ,List.getElem?_cons_zero,Option.some.injEq] at f1 f2 f4
 subst f1 f2 f4
 have hib3:ib < w.heap.size+1:=by omega
 have g3:=(hR2.heap w.heap.size (by omega) (by omega) (by omega)).trans g1
 have g4:=(hR2.heap ib hib3 hib.2.1 hib.2.2).trans g2
 have x0:=cell_blk g3 0
 simp at x0
 obtain ⟨⟨c0,c1,c2,c3,c4⟩,z2,z3,z4⟩:=hT2.ts.facts
 have H2:Hid (TP wx (w.heap.size+1) tb sb now sv2 _ false false _ _ []):=hT2
 have R2:Hid (Rest base tb sb w wx):=R1.out.trans (hR2.lower (by omega))
 have hI1:InAt wx ib (io+3 * 1) p1 2 d:=HI1.out.keep g4
 have hbl1:w.heap.size < wx.heap.size:=(Array.getElem?_eq_some_iff.1 g3).1
 have hil1:ib < wx.heap.size:=by omega
 clear hT2 hR2 g1 g2 H1 R1 hbl0 hil0
 go_wp2_with fail
 rw [rounds_succ]
 go_wp2_with fail
 have HG1:Hid (∀ wy,Below wx.heap.size wx wy→Calls Tryz.prog 119 #[.pointer (some ⟨tb,0,none⟩), .agg #[.int .i64 p1, .int .i64 2, .string (strOfNums d)]] wy fun e w'=>(∃ v,e=.returned v)∧∃ sv' g c,TP w' (w.heap.size+1) tb sb now sv' (msgL 1 (4::(twoL au++(twoL p.hold++(fourL id++[0]))))++msgL 4 []) false false (sessA au id p 3 (minI p.hold n2) now now (.slice (some ⟨g,0,none⟩) 0 c)) (.slice (some ⟨g,0,none⟩) 0 c) []∧Rest (w.heap.size+1) tb sb wx w'):=fun wy hB=>by
  refine (HT2.out wy sv2 (H2.out.below hB)).mono ?_
  rintro e w' ⟨hv,sv',g,c,k1,k2⟩
  exact ⟨hv,sv',g,c,k1,(Rest.below hB H2.out.ts.lt.2.2).trans k2⟩
 refine wp_region_lb (D:=_) (ops:=wkOps) (val:=wkV tb ib io 2 cp p1 2 d 1) (fix:=[(1, .slice (some ⟨ib,io,none⟩) 2 cp),(2, .pointer (some ⟨w.heap.size,0,none⟩)),(4, .int .i64 1)]) (T:=27) (w0:=wx) (Post:=fun _ w'=>∃ sv' g c,TP w' (w.heap.size+1) tb sb now sv' (msgL 1 (4::(twoL au++(twoL p.hold++(fourL id++[0]))))++msgL 4 []) false false (sessA au id p 3 (minI p.hold n2) now now (.slice (some ⟨g,0,none⟩) 0 c)) (.slice (some ⟨g,0,none⟩) 0 c) []∧Rest (w.heap.size+1) tb sb wx w') (n:=5) (by kernel_rfl) wk_ok wk_top wk_size wkV_mono
  (fun i o a wy hi ho hfx hdep hs K hK=>wk_hop1 (by decide) hbl1 hil1 x0 hI1 i o a wy hi ho (hfx (1, .slice (some ⟨ib,io,none⟩) 2 cp) (by simp)) (hfx (2, .pointer (some ⟨w.heap.size,0,none⟩)) (by simp)) (hfx (4, .int .i64 1) (by simp)) hdep hs K hK)
  (fun o a wy ho hfx hdep hs K hK=>wk_last (P0:=fun w'=>∃ sv' g c,TP w' (w.heap.size+1) tb sb now sv' (msgL 1 (4::(twoL au++(twoL p.hold++(fourL id++[0]))))++msgL 4 []) false false (sessA au id p 3 (minI p.hold n2) now now (.slice (some ⟨g,0,none⟩) 0 c)) (.slice (some ⟨g,0,none⟩) 0 c) []∧Rest (w.heap.size+1) tb sb wx w') HG1 o a wy ho hdep hs K hK) (fun a wy hdf hsz hfx hP=>?_) rfl rfl ?_ ?_
 rotate_left
 ·intro x hx
  simp at hx
  rcases hx with rfl | rfl | rfl <;> rfl
 ·exact ⟨rfl,rfl,rfl,Nat.le_refl _,fun _ _=>rfl⟩
 obtain ⟨sv3,g,c,hT3,hR3⟩:=hP
 have f1:a.tmps[1]? = some (.slice (some ⟨ib,io,none⟩) 2 cp):=hfx (1, .slice (some ⟨ib,io,none⟩) 2 cp) (by simp)
 have f2:a.tmps[2]? = some (.pointer (some ⟨w.heap.size,0,none⟩)):=hfx (2, .pointer (some ⟨w.heap.size,0,none⟩)) (by simp)
 have f4:a.tmps[4]? = some (.int .i64 1):=hfx (4, .int .i64 1) (by simp)
 clear HG1 hI1 x0 c0 c1 c2 c3 c4 z2 z3 z4 hfx
 obtain ⟨tm,df⟩:=a
 simp only at hdf hsz f1 f2 f4
 subst hdf
 obtain ⟨m0,m1,m2,m3,m4,m5,m6,m7,m8,m9,m10,m11,m12,m13,m14,m15,m16,m17,m18,m19,m20,m21,m22,m23,m24,m25,m26,rfl⟩:=arr27 hsz
 simp only [List.getElem?_toArray,List.getElem?_cons_succ,List.getElem?_cons_zero,Option.some.injEq] at f1 f2 f4
 subst f1 f2 f4
 have hT4:TS wy base tb sb now sv3 (msgL 1 (4::(twoL au++(twoL p.hold++(fourL id++[0]))))++msgL 4 []) false false (sessA au id p 3 (minI p.hold n2) now now (.slice (some ⟨g,0,none⟩) 0 c)):=hT3.ts.lower (by omega) hlt.1 hlt.2.1
 have R3:Rest base tb sb w wy:=R2.out.trans (hR3.lower (by omega))
 have hPl:base≤g∧∃ cur,wy.heap[g]? = some (.cells cur 5 (0,0))∧∀ u∈cur.toList,Pl u:=by
  rcases hT3.own.2 with ⟨e,_⟩ | ⟨g',c',cur,e,h2,h3,_⟩
  ·cases e
  ·cases e
   exact ⟨by omega,cur,h3,hT3.pl g cur _ _ rfl h3⟩
 clear hT3 hR3 H2 R2 g3 g4
 go_wp2_with fail
 rw [rounds_succ]
 go_wp2_with fail
 refine leaves_cons (f:=116) (args:=#[.pointer (some ⟨w.heap.size,0,none⟩)]) (by simp) (by simp [go_sem]) ?_
 refine (catch_idle ⟨w.heap.size,0,none⟩ _).mono ?_
 rintro e u' w'' ⟨rfl,rfl,rfl⟩
 simp only [Leaves,settle,results,Tryz.results79,go_sem]
 exact ⟨.tuple #[],by simp [go_sem],⟨_,rfl⟩,sv3,g,c,hT4,R3,hPl⟩
end Go.Proofs.YtjnkcibpkkjniaaGreat
namespace Go.Proofs.YtjnkcibpkkjniaaGreat
open Go Go.RowKit
open Go.Proofs.YtjnkcibpkkjniaaGreat.Pool (okOps topB wp_region_lb)
set_option maxHeartbeats 2000000
set_option maxRecDepth 20000
theorem turn_of {w:World} {sb:Nat} {now:Int} {S0:Array Value} {sent:List Int} {cl ov:Bool} {vin:Value} {PS:Array Value→World→Prop} (hPS:∀ S w1 w2,(∀ b,w.heap.size+2≤b→w2.heap[b]? = w1.heap[b]?)→PS S w1→PS S w2) (hs:w.heap[sb]? = some (.cells S0 100 (0,0)))
  (HW:∀ w1 base tb,w.heap.size+2≤base→TS w1 base tb sb now (.slice none 0 0) [] false false S0→tb≠sb→(∀ b,b < w.heap.size→b < base∧b≠tb∧w1.heap[b]? = w.heap[b]?)→Calls Tryz.prog 79 #[.pointer (some ⟨tb,0,none⟩),vin] w1 fun e w'=>(∃ v,e=.returned v)∧∃ sv' S1,PS S1 w'∧TS w' base tb sb now sv' sent cl ov S1∧Rest base tb sb w1 w') :
  Calls Tryz.prog 60 #[.pointer (some ⟨sb,0,none⟩), .int .i64 now,vin] w fun e w'=>∃ v S1,e=.returned v∧PS S1 w'∧Turned w w' sb S1 sent cl v:=by
 have hlt:sb < w.heap.size:=(Array.getElem?_eq_some_iff.1 hs).1
 have h2:(((w.alloc (.cells #[.slice none 0 0, .bool false] 140)).alloc (.cells #[.pointer (some ⟨sb,0,none⟩), .int .i64 now, .slice none 0 0, .bool false, .bool false] 171)).heap.size)=w.heap.size+2:=by simp
 have hA:∀ o p:Obj,((w.alloc o).alloc p).heap[w.heap.size]? = some o:=fun o p=>by
  rw [Go.heap_alloc_old _ _ (by simp)];exact Go.heap_alloc_new w o
 have hB:∀ o p:Obj,((w.alloc o).alloc p).heap[w.heap.size+1]? = some p:=fun o p=>by
  have:=Go.heap_alloc_new (w.alloc o) p
  rw [World.size_alloc] at this
  exact this
 have hO:∀ (o p:Obj) b,b < w.heap.size→((w.alloc o).alloc p).heap[b]? = w.heap[b]?:=fun o p b hb=>by
  rw [Go.heap_alloc_old _ _ (by rw [World.size_alloc];omega),Go.heap_alloc_old _ _ hb]
 have hT:TS ((w.alloc (.cells #[.slice none 0 0, .bool false] 140)).alloc (.cells #[.pointer (some ⟨sb,0,none⟩), .int .i64 now, .slice none 0 0, .bool false, .bool false] 171)) (w.heap.size+2) (w.heap.size+1) sb now (.slice none 0 0) [] false false S0 :=
  ⟨hB _ _,(hO _ _ sb hlt).trans hs,World.ownsRow_nil _ _ _ _,⟨by omega,by omega,by rw [h2];exact Nat.le_refl _⟩,by omega⟩
 have HH:Hid (Calls Tryz.prog 79 _ _ _):=HW _ _ _ (Nat.le_refl _) hT (by omega) (fun b hb=>⟨by omega,by omega,hO _ _ b hb⟩)
 have HA:Hid (((w.alloc (.cells #[.slice none 0 0, .bool false] 140)).alloc (.cells #[.pointer (some ⟨sb,0,none⟩), .int .i64 now, .slice none 0 0, .bool false, .bool false] 171)).heap[w.heap.size]? = _):=hA _ _
 have HO:Hid _:=hO
 have Hs:Hid _:=hs
 have HPS:Hid (∀ S w1 w2,(∀ b,w.heap.size+2≤b→(w2:World).heap[b]? = (w1:World).heap[b]?)→PS S w1→PS S w2):=hPS
 clear HW hT hA hB hO h2 hs hPS
 go_enter Tryz.func60,Tryz.ntmps60
 go_wp2_with (go_at_call 79;go_loud (refine HH.out.mono ?_);go_loud (rintro e w' ⟨⟨v,rfl⟩,sv',S1,hS1,hT',hR'⟩);go_loud (obtain ⟨⟨d0,d1,d2,d3,d4⟩,y2,y3,y4⟩:=hT'.facts);go_loud (obtain ⟨ao',cp',rfl,_⟩:=own_slice hT'.own);go_loud (have hq:=(hR'.heap w.heap.size (by omega) (by omega) (by omega)).trans HA.out);go_loud (have q0:=cell_blk hq 0);go_loud (have q1:=cell_blk hq 1);go_loud (have p0:=frozen_blk hq 0);go_loud (have p1:=frozen_blk hq 1);simp at q0 q1)
 have hE0:=fun h2 hos hO=>turned_of h2 hos hO hlt hT' hR' (.slice ao' sent.length cp') (.bool cl)
 have hE:=hE0 (by simp) rfl (fun b hb=>HO.out _ _ b hb)
 exact bodyPost_ret (v:=.agg #[.slice ao' sent.length cp', .bool cl]) (by simp [results,Tryz.results60,go_sem,q0,q1]) rfl ⟨_,_,rfl,HPS.out _ _ _ (fun b hb=>(set_oth (by omega) _ _).trans (set_oth (by omega) _ _)) hS1,hE⟩
end Go.Proofs.YtjnkcibpkkjniaaGreat
namespace Go.Proofs.YtjnkcibpkkjniaaGreat
open Go Go.RowKit
open Go.Proofs.YtjnkcibpkkjniaaGreat.Pool (okOps topB wp_region_lb)
set_option maxHeartbeats 2000000
set_option maxRecDepth 20000
theorem work_idle {w:World} {base tb sb:Nat} {now:Int} {au id:Int} {p:Pz} {pa:Option Addr} {pl pc:Nat} (h:TS w base tb sb now (.slice none 0 0) [] false false (sessA au id p 0 0 0 0 (.slice pa pl pc))) (hn:Sane now) {ib io cp:Nat} {p0:Int} {s0:List Int} (hib:ib < base∧ib≠tb∧ib≠sb) (i0:InAt w ib io p0 2 s0) :
  Calls Tryz.prog 79 #[.pointer (some ⟨tb,0,none⟩), .slice (some ⟨ib,io,none⟩) 1 cp] w fun e w'=>(∃ v,e=.returned v)∧∃ sv',TS w' base tb sb now sv' [] false false (sessA au id p 0 0 0 0 (.slice pa pl pc))∧Rest base tb sb w w':=by
 have hmf:∀ (fn:Fn) (first cap:Array Value) (w:World),(Instr.makeFunc fn first cap).run Tryz.prog w=.ok (.func fn first cap) w:=fun _ _ _ _=>rfl
 have hlt:=h.lt
 have HB:Below w.heap.size w (w.alloc (.cells #[.pointer (some ⟨tb,0,none⟩)] 169)):=(Below.refl _ _).alloc (Nat.le_refl _) _
 have H0:Hid (TS (w.alloc (.cells #[.pointer (some ⟨tb,0,none⟩)] 169)) (w.heap.size+1) tb sb now (.slice none 0 0) [] false false (sessA au id p 0 0 0 0 (.slice pa pl pc))):=(h.below HB).rebase (sent:=[]) (by omega) (by simp)
 have HW:Hid (Calls Tryz.prog 118 #[.pointer (some ⟨tb,0,none⟩)] (w.alloc (.cells #[.pointer (some ⟨tb,0,none⟩)] 169)) fun e w'=>(∃ v,e=.returned v)∧TS w' (w.heap.size+1) tb sb now (.slice none 0 0) [] false false (sessA au id p 0 0 0 0 (.slice pa pl pc))∧Rest (w.heap.size+1) tb sb (w.alloc (.cells #[.pointer (some ⟨tb,0,none⟩)] 169)) w') :=
  watch_none H0.out hn (by unfold Sane;omega) (by unfold Sane;omega) (by omega) (by simp [silentB]) (by simp [owesB])
 have hbx:(w.alloc (.cells #[.pointer (some ⟨tb,0,none⟩)] 169)).heap[w.heap.size]? = some (.cells #[.pointer (some ⟨tb,0,none⟩)] 169 (0,0)):=Go.heap_alloc_new w _
 have hib2:(w.alloc (.cells #[.pointer (some ⟨tb,0,none⟩)] 169)).heap[ib]? = w.heap[ib]?:=HB.block ib (by omega)
 have R0:Hid (Rest base tb sb w (w.alloc (.cells #[.pointer (some ⟨tb,0,none⟩)] 169))):=Rest.below HB hlt.2.2
 have HT1:Hid (∀ w',TS w' (w.heap.size+1) tb sb now (.slice none 0 0) [] false false (sessA au id p 0 0 0 0 (.slice pa pl pc))→Calls Tryz.prog 119 #[.pointer (some ⟨tb,0,none⟩), .agg #[.int .i64 p0, .int .i64 2, .string (strOfNums s0)]] w' fun e w''=>(∃ v,e=.returned v)∧Below w'.heap.size w' w'') :=
  fun w' hw=>take_idle hw p0 _
 have HI0:Hid (InAt w ib io p0 2 s0):=i0
 clear h hn i0 HB
 go_enter_defers Tryz.func79,Tryz.ntmps79
 go_wp2_with (go_at_call 118;go_loud (refine HW.out.mono ?_);go_loud (rintro e w1 ⟨⟨v1,rfl⟩,hT1,hR1⟩))
 have g1:=(hR1.heap w.heap.size (by omega) (by omega) (by omega)).trans hbx
 have g2:=(hR1.heap ib (by omega) hib.2.1 hib.2.2).trans hib2
 have x0:=cell_blk g1 0
 simp at x0
 obtain ⟨a0,a1,a2⟩:=HI0.out.keep g2
 obtain ⟨⟨c0,c1,c2,c3,c4⟩,z2,z3,z4⟩:=hT1.facts
 have H1:Hid (TS w1 _ tb sb now _ _ _ _ _):=hT1
 have R1:Hid (Rest base tb sb w w1):=R0.out.trans (hR1.lower (by omega))
 clear hT1 hR1 HW R0 H0 hbx hib2
 refine wp_loop_rounds 2 ?_
 rw [rounds_succ]
 go_wp2_with fail
 have hI0:InAt w1 ib (io+3 * 0) p0 2 s0:=HI0.out.keep g2
 have hbl0:w.heap.size < w1.heap.size:=(Array.getElem?_eq_some_iff.1 g1).1
 have hil0:ib < w1.heap.size:=by have:=H1.out.lt.2.2;omega
 have HG0:Hid (∀ wx,Below w1.heap.size w1 wx→Calls Tryz.prog 119 #[.pointer (some ⟨tb,0,none⟩), .agg #[.int .i64 p0, .int .i64 2, .string (strOfNums s0)]] wx fun e w'=>(∃ v,e=.returned v)∧∃ sv',TS w' (w.heap.size+1) tb sb now sv' [] false false (sessA au id p 0 0 0 0 (.slice pa pl pc))∧Rest (w.heap.size+1) tb sb w1 w'):=fun wx hB=>by
  refine (HT1.out wx (H1.out.below hB)).mono ?_
  rintro e w' ⟨hv,hB2⟩
  exact ⟨hv,_,(H1.out.below hB).below hB2,(Rest.below hB H1.out.lt.2.2).trans (Rest.below hB2 (H1.out.below hB).lt.2.2)⟩
 refine wp_region_lb (D:=_) (ops:=wkOps) (val:=wkV tb ib io 1 cp p0 2 s0 0) (fix:=[(1, .slice (some ⟨ib,io,none⟩) 1 cp),(2, .pointer (some ⟨w.heap.size,0,none⟩)),(4, .int .i64 0)]) (T:=27) (w0:=w1) (Post:=fun _ w'=>∃ sv',TS w' (w.heap.size+1) tb sb now sv' [] false false (sessA au id p 0 0 0 0 (.slice pa pl pc))∧Rest (w.heap.size+1) tb sb w1 w') (n:=5) (by kernel_rfl) wk_ok wk_top wk_size wkV_mono
  (fun i o a wx hi ho hfx hdep hs K hK=>wk_hop0 (by decide) hbl0 hil0 x0 hI0 i o a wx hi ho (hfx (1, .slice (some ⟨ib,io,none⟩) 1 cp) (by simp)) (hfx (2, .pointer (some ⟨w.heap.size,0,none⟩)) (by simp)) (hfx (4, .int .i64 0) (by simp)) hdep hs K hK)
  (fun o a wx ho hfx hdep hs K hK=>wk_last (P0:=fun w'=>∃ sv',TS w' (w.heap.size+1) tb sb now sv' [] false false (sessA au id p 0 0 0 0 (.slice pa pl pc))∧Rest (w.heap.size+1) tb sb w1 w') HG0 o a wx ho hdep hs K hK) (fun a wx hdf hsz hfx hP=>?_) rfl rfl ?_ ?_
 rotate_left
 ·intro x hx
  simp at hx
  rcases hx with rfl | rfl | rfl <;> rfl
 ·exact ⟨rfl,rfl,rfl,Nat.le_refl _,fun _ _=>rfl⟩
 obtain ⟨sv2,hT2,hR2⟩:=hP
 have f1:a.tmps[1]? = some (.slice (some ⟨ib,io,none⟩) 1 cp):=hfx (1, .slice (some ⟨ib,io,none⟩) 1 cp) (by simp)
 have f2:a.tmps[2]? = some (.pointer (some ⟨w.heap.size,0,none⟩)):=hfx (2, .pointer (some ⟨w.heap.size,0,none⟩)) (by simp)
 have f4:a.tmps[4]? = some (.int .i64 0):=hfx (4, .int .i64 0) (by simp)
 clear HG0 hI0 x0 a0 a1 a2 c0 c1 c2 c3 c4 z2 z3 z4 hfx
 obtain ⟨tm,df⟩:=a
 simp only at hdf hsz f1 f2 f4
 subst hdf
 obtain ⟨k0,k1,k2,k3,k4,k5,k6,k7,k8,k9,k10,k11,k12,k13,k14,k15,k16,k17,k18,k19,k20,k21,k22,k23,k24,k25,k26,rfl⟩:=arr27 hsz
 simp only [List.getElem?_toArray,List.getElem?_cons_succ,List.getElem?_cons_zero,Option.some.injEq] at f1 f2 f4
 subst f1 f2 f4
 have hT4:TS wx base tb sb now sv2 [] false false (sessA au id p 0 0 0 0 (.slice pa pl pc)):=hT2.lower (by omega) hlt.1 hlt.2.1
 have R3:Rest base tb sb w wx:=R1.out.trans (hR2.lower (by omega))
 clear hT2 hR2 H1 R1
 go_wp2_with fail
 rw [rounds_succ]
 go_wp2_with fail
 refine leaves_cons (f:=116) (args:=#[.pointer (some ⟨w.heap.size,0,none⟩)]) (by simp) (by simp [go_sem]) ?_
 refine (catch_idle ⟨w.heap.size,0,none⟩ _).mono ?_
 rintro e u' w'' ⟨rfl,rfl,rfl⟩
 simp only [Leaves,settle,results,Tryz.results79,go_sem]
 exact ⟨.tuple #[],by simp [go_sem],⟨_,rfl⟩,sv2,hT4,R3⟩
theorem turn_both {w:World} {sb:Nat} {now:Int} {au id:Int} {p:Pz} (hs:w.heap[sb]? = some (.cells (sessA au id p 0 0 0 0 (.slice none 0 0)) 100 (0,0))) (hn:Sane now) (hid:0≤id) {d d1 d2 b:List Int} {n2 n3:Int} (hd:Bytes d) (hlen:d.length=48)
  (e1:d.drop 19=d1) (e2:d1.drop 10=d2) (e3:d2.drop 19=[]) (eb:d1.take 10=b) (h1:HdOk (d.take 19) 29 1) (h3:HdOk (d2.take 19) 19 4)
  (HRO:Hid (∀ w,Calls Tryz.prog 173 #[.string (strOfNums b), .int .i64 p.au] w fun e w'=>e=.returned (.agg #[.int .i64 p.au, .int .i64 n2, .int .u32 n3])∧Below w.heap.size w w')) {ib io cp:Nat} {p0 p1:Int} {s0:List Int} (hib:ib < w.heap.size∧ib≠sb) (i0:InAt w ib io p0 1 s0) (i1:InAt w ib (io+3) p1 2 d) :
  Calls Tryz.prog 60 #[.pointer (some ⟨sb,0,none⟩), .int .i64 now, .slice (some ⟨ib,io,none⟩) 2 cp] w fun e w'=>∃ v S1,e=.returned v∧(∃ g c cur,S1=sessA au id p 3 (minI p.hold n2) now now (.slice (some ⟨g,0,none⟩) 0 c)∧w.heap.size+2≤g∧w'.heap[g]? = some (.cells cur 5 (0,0))∧∀ u∈cur.toList,Pl u)∧Turned w w' sb S1 (msgL 1 (4::(twoL au++(twoL p.hold++(fourL id++[0]))))++msgL 4 []) false v :=
 turn_of (ov:=false) (PS:=fun S1 w'=>∃ g c cur,S1=sessA au id p 3 (minI p.hold n2) now now (.slice (some ⟨g,0,none⟩) 0 c)∧w.heap.size+2≤g∧w'.heap[g]? = some (.cells cur 5 (0,0))∧∀ u∈cur.toList,Pl u)
  (fun S w1 w2 hk ⟨g,c,cur,h1,h2,h3,h4⟩=>⟨g,c,cur,h1,h2,(hk g h2).trans h3,h4⟩) hs fun w1 base tb hbase hT hne hold=>by
  obtain ⟨h4,h5,h6⟩:=hold ib hib.1
  refine (work_both hT hn hid hd hlen e1 e2 e3 eb h1 h3 HRO ⟨h4,h5,hib.2⟩ (i0.keep h6) (i1.keep h6)).mono ?_
  rintro e w' ⟨hv,sv',g,c,k1,k2,hg,cur,k3,k4⟩
  exact ⟨hv,sv',_,⟨g,c,cur,rfl,by omega,k3,k4⟩,k1,k2⟩
theorem turn_idle {w:World} {sb:Nat} {now:Int} {au id:Int} {p:Pz} {pv:Value} (hs:w.heap[sb]? = some (.cells (sessA au id p 0 0 0 0 pv) 100 (0,0))) (hpv:∃ pa pl pc,pv=.slice pa pl pc) (hn:Sane now) {ib io cp:Nat} {p0:Int} {s0:List Int} (hib:ib < w.heap.size∧ib≠sb) (i0:InAt w ib io p0 2 s0) :
  Calls Tryz.prog 60 #[.pointer (some ⟨sb,0,none⟩), .int .i64 now, .slice (some ⟨ib,io,none⟩) 1 cp] w fun e w'=>∃ v S1,e=.returned v∧S1=sessA au id p 0 0 0 0 pv∧Turned w w' sb S1 [] false v :=
 turn_of (ov:=false) (PS:=fun S1 _=>S1=sessA au id p 0 0 0 0 pv) (fun _ _ _ _ h=>h) hs fun w1 base tb _ hT hne hold=>by
  obtain ⟨h4,h5,h6⟩:=hold ib hib.1
  obtain ⟨pa,pl,pc,rfl⟩:=hpv
  refine (work_idle hT hn ⟨h4,h5,hib.2⟩ (i0.keep h6)).mono ?_
  rintro e w' ⟨hv,sv',k1,k2⟩
  exact ⟨hv,sv',_,rfl,k1,k2⟩
end Go.Proofs.YtjnkcibpkkjniaaGreat
