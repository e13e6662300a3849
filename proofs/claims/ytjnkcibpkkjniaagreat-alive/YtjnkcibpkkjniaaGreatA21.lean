import Derived.Test.YtjnkcibpkkjniaaGreatA17
import Derived.Test.YtjnkcibpkkjniaaGreatA20
import Derived.LoopN
import Derived.Test.YtjnkcibpkkjniaaGreatA10
import Derived.Test.YtjnkcibpkkjniaaGreatA13
set_option linter.unusedVariables false
set_option linter.unusedSimpArgs false
set_option linter.unusedSectionVars false
namespace Go.Proofs.YtjnkcibpkkjniaaGreat
open Go Go.RowKit
set_option maxHeartbeats 2000000
set_option maxRecDepth 20000
theorem S_ne {xs:List Int} (h:0 < xs.length):(strOfNums xs).toList.isEmpty=false:=by
 rw [ByteArray.toList_eq]
 cases xs with
 | nil=>exact absurd h (Nat.lt_irrefl _)
 | cons x xs=>rfl
theorem S_empty:(strOfNums []).toList.isEmpty=true:=by rw [ByteArray.toList_eq];rfl
theorem hear_both {w:World} {base tb sb:Nat} {now:Int} {sv:Value} {sent:List Int} {cl:Bool} {au id:Int} {p:Pz} {hold heard spoke:Int} {pv:Value} (h:TP w base tb sb now sv sent cl false (sessA au id p 1 hold heard spoke pv) pv []) (hl:sent.length≤50000) {d d1 d2 b:List Int} {n2 n3:Int} (hd:Bytes d) (hlen:d.length=48)
  (e1:d.drop 19=d1) (e2:d1.drop 10=d2) (e3:d2.drop 19=[]) (eb:d1.take 10=b) (h1:HdOk (d.take 19) 29 1) (h3:HdOk (d2.take 19) 19 4)
  (HRO:Hid (∀ w,Calls Tryz.prog 173 #[.string (strOfNums b), .int .i64 p.au] w fun e w'=>e=.returned (.agg #[.int .i64 p.au, .int .i64 n2, .int .u32 n3])∧Below w.heap.size w w')) :
  Calls Tryz.prog 148 #[.pointer (some ⟨tb,0,none⟩), .string (strOfNums d)] w fun e w'=>(∃ v,e=.returned v)∧∃ sv' g c,TP w' base tb sb now sv' (sent++msgL 4 []) cl false (sessA au id p 3 (minI p.hold n2) now now (.slice (some ⟨g,0,none⟩) 0 c)) (.slice (some ⟨g,0,none⟩) 0 c) []∧Rest base tb sb w w':=by
 have l1:d1.length=29:=by rw [←e1,List.length_drop];omega
 have l2:d2.length=19:=by rw [←e2,List.length_drop];omega
 have m0:=S_ne (xs:=d) (by omega)
 have m1:=S_ne (xs:=d1) (by omega)
 have m2:=S_ne (xs:=d2) (by omega)
 obtain ⟨qa,qh,ql,qp,qw,ia,il,ic,ea,el,ec⟩:=p
 simp only [sessA] at h HRO ⊢
 obtain ⟨⟨c0,c1,c2,c3,c4⟩,z2,z3,z4⟩:=h.ts.facts
 obtain ⟨b0,b1,b2,b3,b4,b5,b6,b7,b8,b9,b10,b11,b12,b13,y0,y1,y2,y3,y4,y5,y6,y7,y8,y9,y10,y11,y12,y13⟩:=cells14 h.ts.s
 have H0:Hid (TP w base tb sb now sv sent cl false #[.int .i64 au, .int .u32 id, .int .i64 qa, .int .i64 qh, .int .i64 ql, .int .i64 qp, .int .i64 qw, .slice ia il ic, .slice ea el ec, .int .i64 1, .int .i64 hold, .int .i64 heard, .int .i64 spoke,pv] pv []):=h
 have HL:Hid (d.length=48):=hlen
 have Hd1:Hid (Bytes d1):=fun x hx=>hd x (List.mem_of_mem_drop (by rw [e1];exact hx))
 have Hh1:Hid (HdOk (d.take 19) 29 1):=h1
 have Hh3:Hid (HdOk (d2.take 19) 19 4):=h3
 have Hl:Hid (sent.length≤50000):=hl
 have HN1:Hid (Calls Tryz.prog 156 #[.pointer (some ⟨sb,13,none⟩), .string (strOfNums d)] w fun e w'=>e=.returned (.tuple #[.string (strOfNums d1), .agg #[.int .i64 0, .string (strOfNums [])], .bool false])∧∃ pv',TP w' base tb sb now sv sent cl false #[.int .i64 au, .int .u32 id, .int .i64 qa, .int .i64 qh, .int .i64 ql, .int .i64 qp, .int .i64 qw, .slice ia il ic, .slice ea el ec, .int .i64 1, .int .i64 hold, .int .i64 heard, .int .i64 spoke,pv'] pv' (d.take 19)∧Rest base tb sb w w'):=by
  have:=next_more h rfl (d:=d) (by omega) (by omega) h1
  rw [e1] at this
  exact this
 clear h hl h1 h3 hd hlen
 go_enter Tryz.func148,Tryz.ntmps148
 go_wp2_with fail
 refine wp_loop_rounds 4 ?_
 rw [rounds_succ]
 go_wp2_with (go_at_call 156;go_loud (refine HN1.out.mono ?_);go_loud (rintro e w1 ⟨rfl,pv1,hT1,hR1⟩))
 have k1:=hT1.below (w':=w1.alloc (.cells #[.int .i64 0, .string (strOfNums [])] 247)) (by (repeat (first | exact Below.refl _ _ | refine Below.drew ?_ | refine Below.alloc ?_ (by first | omega | (simp only [World.size_alloc,World.size_setCell,World.size_drew];omega) | simp) _ | refine Below.setCell ?_ (by first | omega | simp) _ | assumption)))
 have r1:=hR1.trans (Rest.below (w':=w1.alloc (.cells #[.int .i64 0, .string (strOfNums [])] 247)) (by (repeat (first | exact Below.refl _ _ | refine Below.drew ?_ | refine Below.alloc ?_ (by first | omega | (simp only [World.size_alloc,World.size_setCell,World.size_drew];omega) | simp) _ | refine Below.setCell ?_ (by first | omega | simp) _ | assumption))) hT1.ts.lt.2.2)
 clear hT1 hR1 HN1 H0 c0 c1 c2 c3 c4 z2 z3 z4 b0 b1 b2 b3 b4 b5 b6 b7 b8 b9 b10 b11 b12 b13 y0 y1 y2 y3 y4 y5 y6 y7 y8 y9 y10 y11 y12 y13
 generalize (w1.alloc (.cells #[.int .i64 0, .string (strOfNums [])] 247))=v1 at k1 r1 ⊢
 obtain ⟨⟨c0,c1,c2,c3,c4⟩,z2,z3,z4⟩:=k1.ts.facts
 have HN2:Hid (Calls Tryz.prog 156 #[.pointer (some ⟨sb,13,none⟩), .string (strOfNums d1)] v1 fun e w'=>e=.returned (.tuple #[.string (strOfNums d2), .agg #[.int .i64 1, .string (strOfNums b)], .bool true])∧∃ g c,TP w' base tb sb now sv sent cl false #[.int .i64 au, .int .u32 id, .int .i64 qa, .int .i64 qh, .int .i64 ql, .int .i64 qp, .int .i64 qw, .slice ia il ic, .slice ea el ec, .int .i64 1, .int .i64 hold, .int .i64 heard, .int .i64 spoke, .slice (some ⟨g,0,none⟩) 0 c] (.slice (some ⟨g,0,none⟩) 0 c) []∧Rest base tb sb v1 w'):=by
  have:=next_rest k1 rfl Hh1.out (d:=d1) Hd1.out (by omega) (by omega)
  rw [e2,eb] at this
  exact this
 have R1:Hid (Rest base tb sb w v1):=r1
 clear k1 r1
 rw [rounds_succ]
 go_wp2_with (first
  | (go_at_call 156;go_loud (refine HN2.out.mono ?_);go_loud (rintro e w2 ⟨rfl,g2,p2,hT2,hR2⟩);go_loud (have H2:Hid (TP w2 base tb sb now sv sent cl false _ _ _):=hT2);go_loud (have HR2:Hid (Rest base tb sb v1 w2):=hR2);clear hT2 hR2)
  | (go_at_call 157;go_loud (refine Calls.mono (obey_open (p:=⟨qa,qh,ql,qp,qw,ia,il,ic,ea,el,ec⟩) (TP.below H2.out (by (repeat (first | exact Below.refl _ _ | refine Below.drew ?_ | refine Below.alloc ?_ (by first | omega | (simp only [World.size_alloc,World.size_setCell,World.size_drew];omega) | simp) _ | refine Below.setCell ?_ (by first | omega | simp) _ | assumption)))) Hl.out HRO) ?_);go_loud (rintro e w3 ⟨⟨v3,rfl⟩,sv3,hT3,hR3⟩)))
 have k3:=hT3
 have R3:Hid (Rest base tb sb w w3):=R1.out.trans (HR2.out.trans ((Rest.below (by (repeat (first | exact Below.refl _ _ | refine Below.drew ?_ | refine Below.alloc ?_ (by first | omega | (simp only [World.size_alloc,World.size_setCell,World.size_drew];omega) | simp) _ | refine Below.setCell ?_ (by first | omega | simp) _ | assumption))) H2.out.ts.lt.2.2).trans hR3))
 simp only [sessA] at k3
 clear hT3 hR3 HN2 H2 HR2 R1 c0 c1 c2 c3 c4 z2 z3 z4
 obtain ⟨⟨c0,c1,c2,c3,c4⟩,z2,z3,z4⟩:=k3.ts.facts
 have HN3:Hid (Calls Tryz.prog 156 #[.pointer (some ⟨sb,13,none⟩), .string (strOfNums d2)] w3 fun e w'=>e=.returned (.tuple #[.string (strOfNums []), .agg #[.int .i64 4, .string (strOfNums [])], .bool true])∧∃ g c,TP w' base tb sb now sv3 (sent++msgL 4 []) cl false #[.int .i64 au, .int .u32 id, .int .i64 qa, .int .i64 qh, .int .i64 ql, .int .i64 qp, .int .i64 qw, .slice ia il ic, .slice ea el ec, .int .i64 2, .int .i64 (minI qh n2), .int .i64 now, .int .i64 now, .slice (some ⟨g,0,none⟩) 0 c] (.slice (some ⟨g,0,none⟩) 0 c) []∧Rest base tb sb w3 w'):=by
  have:=next_alive k3 rfl (d:=d2) (by omega) (by omega) Hh3.out
  rw [e3] at this
  exact this
 clear k3
 rw [rounds_succ]
 go_wp2_with (first
  | (go_at_call 156;go_loud (refine HN3.out.mono ?_);go_loud (rintro e w4 ⟨rfl,g4,p4,hT4,hR4⟩);go_loud (have H4:Hid (TP w4 base tb sb now sv3 (sent++msgL 4 []) cl false _ _ _):=hT4);go_loud (have HR4:Hid (Rest base tb sb w3 w4):=hR4);clear hT4 hR4)
  | (go_at_call 157;go_loud (refine Calls.mono (obey_alive (p:=⟨qa,qh,ql,qp,qw,ia,il,ic,ea,el,ec⟩) (TP.below H4.out (by (repeat (first | exact Below.refl _ _ | refine Below.drew ?_ | refine Below.alloc ?_ (by first | omega | (simp only [World.size_alloc,World.size_setCell,World.size_drew];omega) | simp) _ | refine Below.setCell ?_ (by first | omega | simp) _ | assumption))))) ?_);go_loud (rintro e w5 ⟨⟨v5,rfl⟩,hT5,hR5⟩)))
 have R5:Hid (Rest base tb sb w w5):=R3.out.trans (HR4.out.trans ((Rest.below (by (repeat (first | exact Below.refl _ _ | refine Below.drew ?_ | refine Below.alloc ?_ (by first | omega | (simp only [World.size_alloc,World.size_setCell,World.size_drew];omega) | simp) _ | refine Below.setCell ?_ (by first | omega | simp) _ | assumption))) H4.out.ts.lt.2.2).trans hR5))
 simp only [sessA] at hT5
 clear hR5 HN3 H4 HR4 R3 c0 c1 c2 c3 c4 z2 z3 z4
 obtain ⟨⟨c0,c1,c2,c3,c4⟩,z2,z3,z4⟩:=hT5.ts.facts
 have H5:Hid (TP w5 base tb sb now sv3 (sent++msgL 4 []) cl false _ _ _):=hT5
 have m3:=S_empty
 clear hT5
 rw [rounds_succ]
 go_wp2_with fail
 exact bodyPost_end (v:=.tuple #[]) (by simp [results,Tryz.results148,go_sem]) rfl ⟨⟨_,rfl⟩,sv3,g4,p4,H5.out,R5.out⟩
theorem hear_idle {w:World} {base tb sb:Nat} {now:Int} {sv:Value} {sent:List Int} {cl ov:Bool} {au id:Int} {p:Pz} {hold heard spoke:Int} {pv:Value} (h:TS w base tb sb now sv sent cl ov (sessA au id p 0 hold heard spoke pv)) (s:ByteArray) :
  Calls Tryz.prog 148 #[.pointer (some ⟨tb,0,none⟩), .string s] w fun e w'=>(∃ v,e=.returned v)∧w'=w:=by
 obtain ⟨qa,qh,ql,qp,qw,ia,il,ic,ea,el,ec⟩:=p
 simp only [sessA] at h
 obtain ⟨⟨c0,c1,c2,c3,c4⟩,z2,z3,z4⟩:=h.facts
 have b9:=cell_blk h.s 9
 simp at b9
 clear h
 go_enter Tryz.func148,Tryz.ntmps148
 go_wp2_with fail
 exact bodyPost_ret (v:=.tuple #[]) (by simp [results,Tryz.results148,go_sem]) rfl ⟨⟨_,rfl⟩,rfl⟩
end Go.Proofs.YtjnkcibpkkjniaaGreat
namespace Go.Proofs.YtjnkcibpkkjniaaGreat
open Go Go.RowKit
open Go.Proofs.YtjnkcibpkkjniaaGreat.Pool (TabP okOps wp_region_lin)
set_option maxHeartbeats 2000000
set_option maxRecDepth 20000
def obV (au hold id:Int) (bb:Nat):Nat→Value→World→Prop
 | 0,v,w=>∃ b c,v=.slice (some ⟨b,0,none⟩) 1 c∧b < w.heap.size∧w.cell? ⟨b,0,none⟩=some (.int .u8 4)
 | 1,v,_=>v=.string (strOfNums [4])
 | 2,v,_=>v=.pointer (some ⟨bb,0,none⟩)
 | 3,v,_=>v=.int .i64 au
 | 4,v,_=>v=.string (strOfNums (twoL au))
 | 5,v,_=>v=.string (strOfNums (4::twoL au))
 | 6,v,_=>v=.pointer (some ⟨bb,1,none⟩)
 | 7,v,_=>v=.int .i64 hold
 | 8,v,_=>v=.string (strOfNums (twoL hold))
 | 9,v,_=>v=.string (strOfNums (4::(twoL au++twoL hold)))
 | 10,v,_=>v=.pointer (some ⟨bb,2,none⟩)
 | 11,v,_=>v=.int .u32 id
 | 12,v,_=>v=.string (strOfNums (fourL id))
 | 13,v,_=>v=.string (strOfNums (4::(twoL au++(twoL hold++fourL id))))
 | 14,v,_=>v=.string (strOfNums (4::(twoL au++(twoL hold++(fourL id++[0])))))
 | _,v,_=>v=.string (strOfNums (msgL 1 (4::(twoL au++(twoL hold++(fourL id++[0]))))))
theorem obV_mono {au hold id:Int} {bb:Nat} {w w':World} (hB:Below w.heap.size w w'):∀ j u,obV au hold id bb j u w→obV au hold id bb j u w':=by
 intro j u h
 unfold obV at h ⊢
 split at h <;> first | exact h | skip
 obtain ⟨b,c,h1,h2,h3⟩:=h
 exact ⟨b,c,h1,Nat.lt_of_lt_of_le h2 hB.size,(hB.cell (p:=⟨b,0,none⟩) h2).trans h3⟩
noncomputable def obOps:Array Oper:=match Tryz.f155.body with
 | some (.seq _ (.seq (.region _ ops _) _))=>ops
 | some (.seq _ (.region _ ops _))=>ops
 | _=>#[]
theorem ob_ok:okOps obOps [1] 19=true:=by kernel_rfl
theorem ob_hop {Q:Exit→Act→World→Prop} {au hold id:Int} {bb:Nat} {w0:World} (hbb:bb < w0.heap.size) (c0:w0.cell? ⟨bb,0,none⟩=some (.int .i64 au)) (c1:w0.cell? ⟨bb,1,none⟩=some (.int .i64 hold)) (c2:w0.cell? ⟨bb,2,none⟩=some (.int .u32 id))
  (i:Nat) (o:Oper) (listed:Array Bool) (a:Act) (w:World) (ho:obOps[i]? = some o) (hr:i∈Region.ready .any obOps listed) (ht:TabP obOps (obV au hold id bb) [(1, .pointer (some ⟨bb,0,none⟩))] 19 listed a w) (hs:Below w0.heap.size w0 w)
  (K:Act→World→Prop) (hK:∀ v w',obV au hold id bb i v w'→Below w.heap.size w w'→K (a.put o.dst v) w'):o.wp Tryz.prog a w K Q:=by
 have hi:i < 17:=by
  have:=(Array.getElem?_eq_some_iff.1 ho).1
  have h2:obOps.size=17:=by kernel_rfl
  omega
 have f1:a.tmps[1]? = some (.pointer (some ⟨bb,0,none⟩)):=ht.fix (1, .pointer (some ⟨bb,0,none⟩)) (by simp)
 have e0:=(hs.cell (p:=⟨bb,0,none⟩) hbb).trans c0
 have e1:=(hs.cell (p:=⟨bb,1,none⟩) hbb).trans c1
 have e2:=(hs.cell (p:=⟨bb,2,none⟩) hbb).trans c2
 have hdep:∀ (j:Nat) (o':Oper) (d:Nat),obOps[j]? = some o'→o'.dst=some d→(∃ e∈o.after,e.on=j∧Region.binds .any e=true)→∃ v,a.tmps[d]? = some v∧obV au hold id bb j v w:=fun j o' d hj hd he=>ht.dep ho hr hj hd he
 clear hr ht
 obtain rfl | rfl | rfl | rfl | rfl | rfl | rfl | rfl | rfl | rfl | rfl | rfl | rfl | rfl | rfl | rfl | rfl:i=0∨i=1∨i=2∨i=3∨i=4∨i=5∨i=6∨i=7∨i=8∨i=9∨i=10∨i=11∨i=12∨i=13∨i=14∨i=15∨i=16:=by omega
 all_goals
  simp only [obOps,Tryz.f155] at ho
  simp only [List.getElem?_toArray,List.getElem?_cons_succ,List.getElem?_cons_zero,Option.some.injEq] at ho
  subst ho
 ·unfold Oper.wp execOp
  go_simp
  refine hK _ _ ⟨w.heap.size,1,rfl,by simp,by simp⟩ (by (repeat (first | exact Below.refl _ _ | refine Below.drew ?_ | refine Below.alloc ?_ (by first | omega | (simp only [World.size_alloc,World.size_setCell,World.size_drew];omega) | simp) _ | refine Below.setCell ?_ (by first | omega | simp) _ | assumption)))
 ·obtain ⟨u0,h0,b,c,rfl,p1,p2⟩:=hdep 0 _ _ rfl rfl ⟨⟨0, .data⟩,by simp,rfl,rfl⟩
  have kc:=conv1 w b c 4 p2
  unfold Oper.wp execOp
  simp only [Act.eval,Array.getD_eq_getD_getElem?,h0,f1,Option.getD_some]
  go_simp
  exact hK _ _ rfl (Below.refl _ _)
 ·unfold Oper.wp execOp
  simp only [Act.eval,Array.getD_eq_getD_getElem?,f1,Option.getD_some]
  go_simp
  exact hK _ _ rfl (Below.refl _ _)
 ·obtain ⟨u0,h0,p0⟩:=hdep 2 _ _ rfl rfl ⟨⟨2, .data⟩,by simp,rfl,rfl⟩
  simp only [obV] at p0
  subst p0
  unfold Oper.wp execOp
  simp only [Act.eval,Array.getD_eq_getD_getElem?,h0,f1,Option.getD_some]
  go_simp
  exact hK _ _ rfl (Below.refl _ _)
 ·obtain ⟨u0,h0,p0⟩:=hdep 3 _ _ rfl rfl ⟨⟨3, .data⟩,by simp,rfl,rfl⟩
  simp only [obV] at p0
  subst p0
  unfold Oper.wp execOp
  simp only [Act.eval,Array.getD_eq_getD_getElem?,h0,f1,Option.getD_some]
  go_simp
  refine (two_any au w).mono ?_
  rintro e w1 ⟨rfl,hB⟩
  exact hK _ _ rfl hB
 ·obtain ⟨u0,h0,p0⟩:=hdep 1 _ _ rfl rfl ⟨⟨1, .data⟩,by simp,rfl,rfl⟩
  simp only [obV] at p0
  subst p0
  obtain ⟨u1,h1,p1⟩:=hdep 4 _ _ rfl rfl ⟨⟨4, .data⟩,by simp,rfl,rfl⟩
  simp only [obV] at p1
  subst p1
  have ks:=S_append
  have kz:=strOfNums_size
  have k2:=k_2
  have k4:=k_4
  have ka:=k_a
  unfold Oper.wp execOp
  simp only [Act.eval,Array.getD_eq_getD_getElem?,h0,h1,f1,Option.getD_some]
  go_simp
  exact hK _ _ rfl (Below.refl _ _)
 ·unfold Oper.wp execOp
  simp only [Act.eval,Array.getD_eq_getD_getElem?,f1,Option.getD_some]
  go_simp
  exact hK _ _ rfl (Below.refl _ _)
 ·obtain ⟨u0,h0,p0⟩:=hdep 6 _ _ rfl rfl ⟨⟨6, .data⟩,by simp,rfl,rfl⟩
  simp only [obV] at p0
  subst p0
  unfold Oper.wp execOp
  simp only [Act.eval,Array.getD_eq_getD_getElem?,h0,f1,Option.getD_some]
  go_simp
  exact hK _ _ rfl (Below.refl _ _)
 ·obtain ⟨u0,h0,p0⟩:=hdep 7 _ _ rfl rfl ⟨⟨7, .data⟩,by simp,rfl,rfl⟩
  simp only [obV] at p0
  subst p0
  unfold Oper.wp execOp
  simp only [Act.eval,Array.getD_eq_getD_getElem?,h0,f1,Option.getD_some]
  go_simp
  refine (two_any hold w).mono ?_
  rintro e w1 ⟨rfl,hB⟩
  exact hK _ _ rfl hB
 ·obtain ⟨u0,h0,p0⟩:=hdep 5 _ _ rfl rfl ⟨⟨5, .data⟩,by simp,rfl,rfl⟩
  simp only [obV] at p0
  subst p0
  obtain ⟨u1,h1,p1⟩:=hdep 8 _ _ rfl rfl ⟨⟨8, .data⟩,by simp,rfl,rfl⟩
  simp only [obV] at p1
  subst p1
  have ks:=S_append
  have kz:=strOfNums_size
  have k2:=k_2
  have k4:=k_4
  have ka:=k_a
  unfold Oper.wp execOp
  simp only [Act.eval,Array.getD_eq_getD_getElem?,h0,h1,f1,Option.getD_some]
  go_simp
  exact hK _ _ rfl (Below.refl _ _)
 ·unfold Oper.wp execOp
  simp only [Act.eval,Array.getD_eq_getD_getElem?,f1,Option.getD_some]
  go_simp
  exact hK _ _ rfl (Below.refl _ _)
 ·obtain ⟨u0,h0,p0⟩:=hdep 10 _ _ rfl rfl ⟨⟨10, .data⟩,by simp,rfl,rfl⟩
  simp only [obV] at p0
  subst p0
  unfold Oper.wp execOp
  simp only [Act.eval,Array.getD_eq_getD_getElem?,h0,f1,Option.getD_some]
  go_simp
  exact hK _ _ rfl (Below.refl _ _)
 ·obtain ⟨u0,h0,p0⟩:=hdep 11 _ _ rfl rfl ⟨⟨11, .data⟩,by simp,rfl,rfl⟩
  simp only [obV] at p0
  subst p0
  unfold Oper.wp execOp
  simp only [Act.eval,Array.getD_eq_getD_getElem?,h0,f1,Option.getD_some]
  go_simp
  refine (four_any id w).mono ?_
  rintro e w1 ⟨rfl,hB⟩
  exact hK _ _ rfl hB
 ·obtain ⟨u0,h0,p0⟩:=hdep 9 _ _ rfl rfl ⟨⟨9, .data⟩,by simp,rfl,rfl⟩
  simp only [obV] at p0
  subst p0
  obtain ⟨u1,h1,p1⟩:=hdep 12 _ _ rfl rfl ⟨⟨12, .data⟩,by simp,rfl,rfl⟩
  simp only [obV] at p1
  subst p1
  have ks:=S_append
  have kz:=strOfNums_size
  have k2:=k_2
  have k4:=k_4
  have ka:=k_a
  unfold Oper.wp execOp
  simp only [Act.eval,Array.getD_eq_getD_getElem?,h0,h1,f1,Option.getD_some]
  go_simp
  exact hK _ _ rfl (Below.refl _ _)
 ·obtain ⟨u0,h0,p0⟩:=hdep 13 _ _ rfl rfl ⟨⟨13, .data⟩,by simp,rfl,rfl⟩
  simp only [obV] at p0
  subst p0
  have ks:=S_append
  have kz:=strOfNums_size
  have k2:=k_2
  have k4:=k_4
  have ka:=k_a
  have k0:(⟨#[0]⟩:ByteArray)=strOfNums [0]:=rfl
  unfold Oper.wp execOp
  simp only [Act.eval,Array.getD_eq_getD_getElem?,h0,f1,Option.getD_some]
  go_simp
  exact hK _ _ rfl (Below.refl _ _)
 ·obtain ⟨u0,h0,p0⟩:=hdep 14 _ _ rfl rfl ⟨⟨14, .data⟩,by simp,rfl,rfl⟩
  simp only [obV] at p0
  subst p0
  unfold Oper.wp execOp
  simp only [Act.eval,Array.getD_eq_getD_getElem?,h0,f1,Option.getD_some]
  go_simp
  refine (assemble_any 1 _ (by simp [k_2,k_4]) w).mono ?_
  rintro e w1 ⟨rfl,hB⟩
  exact hK _ _ rfl hB
 ·obtain ⟨u0,h0,p0⟩:=hdep 15 _ _ rfl rfl ⟨⟨15, .data⟩,by simp,rfl,rfl⟩
  simp only [obV] at p0
  subst p0
  unfold Oper.wp execOp
  simp only [Act.eval,Array.getD_eq_getD_getElem?,h0,f1,Option.getD_some]
  go_simp
  exact hK _ _ rfl (Below.refl _ _)
end Go.Proofs.YtjnkcibpkkjniaaGreat
namespace Go.Proofs.YtjnkcibpkkjniaaGreat
open Go Go.RowKit
open Go.Proofs.YtjnkcibpkkjniaaGreat.Pool (TabP okOps wp_region_lin)
set_option maxHeartbeats 2000000
set_option maxRecDepth 20000
theorem openBytes_any (au hold id:Int) (w:World) :
  Calls Tryz.prog 155 #[.agg #[.int .i64 au, .int .i64 hold, .int .u32 id]] w fun e w'=>e=.returned (.string (strOfNums (msgL 1 (4::(twoL au++(twoL hold++(fourL id++[0])))))))∧Below w.heap.size w w':=by
 have hop:=fun (Q:Exit→Act→World→Prop)=>ob_hop (Q:=Q) (au:=au) (hold:=hold) (id:=id) (bb:=w.heap.size) (w0:=w.alloc (.cells #[.int .i64 au, .int .i64 hold, .int .u32 id] 245)) (by simp) (by simp) (by simp) (by simp)
 have Hop:Hid (∀ Q,_):=hop
 clear hop
 go_enter Tryz.func155,Tryz.ntmps155
 go_wp2_with fail
 refine wp_region_lin (ops:=obOps) (val:=obV au hold id w.heap.size) (fix:=[(1, .pointer (some ⟨w.heap.size,0,none⟩))]) (T:=19) (Sok:=fun _ w'=>Below (w.alloc (.cells #[.int .i64 au, .int .i64 hold, .int .u32 id] 245)).heap.size (w.alloc (.cells #[.int .i64 au, .int .i64 hold, .int .u32 id] 245)) w') (by kernel_rfl) ob_ok (fun i o listed a w1 ho hr ht hs K hK=>Hop.out _ i o listed a w1 ho hr ht hs K fun v w' hv hB=>hK v w' hv (fun j u _=>obV_mono hB j u) (hs.trans (hB.mono hs.size))) (fun listed a w1 ht hall hs=>?_) rfl rfl ?_ ?_
 ·obtain ⟨v,hv,rfl⟩:=ht.val 16 _ 2 rfl (hall 16 (by rw [show obOps.size=17 by kernel_rfl];decide)) rfl
  have hB:Below w.heap.size w w1:=Below.trans ((Below.refl _ _).alloc (Nat.le_refl _) _) (hs.mono (by simp))
  obtain ⟨tm,df⟩:=a
  have hdf:=ht.defers
  simp only at hv hdf
  subst hdf
  go_wp2_with fail
  exact bodyPost_ret (results_tmp (t:=2) (by rfl) _ _ _) rfl ⟨by rw [Array.getD_eq_getD_getElem?,hv];rfl,hB⟩
 ·intro x hx
  simp at hx
  subst hx
  rfl
 ·exact ⟨rfl,rfl,rfl,Nat.le_refl _,fun _ _=>rfl⟩
end Go.Proofs.YtjnkcibpkkjniaaGreat
namespace Go.Proofs.YtjnkcibpkkjniaaGreat
open Go Go.RowKit
open Go.Proofs.YtjnkcibpkkjniaaGreat.Pool (TabP okOps wp_region_lin getD_set)
set_option maxHeartbeats 4000000
set_option maxRecDepth 20000
def cnV (tb sb:Nat) (au ph id:Int):Nat→Value→Prop
 | 0,v=>v=.pointer (some ⟨tb,0,none⟩)
 | 1,v=>v=.pointer (some ⟨tb,0,none⟩)
 | 2,v=>v=.pointer (some ⟨tb,0,none⟩)
 | 3,v=>v=.pointer (some ⟨tb,0,none⟩)
 | 4,v=>v=.pointer (some ⟨sb,0,none⟩)
 | 5,v=>v=.pointer (some ⟨sb,0,none⟩)
 | 6,v=>v=.pointer (some ⟨sb,0,none⟩)
 | 7,v=>v=.int .i64 au
 | 8,v=>v=.pointer (some ⟨tb,0,none⟩)
 | 9,v=>v=.pointer (some ⟨tb,0,none⟩)
 | 10,v=>v=.pointer (some ⟨tb,0,none⟩)
 | 11,v=>v=.pointer (some ⟨sb,0,none⟩)
 | 12,v=>v=.pointer (some ⟨sb,0,none⟩)
 | 13,v=>v=.pointer (some ⟨sb,2,none⟩)
 | 14,v=>v=.pointer (some ⟨sb,3,none⟩)
 | 15,v=>v=.int .i64 ph
 | 16,v=>v=.pointer (some ⟨tb,0,none⟩)
 | 17,v=>v=.pointer (some ⟨tb,0,none⟩)
 | 18,v=>v=.pointer (some ⟨tb,0,none⟩)
 | 19,v=>v=.pointer (some ⟨sb,0,none⟩)
 | 20,v=>v=.pointer (some ⟨sb,0,none⟩)
 | 21,v=>v=.pointer (some ⟨sb,1,none⟩)
 | 22,v=>v=.int .u32 id
 | 23,v=>v=.agg #[.int .i64 au, .int .i64 ph, .int .u32 id]
 | 24,v=>v=.string (strOfNums (msgL 1 (4::(twoL au++(twoL ph++(fourL id++[0]))))))
 | _,_=>True
noncomputable def cnOps:Array Oper:=match Tryz.f147.body with
 | some (.seq _ (.seq _ (.region _ ops _)))=>ops
 | _=>#[]
theorem cn_ok:okOps cnOps [0] 66=true:=by kernel_rfl
theorem cn_size:cnOps.size=26:=by kernel_rfl
def CnS (w0:World) (base tb sb:Nat) (now:Int) (sv:Value) (sent:List Int) (cl ov:Bool) (S:Array Value) (O:List Int) (listed:Array Bool) (w:World):Prop :=
 if listed.getD 25 false=true then ∃ sv',TS w base tb sb now sv' (sent++O) cl ov (S.setIfInBounds 12 (.int .i64 now))∧Rest base tb sb w0 w else TS w base tb sb now sv sent cl ov S∧Rest base tb sb w0 w
section
variable {w0 w:World} {base tb sb:Nat} {now:Int} {sv:Value} {sent:List Int} {cl ov:Bool} {S:Array Value} {O:List Int} {listed:Array Bool}
theorem CnS.pre (h:CnS w0 base tb sb now sv sent cl ov S O listed w) (hl:listed.getD 25 false=false):TS w base tb sb now sv sent cl ov S∧Rest base tb sb w0 w:=by
 unfold CnS at h
 rw [if_neg (by rw [hl];decide)] at h
 exact h
theorem CnS.post (h:CnS w0 base tb sb now sv sent cl ov S O listed w) (hl:25 < listed.size) {w':World} (k:∃ sv',TS w' base tb sb now sv' (sent++O) cl ov (S.setIfInBounds 12 (.int .i64 now))∧Rest base tb sb w0 w'):CnS w0 base tb sb now sv sent cl ov S O (listed.setIfInBounds 25 true) w':=by
 unfold CnS
 rw [if_pos (by rw [getD_set _ _ _ hl];rfl)]
 exact k
theorem CnS.keep (h:CnS w0 base tb sb now sv sent cl ov S O listed w) {i:Nat} (hi:i≠25):CnS w0 base tb sb now sv sent cl ov S O (listed.setIfInBounds i true) w:=by
 unfold CnS at h ⊢
 have e:(listed.setIfInBounds i true).getD 25 false=listed.getD 25 false:=by
  rw [Array.getD_eq_getD_getElem?,Array.getD_eq_getD_getElem?,Array.getElem?_setIfInBounds_ne hi]
 rw [e]
 exact h
theorem CnS.below (h:CnS w0 base tb sb now sv sent cl ov S O listed w) {i:Nat} (hi:i≠25) {w':World} (hB:Below w.heap.size w w'):CnS w0 base tb sb now sv sent cl ov S O (listed.setIfInBounds i true) w':=by
 have k:=h.keep hi
 unfold CnS at k ⊢
 split at k
 ·rename_i e
  rw [if_pos e]
  obtain ⟨sv',k1,k2⟩:=k
  exact ⟨sv',k1.below hB,k2.trans (Rest.below hB k1.lt.2.2)⟩
 ·rename_i e
  rw [if_neg e]
  exact ⟨k.1.below hB,k.2.trans (Rest.below hB k.1.lt.2.2)⟩
theorem CnS.cells (h:CnS w0 base tb sb now sv sent cl ov S O listed w):w.cell? ⟨tb,0,none⟩=some (.pointer (some ⟨sb,0,none⟩))∧∀ i,i≠12→w.cell? ⟨sb,i,none⟩=S[i]?:=by
 unfold CnS at h
 split at h
 ·obtain ⟨sv',k1,k2⟩:=h
  exact ⟨cell_blk k1.t 0,fun i hi=>by rw [cell_blk k1.s i,Array.getElem?_setIfInBounds_ne (Ne.symm hi)]⟩
 ·exact ⟨cell_blk h.1.t 0,fun i hi=>cell_blk h.1.s i⟩
end
theorem cn_hop {Q:Exit→Act→World→Prop} {w0:World} {base tb sb:Nat} {now:Int} {sv:Value} {sent:List Int} {cl ov:Bool} {S:Array Value} {au ph id:Int} (s0:S[0]? = some (.int .i64 au)) (s1:S[1]? = some (.int .u32 id)) (s3:S[3]? = some (.int .i64 ph)) (hsz:S.size=14) (h12:(S[12]'(by omega)).oneCell'=true)
  (hl:sent.length≤60000)
  (i:Nat) (o:Oper) (listed:Array Bool) (a:Act) (w:World) (ho:cnOps[i]? = some o) (hr:i∈Region.ready .any cnOps listed) (ht:TabP cnOps (fun i v _=>cnV tb sb au ph id i v) [(0, .pointer (some ⟨tb,0,none⟩))] 66 listed a w)
  (hsame:CnS w0 base tb sb now sv sent cl ov S (msgL 1 (4::(twoL au++(twoL ph++(fourL id++[0]))))) listed w)
  (K:Act→World→Prop) (hK:∀ v w',cnV tb sb au ph id i v→CnS w0 base tb sb now sv sent cl ov S (msgL 1 (4::(twoL au++(twoL ph++(fourL id++[0]))))) (listed.setIfInBounds i true) w'→K (a.put o.dst v) w'):o.wp Tryz.prog a w K Q:=by
 have hi:i < 26:=by
  have:=(Array.getElem?_eq_some_iff.1 ho).1
  rw [cn_size] at this
  exact this
 have hbO:Bytes (msgL 1 (4::(twoL au++(twoL ph++(fourL id++[0]))))):=msgL_bytes (by omega) (Bytes.cons (by omega) ((twoL_bytes _).app ((twoL_bytes _).app (Bytes.app (by unfold fourL;exact Bytes.cons (by omega) (Bytes.cons (by omega) (Bytes.cons (by omega) (Bytes.cons (by omega) Bytes.nil)))) (Bytes.cons (by omega) Bytes.nil)))))
 have hlO:(msgL 1 (4::(twoL au++(twoL ph++(fourL id++[0]))))).length=29:=by rw [msgL_len];simp [k_2,k_4]
 have f0:a.tmps[0]? = some (.pointer (some ⟨tb,0,none⟩)):=ht.fix (0, .pointer (some ⟨tb,0,none⟩)) (by simp)
 obtain ⟨c0,cs⟩:=hsame.cells
 have e0:=(cs 0 (by decide)).trans s0
 have e1:=(cs 1 (by decide)).trans s1
 have e3:=(cs 3 (by decide)).trans s3
 have hl25sz:25 < listed.size:=by rw [ht.lsz,cn_size];decide
 have hun:listed.getD i false=false:=by
  obtain ⟨hul,_⟩:=mem_ready.1 hr
  have hsz:i < listed.size:=by rw [ht.lsz,cn_size];exact hi
  rw [Array.getD_eq_getD_getElem?,Array.getElem?_eq_getElem hsz] at hul ⊢
  simpa using hul
 have hl25:i=25→listed.getD 25 false=false:=fun e=>e▸hun
 have hdep:∀ (j:Nat) (o':Oper) (d:Nat),cnOps[j]? = some o'→o'.dst=some d→(∃ e∈o.after,e.on=j∧Region.binds .any e=true)→∃ v,a.tmps[d]? = some v∧cnV tb sb au ph id j v:=fun j o' d hj hd he=>ht.dep ho hr hj hd he
 clear hr ht hun cs
 obtain rfl | rfl | rfl | rfl | rfl | rfl | rfl | rfl | rfl | rfl | rfl | rfl | rfl | rfl | rfl | rfl | rfl | rfl | rfl | rfl | rfl | rfl | rfl | rfl | rfl | rfl:i=0∨i=1∨i=2∨i=3∨i=4∨i=5∨i=6∨i=7∨i=8∨i=9∨i=10∨i=11∨i=12∨i=13∨i=14∨i=15∨i=16∨i=17∨i=18∨i=19∨i=20∨i=21∨i=22∨i=23∨i=24∨i=25:=by omega
 all_goals
  simp only [cnOps,Tryz.f147] at ho
  simp only [List.getElem?_toArray,List.getElem?_cons_succ,List.getElem?_cons_zero,Option.some.injEq] at ho
  subst ho
 ·unfold Oper.wp execOp
  simp only [Act.eval,Array.getD_eq_getD_getElem?,f0,Option.getD_some]
  go_simp
  exact hK _ _ rfl (hsame.keep (by decide))
 ·unfold Oper.wp execOp
  simp only [Act.eval,Array.getD_eq_getD_getElem?,f0,Option.getD_some]
  go_simp
  exact hK _ _ rfl (hsame.keep (by decide))
 ·obtain ⟨u0,h0,p0⟩:=hdep 1 _ _ rfl rfl ⟨⟨1, .data⟩,by simp,rfl,rfl⟩
  simp only [cnV] at p0
  subst p0
  unfold Oper.wp execOp
  simp only [Act.eval,Array.getD_eq_getD_getElem?,h0,f0,Option.getD_some]
  go_simp
  exact hK _ _ rfl (hsame.keep (by decide))
 ·obtain ⟨u0,h0,p0⟩:=hdep 2 _ _ rfl rfl ⟨⟨2, .data⟩,by simp,rfl,rfl⟩
  simp only [cnV] at p0
  subst p0
  unfold Oper.wp execOp
  simp only [Act.eval,Array.getD_eq_getD_getElem?,h0,f0,Option.getD_some]
  go_simp
  exact hK _ _ rfl (hsame.keep (by decide))
 ·obtain ⟨u0,h0,p0⟩:=hdep 3 _ _ rfl rfl ⟨⟨3, .data⟩,by simp,rfl,rfl⟩
  simp only [cnV] at p0
  subst p0
  unfold Oper.wp execOp
  simp only [Act.eval,Array.getD_eq_getD_getElem?,h0,f0,Option.getD_some]
  go_simp
  exact hK _ _ rfl (hsame.keep (by decide))
 ·obtain ⟨u0,h0,p0⟩:=hdep 4 _ _ rfl rfl ⟨⟨4, .data⟩,by simp,rfl,rfl⟩
  simp only [cnV] at p0
  subst p0
  unfold Oper.wp execOp
  simp only [Act.eval,Array.getD_eq_getD_getElem?,h0,f0,Option.getD_some]
  go_simp
  exact hK _ _ rfl (hsame.keep (by decide))
 ·obtain ⟨u0,h0,p0⟩:=hdep 5 _ _ rfl rfl ⟨⟨5, .data⟩,by simp,rfl,rfl⟩
  simp only [cnV] at p0
  subst p0
  unfold Oper.wp execOp
  simp only [Act.eval,Array.getD_eq_getD_getElem?,h0,f0,Option.getD_some]
  go_simp
  exact hK _ _ rfl (hsame.keep (by decide))
 ·obtain ⟨u0,h0,p0⟩:=hdep 6 _ _ rfl rfl ⟨⟨6, .data⟩,by simp,rfl,rfl⟩
  simp only [cnV] at p0
  subst p0
  unfold Oper.wp execOp
  simp only [Act.eval,Array.getD_eq_getD_getElem?,h0,f0,Option.getD_some]
  go_simp
  exact hK _ _ rfl (hsame.keep (by decide))
 ·unfold Oper.wp execOp
  simp only [Act.eval,Array.getD_eq_getD_getElem?,f0,Option.getD_some]
  go_simp
  exact hK _ _ rfl (hsame.keep (by decide))
 ·obtain ⟨u0,h0,p0⟩:=hdep 8 _ _ rfl rfl ⟨⟨8, .data⟩,by simp,rfl,rfl⟩
  simp only [cnV] at p0
  subst p0
  unfold Oper.wp execOp
  simp only [Act.eval,Array.getD_eq_getD_getElem?,h0,f0,Option.getD_some]
  go_simp
  exact hK _ _ rfl (hsame.keep (by decide))
 ·obtain ⟨u0,h0,p0⟩:=hdep 9 _ _ rfl rfl ⟨⟨9, .data⟩,by simp,rfl,rfl⟩
  simp only [cnV] at p0
  subst p0
  unfold Oper.wp execOp
  simp only [Act.eval,Array.getD_eq_getD_getElem?,h0,f0,Option.getD_some]
  go_simp
  exact hK _ _ rfl (hsame.keep (by decide))
 ·obtain ⟨u0,h0,p0⟩:=hdep 10 _ _ rfl rfl ⟨⟨10, .data⟩,by simp,rfl,rfl⟩
  simp only [cnV] at p0
  subst p0
  unfold Oper.wp execOp
  simp only [Act.eval,Array.getD_eq_getD_getElem?,h0,f0,Option.getD_some]
  go_simp
  exact hK _ _ rfl (hsame.keep (by decide))
 ·obtain ⟨u0,h0,p0⟩:=hdep 11 _ _ rfl rfl ⟨⟨11, .data⟩,by simp,rfl,rfl⟩
  simp only [cnV] at p0
  subst p0
  unfold Oper.wp execOp
  simp only [Act.eval,Array.getD_eq_getD_getElem?,h0,f0,Option.getD_some]
  go_simp
  exact hK _ _ rfl (hsame.keep (by decide))
 ·obtain ⟨u0,h0,p0⟩:=hdep 12 _ _ rfl rfl ⟨⟨12, .data⟩,by simp,rfl,rfl⟩
  simp only [cnV] at p0
  subst p0
  unfold Oper.wp execOp
  simp only [Act.eval,Array.getD_eq_getD_getElem?,h0,f0,Option.getD_some]
  go_simp
  exact hK _ _ rfl (hsame.keep (by decide))
 ·obtain ⟨u0,h0,p0⟩:=hdep 13 _ _ rfl rfl ⟨⟨13, .data⟩,by simp,rfl,rfl⟩
  simp only [cnV] at p0
  subst p0
  unfold Oper.wp execOp
  simp only [Act.eval,Array.getD_eq_getD_getElem?,h0,f0,Option.getD_some]
  go_simp
  exact hK _ _ rfl (hsame.keep (by decide))
 ·obtain ⟨u0,h0,p0⟩:=hdep 14 _ _ rfl rfl ⟨⟨14, .data⟩,by simp,rfl,rfl⟩
  simp only [cnV] at p0
  subst p0
  unfold Oper.wp execOp
  simp only [Act.eval,Array.getD_eq_getD_getElem?,h0,f0,Option.getD_some]
  go_simp
  exact hK _ _ rfl (hsame.keep (by decide))
 ·unfold Oper.wp execOp
  simp only [Act.eval,Array.getD_eq_getD_getElem?,f0,Option.getD_some]
  go_simp
  exact hK _ _ rfl (hsame.keep (by decide))
 ·obtain ⟨u0,h0,p0⟩:=hdep 16 _ _ rfl rfl ⟨⟨16, .data⟩,by simp,rfl,rfl⟩
  simp only [cnV] at p0
  subst p0
  unfold Oper.wp execOp
  simp only [Act.eval,Array.getD_eq_getD_getElem?,h0,f0,Option.getD_some]
  go_simp
  exact hK _ _ rfl (hsame.keep (by decide))
 ·obtain ⟨u0,h0,p0⟩:=hdep 17 _ _ rfl rfl ⟨⟨17, .data⟩,by simp,rfl,rfl⟩
  simp only [cnV] at p0
  subst p0
  unfold Oper.wp execOp
  simp only [Act.eval,Array.getD_eq_getD_getElem?,h0,f0,Option.getD_some]
  go_simp
  exact hK _ _ rfl (hsame.keep (by decide))
 ·obtain ⟨u0,h0,p0⟩:=hdep 18 _ _ rfl rfl ⟨⟨18, .data⟩,by simp,rfl,rfl⟩
  simp only [cnV] at p0
  subst p0
  unfold Oper.wp execOp
  simp only [Act.eval,Array.getD_eq_getD_getElem?,h0,f0,Option.getD_some]
  go_simp
  exact hK _ _ rfl (hsame.keep (by decide))
 ·obtain ⟨u0,h0,p0⟩:=hdep 19 _ _ rfl rfl ⟨⟨19, .data⟩,by simp,rfl,rfl⟩
  simp only [cnV] at p0
  subst p0
  unfold Oper.wp execOp
  simp only [Act.eval,Array.getD_eq_getD_getElem?,h0,f0,Option.getD_some]
  go_simp
  exact hK _ _ rfl (hsame.keep (by decide))
 ·obtain ⟨u0,h0,p0⟩:=hdep 20 _ _ rfl rfl ⟨⟨20, .data⟩,by simp,rfl,rfl⟩
  simp only [cnV] at p0
  subst p0
  unfold Oper.wp execOp
  simp only [Act.eval,Array.getD_eq_getD_getElem?,h0,f0,Option.getD_some]
  go_simp
  exact hK _ _ rfl (hsame.keep (by decide))
 ·obtain ⟨u0,h0,p0⟩:=hdep 21 _ _ rfl rfl ⟨⟨21, .data⟩,by simp,rfl,rfl⟩
  simp only [cnV] at p0
  subst p0
  unfold Oper.wp execOp
  simp only [Act.eval,Array.getD_eq_getD_getElem?,h0,f0,Option.getD_some]
  go_simp
  exact hK _ _ rfl (hsame.keep (by decide))
 ·obtain ⟨u0,h0,p0⟩:=hdep 7 _ _ rfl rfl ⟨⟨7, .data⟩,by simp,rfl,rfl⟩
  simp only [cnV] at p0
  subst p0
  obtain ⟨u1,h1,p1⟩:=hdep 15 _ _ rfl rfl ⟨⟨15, .data⟩,by simp,rfl,rfl⟩
  simp only [cnV] at p1
  subst p1
  obtain ⟨u2,h2,p2⟩:=hdep 22 _ _ rfl rfl ⟨⟨22, .data⟩,by simp,rfl,rfl⟩
  simp only [cnV] at p2
  subst p2
  unfold Oper.wp execOp
  simp only [Act.eval,Array.getD_eq_getD_getElem?,h0,h1,h2,f0,Option.getD_some]
  go_simp
  exact hK _ _ rfl (hsame.keep (by decide))
 ·obtain ⟨u0,h0,p0⟩:=hdep 23 _ _ rfl rfl ⟨⟨23, .data⟩,by simp,rfl,rfl⟩
  simp only [cnV] at p0
  subst p0
  unfold Oper.wp execOp
  simp only [Act.eval,Array.getD_eq_getD_getElem?,h0,f0,Option.getD_some]
  go_simp
  refine (openBytes_any au ph id w).mono ?_
  rintro e w1 ⟨rfl,hB⟩
  exact hK _ _ rfl (hsame.below (by decide) hB)
 ·obtain ⟨u0,h0,p0⟩:=hdep 0 _ _ rfl rfl ⟨⟨0, .data⟩,by simp,rfl,rfl⟩
  simp only [cnV] at p0
  subst p0
  obtain ⟨u1,h1,p1⟩:=hdep 24 _ _ rfl rfl ⟨⟨24, .data⟩,by simp,rfl,rfl⟩
  simp only [cnV] at p1
  subst p1
  unfold Oper.wp execOp
  simp only [Act.eval,Array.getD_eq_getD_getElem?,h0,h1,f0,Option.getD_some]
  go_simp
  have hP:=hsame.pre (hl25 rfl)
  refine (send_any hP.1 (u:=S[12]) (Array.getElem?_eq_getElem (by omega)) h12 hbO (by omega)).mono ?_
  rintro e w1 ⟨⟨v,rfl⟩,sv1,hT1,hR1⟩
  exact hK _ _ trivial (hsame.post hl25sz ⟨sv1,hT1,hP.2.trans hR1⟩)
end Go.Proofs.YtjnkcibpkkjniaaGreat
