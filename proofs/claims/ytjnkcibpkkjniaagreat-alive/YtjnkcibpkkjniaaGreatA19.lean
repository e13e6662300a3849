import Derived.Test.YtjnkcibpkkjniaaGreatA17
set_option linter.unusedVariables false
set_option linter.unusedSimpArgs false
set_option linter.unusedSectionVars false
namespace Go.Proofs.YtjnkcibpkkjniaaGreat
open Go Go.RowKit
set_option maxHeartbeats 1600000
set_option maxRecDepth 20000
theorem next_rest {w:World} {base tb sb:Nat} {now:Int} {sv:Value} {sent:List Int} {cl ov:Bool} {S:Array Value} {pv:Value} {xs:List Int} (h:TP w base tb sb now sv sent cl ov S pv xs) (hS:S.size=14) (hh:HdOk xs 29 1) {d:List Int} (hd:Bytes d) (hl:10≤d.length) (hl2:d.length≤100000) :
  Calls Tryz.prog 156 #[.pointer (some ⟨sb,13,none⟩), .string (strOfNums d)] w fun e w'=>e=.returned (.tuple #[.string (strOfNums (d.drop 10)), .agg #[.int .i64 1, .string (strOfNums (d.take 10))], .bool true])∧∃ g c,TP w' base tb sb now sv sent cl ov (S.setIfInBounds 13 (.slice (some ⟨g,0,none⟩) 0 c)) (.slice (some ⟨g,0,none⟩) 0 c) []∧Rest base tb sb w w':=by
 have HN:Hid (NX w (w.alloc (.cells #[.int .i64 0, .string (strOfNums [])] 247)) base tb sb w.heap.size now sv sent cl ov S pv xs #[.int .i64 0, .string (strOfNums [])]):=NX.start h _
 have HS:Hid (S.size=14):=hS
 have HH:Hid (HdOk xs 29 1):=hh
 have Hlx:Hid (xs.length=19):=hh.len
 have HT:Hid ((d.take 10).length=10):=by show _=_;rw [List.length_take];omega
 have HB:Hid (Bytes (d.take 10)):=fun x hx=>hd x (List.mem_of_mem_take hx)
 have HW1:Hid (Calls Tryz.prog 166 #[.pointer (some ⟨sb,13,none⟩)] (w.alloc (.cells #[.int .i64 0, .string (strOfNums [])] 247)) fun e w'=>e=.returned (.int .i64 10)∧∃ m,w'=(w.alloc (.cells #[.int .i64 0, .string (strOfNums [])] 247)).drewN m):=by
  have:=wanted_more (xs:=xs) HN.out.c13.1 HN.out.tp.own hh.bytes (by rw [hh.len];exact Nat.le_refl _) (by rw [hh.len];decide)
  rw [hh.want] at this
  exact this
 have kz:=strOfNums_size
 have ks:(strOfNums d).extract 0 10=strOfNums (d.take 10):=by rw [S_sub];simp
 have ks2:(strOfNums d).extract 10 d.length=strOfNums (d.drop 10):=by
  rw [S_sub]
  congr 1
  exact List.take_of_length_le (by simp)
 have kd:¬ ((d.length:Int) < 10):=by omega
 have kd2:min (10:Int) (d.length:Int)=10:=by omega
 obtain ⟨i0,hi,hz0,hz1,hz2⟩:=info_u8
 have HZQ:Hid (∀ u∈(Value.int .u8 0).cells.toList,Pl u):=fun u hu=>by simp [Value.cells] at hu;subst hu;exact Pl.int _ _
 have HI:Hid (Tryz.prog.info? 5=some i0):=hi
 have HZ:Hid (i0.zero=some (.int .u8 0)∧i0.size=1∧i0.bytes=1):=⟨hz0,hz1,hz2⟩
 clear h hS hh hi hz0 hz1 hz2 hd
 go_enter Tryz.func156,Tryz.ntmps156
 go_wp2_with (go_at_call 166;go_loud (refine HW1.out.mono ?_);go_loud (rintro e w1 ⟨rfl,m,hw⟩);go_loud (have H1:Hid (NX w w1 base tb sb w.heap.size now sv sent cl ov S pv xs #[.int .i64 0, .string (strOfNums [])]):=by rw [hw];exact HN.out.drewN m);go_loud (obtain ⟨c13,z13⟩:=H1.out.c13);clear hw)
 go_region_law (go_loud (refine step_append_string rfl (.tmp 17) (.tmp 20) 86 9 rfl base 5 i0 (.int .u8 0) Tryz.underlying86 Tryz.underlying9 HI.out HZ.out.1 HZ.out.2.1 HZ.out.2.2 rfl pv xs.length (cellsOf xs) (by simp [Act.eval,Act.put]) (by repeat (first | exact H1.out.tp.own | refine World.ownsRow.drew ?_)) (d.take 10) (by simp [Act.eval,Act.put]) HB.out (by rw [HT.out,Hlx.out];decide) (by have:=H1.out.tp.ts.lt.2.2;simp;omega) HZQ.out (H1.out.tp.pl) ?_);go_loud (intro v' w2 hown2 hg2 hv2 hq2);go_loud (obtain ⟨ao,cp,rfl,_⟩:=own_slice hown2);go_loud (obtain ⟨d13,y13⟩:=NX.grownC H1.out.drew hg2);go_loud (have H2:Hid (NX w (w2.setCell ⟨sb,13,none⟩ (.slice ao (xs.length+(d.take 10).length) cp)) base tb sb w.heap.size now sv sent cl ov (S.setIfInBounds 13 (.slice ao (xs.length+(d.take 10).length) cp)) (.slice ao (xs.length+(d.take 10).length) cp) (xs++d.take 10) #[.int .i64 0, .string (strOfNums [])]):=NX.taken H1.out.drew HS.out hown2 hg2 hv2 hq2);clear hown2 hg2 hv2 hq2)
 have e29:xs.length+10=29:=by rw [Hlx.out]
 rw [HT.out,e29] at H2
 rw [e29]
 have H3:=H2.out
 have hY:(xs++d.take 10).length=29:=by rw [List.length_append,HT.out,Hlx.out]
 have hYt:(xs++d.take 10).take 19=xs:=by rw [←Hlx.out,List.take_left]
 have hYd:(xs++d.take 10).drop 19=d.take 10:=by rw [←Hlx.out,List.drop_left]
 have hYb:Bytes (xs++d.take 10):=HH.out.bytes.app HB.out
 have hY2:wantL (xs++d.take 10)=0:=by
  unfold wantL
  rw [if_neg (by omega),←lenL_take _ (by omega),hYt,HH.out.nn,hY]
  rfl
 clear H2 H1 c13 z13 d13 y13 HW1 HN HI HZ
 generalize hYY:xs++d.take 10=Y at H3 hY hYt hYd hYb hY2
 obtain ⟨g,c,e,hc,hcell⟩:=own_open H3.tp.own (by omega)
 rw [hY] at e
 cases e
 generalize (w2.setCell ⟨sb,13,none⟩ (.slice (some ⟨g,0,none⟩) 29 cp))=w3 at H3 hcell ⊢
 obtain ⟨c13,z13⟩:=H3.c13
 have HW2:Hid (Calls Tryz.prog 166 #[.pointer (some ⟨sb,13,none⟩)] w3 fun e w'=>e=.returned (.int .i64 0)∧∃ m,w'=w3.drewN m):=by
  have:=wanted_more (xs:=Y) c13 H3.tp.own hYb (by omega) (by omega)
  rw [hY2] at this
  exact this
 have H3':Hid (NX w w3 base tb sb w.heap.size now sv sent cl ov (S.setIfInBounds 13 (.slice (some ⟨g,0,none⟩) 29 cp)) (.slice (some ⟨g,0,none⟩) 29 cp) Y #[.int .i64 0, .string (strOfNums [])]):=H3
 have HK:Hid (∀ w,Calls Tryz.prog 169 #[.string (strOfNums xs)] w fun e w'=>e=.returned (.int .i64 1)∧w'=w):=fun w=>kindOf_any xs HH.out.bytes 1 HH.out.kk w
 clear H3 hcell
 go_wp2_with (go_at_call 166;go_loud (refine HW2.out.mono ?_);go_loud (rintro e w4 ⟨rfl,m4,hw4⟩);go_loud (have H4:Hid (NX w w4 base tb sb w.heap.size now sv sent cl ov (S.setIfInBounds 13 (.slice (some ⟨g,0,none⟩) 29 cp)) (.slice (some ⟨g,0,none⟩) 29 cp) Y #[.int .i64 0, .string (strOfNums [])]):=by rw [hw4];exact H3'.out.drewN m4);clear hw4)
 obtain ⟨b13,x13⟩:=H4.out.c13
 have n0:=cell_blk H4.out.m 0
 have n1:=cell_blk H4.out.m 1
 have q0:=frozen_blk H4.out.m 0
 have q1:=frozen_blk H4.out.m 1
 simp at n0 n1
 have HHd:Hid (∀ m,Calls Tryz.prog 168 #[.pointer (some ⟨sb,13,none⟩)] (w4.drewN m) fun e w'=>e=.returned (.string (strOfNums xs))∧w'=w4.drewN m):=fun m=>by
  have k:=H4.out.drewN m
  have:=head_any (xs:=Y) k.c13.1 k.tp.own (by omega)
  rw [hYt] at this
  exact this
 have HCv:∀ m,(convert 86 9 (.slice (some ⟨g,19,none⟩) 10 (cp - 19))).run Tryz.prog (w4.drewN m)=.ok (.string (strOfNums (d.take 10))) (w4.drewN m):=fun m=>by
  obtain ⟨g',c',e',hc',hcell'⟩:=own_open H4.out.tp.own (by omega)
  rw [hY] at e'
  cases e'
  refine run_convert_bytes_arg (w4.drewN m) 86 5 Tryz.underlying86 Tryz.underlying5 g 19 10 (cp - 19) (d.take 10) HT.out (fun i hi=>?_) 9 Tryz.underlying9
  have h1:=hcell' (19+i) (by omega)
  have h2:(d.take 10)[i]? = Y[19+i]?:=by rw [←hYd,List.getElem?_drop]
  have hTi:i < (d.take 10).length:=by rw [HT.out];exact hi
  have hYi:19+i < Y.length:=by omega
  rw [List.getElem?_eq_getElem hTi,List.getElem?_eq_getElem hYi] at h2
  have h3:=Option.some.inj h2
  rw [show (w4.drewN m).cell? ⟨g,19+i,none⟩=w4.cell? ⟨g,19+i,none⟩ from rfl,h1,←h3]
  simp [List.getD,List.getElem?_eq_getElem hTi]
 have HCv1:(convert 86 9 (.slice (some ⟨g,19,none⟩) 10 (cp - 19))).run Tryz.prog w4.drew=.ok (.string (strOfNums (d.take 10))) w4.drew:=HCv 1
 have HCv2:=HCv 1
 have hc19:¬ cp=19:=by omega
 clear HCv HW2 H3'
 go_region_with (first
  | (go_at_call 168;go_loud (refine (HHd.out 1).mono ?_);go_loud (rintro e w5 ⟨rfl,rfl⟩))
  | (go_at_call 169;go_loud (refine (HK.out _).mono ?_);go_loud (rintro e w5 ⟨rfl,rfl⟩)))
 all_goals
  have k5:=((H4.out.drewN 1).setM 0 (.int .i64 1)).setM 1 (.string (strOfNums (d.take 10)))
  clear H4 HHd n0 n1 q0 q1 b13 x13
  simp only [List.setIfInBounds_toArray,List.set_cons_zero,List.set_cons_succ] at k5
  generalize (((w4.drewN 1).setCell ⟨w.heap.size,0,none⟩ (.int .i64 1)).setCell ⟨w.heap.size,1,none⟩ (.string (strOfNums (d.take 10))))=w5 at k5 ⊢
  obtain ⟨b13,x13⟩:=k5.c13
  have n0:=cell_blk k5.m 0
  have n1:=cell_blk k5.m 1
  have q0:=frozen_blk k5.m 0
  have q1:=frozen_blk k5.m 1
  simp at n0 n1
  have K5:Hid (NX w w5 base tb sb w.heap.size now sv sent cl ov _ _ Y #[.int .i64 1, .string (strOfNums (d.take 10))]):=k5
  clear k5
  go_wp2_with fail
 all_goals
  have k6:=K5.out.emptied (by rw [Array.size_setIfInBounds];exact HS.out) (g:=g) (c:=cp) (by rw [hY])
  rw [Array.setIfInBounds_setIfInBounds] at k6
  clear K5 n0 n1 q0 q1 b13 x13 HCv1 HCv2
  generalize (w5.setCell ⟨sb,13,none⟩ (.slice (some ⟨g,0,none⟩) 0 cp))=w6 at k6 ⊢
  have n0:=cell_blk k6.m 0
  have n1:=cell_blk k6.m 1
  have q0:=frozen_blk k6.m 0
  have q1:=frozen_blk k6.m 1
  simp at n0 n1
  have K6:Hid (NX w w6 base tb sb w.heap.size now sv sent cl ov _ _ [] #[.int .i64 1, .string (strOfNums (d.take 10))]):=k6
  clear k6
  go_region
 all_goals
  have k7:=((K6.out.setM 0 (.int .i64 1)).setM 1 (.string (strOfNums (d.take 10)))).drew
  clear K6 n0 n1 q0 q1
  simp only [List.setIfInBounds_toArray,List.set_cons_zero,List.set_cons_succ] at k7
  generalize (((w6.setCell ⟨w.heap.size,0,none⟩ (.int .i64 1)).setCell ⟨w.heap.size,1,none⟩ (.string (strOfNums (d.take 10))))).drew=w7 at k7 ⊢
  have n0:=cell_blk k7.m 0
  have n1:=cell_blk k7.m 1
  simp at n0 n1
  go_wp2_with fail
  refine bodyPost_ret (v:=.tuple #[.string (strOfNums (d.drop 10)), .agg #[.int .i64 1, .string (strOfNums (d.take 10))], .bool true]) (by simp [results,Tryz.results156,go_sem,n0,n1]) rfl ⟨rfl,_,_,k7.tp,k7.rest⟩
end Go.Proofs.YtjnkcibpkkjniaaGreat
