import Derived.Test.YtjnkcibpkkjniaaGreatA19
set_option linter.unusedVariables false
set_option linter.unusedSimpArgs false
set_option linter.unusedSectionVars false
namespace Go.Proofs.YtjnkcibpkkjniaaGreat
open Go Go.RowKit
set_option maxHeartbeats 1600000
set_option maxRecDepth 20000
theorem conv0 (b o c:Nat) (w:World):(convert 86 9 (.slice (some ⟨b,o,none⟩) 0 c)).run Tryz.prog w=.ok (.string (strOfNums [])) w :=
 run_convert_bytes_arg w 86 5 Tryz.underlying86 Tryz.underlying5 b o 0 c [] rfl (fun i hi=>absurd hi (Nat.not_lt_zero i)) 9 Tryz.underlying9
theorem next_alive {w:World} {base tb sb:Nat} {now:Int} {sv:Value} {sent:List Int} {cl ov:Bool} {S:Array Value} {pv:Value} (h:TP w base tb sb now sv sent cl ov S pv []) (hS:S.size=14) {d:List Int} (hl:19≤d.length) (hl2:d.length≤100000) (hh:HdOk (d.take 19) 19 4) :
  Calls Tryz.prog 156 #[.pointer (some ⟨sb,13,none⟩), .string (strOfNums d)] w fun e w'=>e=.returned (.tuple #[.string (strOfNums (d.drop 19)), .agg #[.int .i64 4, .string (strOfNums [])], .bool true])∧∃ g c,TP w' base tb sb now sv sent cl ov (S.setIfInBounds 13 (.slice (some ⟨g,0,none⟩) 0 c)) (.slice (some ⟨g,0,none⟩) 0 c) []∧Rest base tb sb w w':=by
 have HN:Hid (NX w (w.alloc (.cells #[.int .i64 0, .string (strOfNums [])] 247)) base tb sb w.heap.size now sv sent cl ov S pv [] #[.int .i64 0, .string (strOfNums [])]):=NX.start h _
 have HS:Hid (S.size=14):=hS
 have HH:Hid (HdOk (d.take 19) 19 4):=hh
 have Hl:Hid (19≤d.length):=hl
 have HW1:Hid (Calls Tryz.prog 166 #[.pointer (some ⟨sb,13,none⟩)] (w.alloc (.cells #[.int .i64 0, .string (strOfNums [])] 247)) fun e w'=>e=.returned (.int .i64 19)∧∃ m,w'=(w.alloc (.cells #[.int .i64 0, .string (strOfNums [])] 247)).drewN m):=wanted_less (xs:=[]) HN.out.c13.1 HN.out.tp.own (by simp)
 have kz:=strOfNums_size
 have ks:(strOfNums d).extract 0 19=strOfNums (d.take 19):=by rw [S_sub];simp
 have ks2:(strOfNums d).extract 19 d.length=strOfNums (d.drop 19):=by
  rw [S_sub]
  congr 1
  exact List.take_of_length_le (by simp)
 have kd:¬ ((d.length:Int) < 19):=by omega
 have kd2:min (19:Int) (d.length:Int)=19:=by omega
 obtain ⟨i0,hi,hz0,hz1,hz2⟩:=info_u8
 have HZQ:Hid (∀ u∈(Value.int .u8 0).cells.toList,Pl u):=fun u hu=>by simp [Value.cells] at hu;subst hu;exact Pl.int _ _
 have HI:Hid (Tryz.prog.info? 5=some i0):=hi
 have HZ:Hid (i0.zero=some (.int .u8 0)∧i0.size=1∧i0.bytes=1):=⟨hz0,hz1,hz2⟩
 clear h hS hh hi hz0 hz1 hz2
 go_enter Tryz.func156,Tryz.ntmps156
 go_wp2_with (go_at_call 166;go_loud (refine HW1.out.mono ?_);go_loud (rintro e w1 ⟨rfl,m,hw⟩);go_loud (have H1:Hid (NX w w1 base tb sb w.heap.size now sv sent cl ov S pv [] #[.int .i64 0, .string (strOfNums [])]):=by rw [hw];exact HN.out.drewN m);go_loud (obtain ⟨c13,z13⟩:=H1.out.c13);clear hw)
 have HB:Hid (Bytes (d.take 19)):=HH.out.bytes
 have HL19:Hid ((d.take 19).length=19):=HH.out.len
 go_region_law (go_loud (refine step_append_string rfl (.tmp 17) (.tmp 20) 86 9 rfl base 5 i0 (.int .u8 0) Tryz.underlying86 Tryz.underlying9 HI.out HZ.out.1 HZ.out.2.1 HZ.out.2.2 rfl pv 0 (cellsOf []) (by simp [Act.eval,Act.put]) (by repeat (first | exact H1.out.tp.own | refine World.ownsRow.drew ?_)) (d.take 19) (by simp [Act.eval,Act.put]) HB.out (by rw [HL19.out];decide) (by have:=H1.out.tp.ts.lt.2.2;simp;omega) HZQ.out (H1.out.tp.pl) ?_);go_loud (intro v' w2 hown2 hg2 hv2 hq2);go_loud (obtain ⟨ao,cp,rfl,_⟩:=own_slice hown2);go_loud (obtain ⟨d13,y13⟩:=NX.grownC H1.out.drew hg2);go_loud (have H2:Hid (NX w (w2.setCell ⟨sb,13,none⟩ (.slice ao (0+(d.take 19).length) cp)) base tb sb w.heap.size now sv sent cl ov (S.setIfInBounds 13 (.slice ao (0+(d.take 19).length) cp)) (.slice ao (0+(d.take 19).length) cp) ([]++d.take 19) #[.int .i64 0, .string (strOfNums [])]):=NX.taken (xs:=[]) H1.out.drew HS.out hown2 hg2 hv2 hq2);clear hown2 hg2 hv2 hq2)
 have e19:0+(d.take 19).length=19:=by rw [HL19.out]
 rw [e19] at H2
 rw [List.nil_append] at H2
 have H3:=H2.out
 have hY:(d.take 19).length=19:=HL19.out
 have hYt:(d.take 19).take 19=d.take 19:=by rw [List.take_take];rfl
 have hYb:Bytes (d.take 19):=HH.out.bytes
 have hY2:wantL (d.take 19)=0:=by rw [HH.out.want];rfl
 clear H2 H1 c13 z13 d13 y13 HW1 HN HI HZ
 obtain ⟨g,c,e,hc,hcell⟩:=own_open H3.tp.own (by omega)
 rw [hY] at e
 cases e
 generalize (w2.setCell ⟨sb,13,none⟩ (.slice (some ⟨g,0,none⟩) 19 cp))=w3 at H3 hcell ⊢
 obtain ⟨c13,z13⟩:=H3.c13
 have HW2:Hid (Calls Tryz.prog 166 #[.pointer (some ⟨sb,13,none⟩)] w3 fun e w'=>e=.returned (.int .i64 0)∧∃ m,w'=w3.drewN m):=by
  have:=wanted_more (xs:=d.take 19) c13 H3.tp.own hYb (by omega) (by omega)
  rw [hY2] at this
  exact this
 have H3':Hid (NX w w3 base tb sb w.heap.size now sv sent cl ov (S.setIfInBounds 13 (.slice (some ⟨g,0,none⟩) 19 cp)) (.slice (some ⟨g,0,none⟩) 19 cp) (d.take 19) #[.int .i64 0, .string (strOfNums [])]):=H3
 have HK:Hid (∀ w,Calls Tryz.prog 169 #[.string (strOfNums (d.take 19))] w fun e w'=>e=.returned (.int .i64 4)∧w'=w):=fun w=>kindOf_any (d.take 19) HH.out.bytes 4 HH.out.kk w
 have HHd0:Hid (Calls Tryz.prog 168 #[.pointer (some ⟨sb,13,none⟩)] w3 fun e w'=>e=.returned (.string (strOfNums (d.take 19)))∧w'=w3):=by
  have:=head_any (xs:=d.take 19) c13 H3.tp.own (by omega)
  rw [hYt] at this
  exact this
 have HCk:Hid (Calls Tryz.prog 167 #[.string (strOfNums (d.take 19))] w3 fun e w'=>(∃ v,e=.returned v)∧w'=w3):=checkHeader_any HH.out w3
 clear H3 hcell
 go_wp2_with (first
  | (go_at_call 168;go_loud (refine HHd0.out.mono ?_);go_loud (rintro e w4 ⟨rfl,rfl⟩))
  | (go_at_call 167;go_loud (refine HCk.out.mono ?_);go_loud (rintro e w4 ⟨⟨v4,rfl⟩,rfl⟩))
  | (go_at_call 166;go_loud (refine HW2.out.mono ?_);go_loud (rintro e w4 ⟨rfl,m4,hw4⟩);go_loud (have H4:Hid (NX w w4 base tb sb w.heap.size now sv sent cl ov (S.setIfInBounds 13 (.slice (some ⟨g,0,none⟩) 19 cp)) (.slice (some ⟨g,0,none⟩) 19 cp) (d.take 19) #[.int .i64 0, .string (strOfNums [])]):=by rw [hw4];exact H3'.out.drewN m4);clear hw4))
 obtain ⟨b13,x13⟩:=H4.out.c13
 have n0:=cell_blk H4.out.m 0
 have n1:=cell_blk H4.out.m 1
 have q0:=frozen_blk H4.out.m 0
 have q1:=frozen_blk H4.out.m 1
 simp at n0 n1
 have HHd:Hid (∀ m,Calls Tryz.prog 168 #[.pointer (some ⟨sb,13,none⟩)] (w4.drewN m) fun e w'=>e=.returned (.string (strOfNums (d.take 19)))∧w'=w4.drewN m):=fun m=>by
  have k:=H4.out.drewN m
  have:=head_any (xs:=d.take 19) k.c13.1 k.tp.own (by omega)
  rw [hYt] at this
  exact this
 have HCv:=conv0
 clear HW2 H3'
 by_cases hc19:cp=19
 ·subst hc19
  go_region_with (first
   | (go_at_call 168;go_loud (refine (HHd.out 1).mono ?_);go_loud (rintro e w5 ⟨rfl,rfl⟩))
   | (go_at_call 169;go_loud (refine (HK.out _).mono ?_);go_loud (rintro e w5 ⟨rfl,rfl⟩)))
  all_goals
   have k5:=((H4.out.drewN 1).setM 0 (.int .i64 4)).setM 1 (.string (strOfNums []))
   clear H4 HHd n0 n1 q0 q1 b13 x13
   simp only [List.setIfInBounds_toArray,List.set_cons_zero,List.set_cons_succ] at k5
   generalize (((w4.drewN 1).setCell ⟨w.heap.size,0,none⟩ (.int .i64 4)).setCell ⟨w.heap.size,1,none⟩ (.string (strOfNums [])))=w5 at k5 ⊢
   obtain ⟨b13,x13⟩:=k5.c13
   have n0:=cell_blk k5.m 0
   have n1:=cell_blk k5.m 1
   have q0:=frozen_blk k5.m 0
   have q1:=frozen_blk k5.m 1
   simp at n0 n1
   have K5:Hid (NX w w5 base tb sb w.heap.size now sv sent cl ov _ _ (d.take 19) #[.int .i64 4, .string (strOfNums [])]):=k5
   clear k5
   go_wp2_with fail
  all_goals
   have k6:=K5.out.emptied (by rw [Array.size_setIfInBounds];exact HS.out) (g:=g) (c:=19) (by rw [hY])
   rw [Array.setIfInBounds_setIfInBounds] at k6
   clear K5 n0 n1 q0 q1 b13 x13
   generalize (w5.setCell ⟨sb,13,none⟩ (.slice (some ⟨g,0,none⟩) 0 19))=w6 at k6 ⊢
   have n0:=cell_blk k6.m 0
   have n1:=cell_blk k6.m 1
   have q0:=frozen_blk k6.m 0
   have q1:=frozen_blk k6.m 1
   simp at n0 n1
   have K6:Hid (NX w w6 base tb sb w.heap.size now sv sent cl ov _ _ [] #[.int .i64 4, .string (strOfNums [])]):=k6
   clear k6
   go_region
  all_goals
   have k7:=((K6.out.setM 0 (.int .i64 4)).setM 1 (.string (strOfNums []))).drew
   clear K6 n0 n1 q0 q1
   simp only [List.setIfInBounds_toArray,List.set_cons_zero,List.set_cons_succ] at k7
   generalize (((w6.setCell ⟨w.heap.size,0,none⟩ (.int .i64 4)).setCell ⟨w.heap.size,1,none⟩ (.string (strOfNums [])))).drew=w7 at k7 ⊢
   have n0:=cell_blk k7.m 0
   have n1:=cell_blk k7.m 1
   simp at n0 n1
   go_wp2_with fail
   refine bodyPost_ret (v:=.tuple #[.string (strOfNums (d.drop 19)), .agg #[.int .i64 4, .string (strOfNums [])], .bool true]) (by simp [results,Tryz.results156,go_sem,n0,n1]) rfl ⟨rfl,_,_,k7.tp,k7.rest⟩
 ·go_region_with (first
   | (go_at_call 168;go_loud (refine (HHd.out 1).mono ?_);go_loud (rintro e w5 ⟨rfl,rfl⟩))
   | (go_at_call 169;go_loud (refine (HK.out _).mono ?_);go_loud (rintro e w5 ⟨rfl,rfl⟩)))
  all_goals
   have k5:=((H4.out.drewN 1).setM 0 (.int .i64 4)).setM 1 (.string (strOfNums []))
   clear H4 HHd n0 n1 q0 q1 b13 x13
   simp only [List.setIfInBounds_toArray,List.set_cons_zero,List.set_cons_succ] at k5
   generalize (((w4.drewN 1).setCell ⟨w.heap.size,0,none⟩ (.int .i64 4)).setCell ⟨w.heap.size,1,none⟩ (.string (strOfNums [])))=w5 at k5 ⊢
   obtain ⟨b13,x13⟩:=k5.c13
   have n0:=cell_blk k5.m 0
   have n1:=cell_blk k5.m 1
   have q0:=frozen_blk k5.m 0
   have q1:=frozen_blk k5.m 1
   simp at n0 n1
   have K5:Hid (NX w w5 base tb sb w.heap.size now sv sent cl ov _ _ (d.take 19) #[.int .i64 4, .string (strOfNums [])]):=k5
   clear k5
   go_wp2_with fail
  all_goals
   have k6:=K5.out.emptied (by rw [Array.size_setIfInBounds];exact HS.out) (g:=g) (c:=cp) (by rw [hY])
   rw [Array.setIfInBounds_setIfInBounds] at k6
   clear K5 n0 n1 q0 q1 b13 x13
   generalize (w5.setCell ⟨sb,13,none⟩ (.slice (some ⟨g,0,none⟩) 0 cp))=w6 at k6 ⊢
   have n0:=cell_blk k6.m 0
   have n1:=cell_blk k6.m 1
   have q0:=frozen_blk k6.m 0
   have q1:=frozen_blk k6.m 1
   simp at n0 n1
   have K6:Hid (NX w w6 base tb sb w.heap.size now sv sent cl ov _ _ [] #[.int .i64 4, .string (strOfNums [])]):=k6
   clear k6
   go_region
  all_goals
   have k7:=((K6.out.setM 0 (.int .i64 4)).setM 1 (.string (strOfNums []))).drew
   clear K6 n0 n1 q0 q1
   simp only [List.setIfInBounds_toArray,List.set_cons_zero,List.set_cons_succ] at k7
   generalize (((w6.setCell ⟨w.heap.size,0,none⟩ (.int .i64 4)).setCell ⟨w.heap.size,1,none⟩ (.string (strOfNums [])))).drew=w7 at k7 ⊢
   have n0:=cell_blk k7.m 0
   have n1:=cell_blk k7.m 1
   simp at n0 n1
   go_wp2_with fail
   refine bodyPost_ret (v:=.tuple #[.string (strOfNums (d.drop 19)), .agg #[.int .i64 4, .string (strOfNums [])], .bool true]) (by simp [results,Tryz.results156,go_sem,n0,n1]) rfl ⟨rfl,_,_,k7.tp,k7.rest⟩
end Go.Proofs.YtjnkcibpkkjniaaGreat
