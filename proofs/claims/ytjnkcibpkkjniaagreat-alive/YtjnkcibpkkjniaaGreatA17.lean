import Derived.Test.YtjnkcibpkkjniaaGreatA15
set_option linter.unusedVariables false
set_option linter.unusedSimpArgs false
set_option linter.unusedSectionVars false
namespace Go.Proofs.YtjnkcibpkkjniaaGreat
open Go Go.RowKit
open Go.Proofs.YtjnkcibpkkjniaaGreat.Pool (TabP okOps topB wp_region_lb)
set_option maxHeartbeats 2000000
set_option maxRecDepth 20000
theorem TP.drew {w:World} {base tb sb:Nat} {now:Int} {sv:Value} {sent:List Int} {cl ov:Bool} {S:Array Value} {pv:Value} {xs:List Int} (h:TP w base tb sb now sv sent cl ov S pv xs):TP w.drew base tb sb now sv sent cl ov S pv xs:=⟨h.ts.drew,h.c13,own_keep h.own fun _ _=>rfl,h.dis,h.pl⟩
theorem TP.drewN {w:World} {base tb sb:Nat} {now:Int} {sv:Value} {sent:List Int} {cl ov:Bool} {S:Array Value} {pv:Value} {xs:List Int} (h:TP w base tb sb now sv sent cl ov S pv xs) (n:Nat):TP (w.drewN n) base tb sb now sv sent cl ov S pv xs:=⟨(h.ts.drewN n).1,h.c13,own_keep h.own fun _ _=>rfl,h.dis,h.pl⟩
theorem TP.setS {w:World} {base tb sb:Nat} {now:Int} {sv:Value} {sent:List Int} {cl ov:Bool} {S:Array Value} {pv:Value} {xs:List Int} (h:TP w base tb sb now sv sent cl ov S pv xs) (i:Nat) (hi:i≠13) (v:Value):TP (w.setCell ⟨sb,i,none⟩ v) base tb sb now sv sent cl ov (S.setIfInBounds i v) pv xs:=by
 have k:=h.ts.setS i v
 have l0:=h.ts.lt
 exact ⟨k.1,by rw [Array.getElem?_setIfInBounds_ne hi];exact h.c13,own_keep h.own fun b hb=>set_oth (fun e=>by have:=(World.ownsRow.lt h.own b hb).1;omega) i v,h.dis,h.pl.keep fun b hb=>set_oth (fun e=>by have:=(World.ownsRow.lt h.own b hb).1;omega) i v⟩
theorem TP.k2 {w w':World} {base tb sb:Nat} {now:Int} {sv sv':Value} {sent sent':List Int} {cl ov cl' ov':Bool} {S S':Array Value} {pv:Value} {xs:List Int} (h:TP w base tb sb now sv sent cl ov S pv xs) (hT:TS w' base tb sb now sv' sent' cl' ov' S') (hK:K2 tb sb sv sv' w w') (h13:S'[13]? = some pv):TP w' base tb sb now sv' sent' cl' ov' S' pv xs:=by
 have l0:=h.ts.lt
 have hkeep:∀ k,pv.ownBlock=some k→w'.heap[k]? = w.heap[k]?:=fun k hk=>by
  have hl:=World.ownsRow.lt h.own k hk
  exact hK.heap k hl.2 (by omega) (by omega) fun e=>h.dis k hk e.symm
 refine ⟨hT,h13,own_keep h.own fun k hk=>?_,fun k hk e=>?_,h.pl.keep hkeep⟩
 ·have hl:=World.ownsRow.lt h.own k hk
  exact hK.heap k hl.2 (by omega) (by omega) fun e=>h.dis k hk e.symm
 ·have hl:=World.ownsRow.lt h.own k hk
  rcases hK.own with e1 | ⟨j,e1,e2⟩
  ·rw [e1] at e;exact h.dis k hk e
  ·rw [e1] at e;cases e;omega
theorem obey_open {w:World} {base tb sb:Nat} {now:Int} {sv:Value} {sent:List Int} {cl ov:Bool} {au id:Int} {p:Pz} {hold heard spoke:Int} {pv:Value} {xs:List Int} (h:TP w base tb sb now sv sent cl ov (sessA au id p 1 hold heard spoke pv) pv xs) (hl:sent.length≤50000) {b:List Int} {n2 n3:Int}
  (HRO:Hid (∀ w,Calls Tryz.prog 173 #[.string (strOfNums b), .int .i64 p.au] w fun e w'=>e=.returned (.agg #[.int .i64 p.au, .int .i64 n2, .int .u32 n3])∧Below w.heap.size w w')) :
  Calls Tryz.prog 157 #[.pointer (some ⟨tb,0,none⟩), .agg #[.int .i64 1, .string (strOfNums b)]] w fun e w'=>(∃ v,e=.returned v)∧∃ sv',TP w' base tb sb now sv' (sent++msgL 4 []) cl ov (sessA au id p 2 (minI p.hold n2) now now pv) pv xs∧Rest base tb sb w w':=by
 obtain ⟨qa,qh,ql,qp,qw,ia,il,ic,ea,el,ec⟩:=p
 simp only [sessA] at h HRO ⊢
 have HB:Below w.heap.size w (w.alloc (.cells #[.int .i64 1, .string (strOfNums b)] 247)):=(Below.refl _ _).alloc (Nat.le_refl _) _
 have H0:Hid (TP (w.alloc (.cells #[.int .i64 1, .string (strOfNums b)] 247)) base tb sb now sv sent cl ov _ pv xs):=h.below HB
 have hR1:Hid (Rest base tb sb w (w.alloc (.cells #[.int .i64 1, .string (strOfNums b)] 247))):=Rest.below HB h.ts.lt.2.2
 have hq:(w.alloc (.cells #[.int .i64 1, .string (strOfNums b)] 247)).heap[w.heap.size]? = some (.cells #[.int .i64 1, .string (strOfNums b)] 247 (0,0)):=Go.heap_alloc_new w _
 have Hl:Hid (sent.length≤50000):=hl
 have hbs:base≤w.heap.size:=h.ts.lt.2.2
 clear h hl HB
 go_enter Tryz.func157,Tryz.ntmps157
 go_wp2_with fail
 generalize (w.alloc (.cells #[.int .i64 1, .string (strOfNums b)] 247))=w1 at H0 hR1 hq ⊢
 obtain ⟨⟨c0,c1,c2,c3,c4⟩,z2,z3,z4⟩:=H0.out.ts.facts
 obtain ⟨e0,e1,e2,e3,e4,e5,e6,e7,e8,e9,e10,e11,e12,e13,y0,y1,y2,y3,y4,y5,y6,y7,y8,y9,y10,y11,y12,y13⟩:=cells14 H0.out.ts.s
 have q0:=cell_blk hq 0;have q1:=cell_blk hq 1
 simp at q0 q1
 have HBl:Hid (∀ n,Calls Tryz.prog 170 #[.pointer (some ⟨sb,0,none⟩), .int .i64 1] (w1.drewN n) fun e w'=>e=.returned (.bool true)∧w'=w1.drewN n):=fun n=>belongs_open _ sb 0 e9
 go_quiet ((go_at_call 170;exact Calls.quiet_of_same (HBl.out _)))
 go_wp2_with fail
 have h2:=H0.out.drewN nq
 have hR2:=hR1.out.trans (H0.out.ts.drewN nq).2
 have hq2:(w1.drewN nq).heap[w.heap.size]? = some (.cells #[.int .i64 1, .string (strOfNums b)] 247 (0,0)):=hq
 clear c0 c1 c2 c3 c4 z2 z3 z4 e0 e1 e2 e3 e4 e5 e6 e7 e8 e9 e10 e11 e12 e13 y0 y1 y2 y3 y4 y5 y6 y7 y8 y9 y10 y11 y12 y13 q0 q1 HBl H0 hR1 hq
 generalize w1.drewN nq=w2 at h2 hR2 hq2 ⊢
 have H2:Hid (TP w2 base tb sb now sv sent cl ov _ pv xs):=h2
 have HR2:Hid (Rest base tb sb w w2):=hR2
 clear h2 hR2
 obtain ⟨⟨c0,c1,c2,c3,c4⟩,z2,z3,z4⟩:=H2.out.ts.facts
 obtain ⟨e0,e1,e2,e3,e4,e5,e6,e7,e8,e9,e10,e11,e12,e13,y0,y1,y2,y3,y4,y5,y6,y7,y8,y9,y10,y11,y12,y13⟩:=cells14 H2.out.ts.s
 have q0:=cell_blk hq2 0;have q1:=cell_blk hq2 1
 simp at q0 q1
 go_region
 have h3:=(H2.out.setS 11 (by decide) (.int .i64 now)).drew
 have hR3:=(HR2.out.trans (H2.out.ts.setS 11 (.int .i64 now)).2).drew
 have l0:=H2.out.ts.lt
 have hq3:(w2.setCell ⟨sb,11,none⟩ (.int .i64 now)).drew.heap[w.heap.size]? = some (.cells #[.int .i64 1, .string (strOfNums b)] 247 (0,0)):=(set_oth (by omega) 11 _).trans hq2
 simp only [List.setIfInBounds_toArray,List.set_cons_succ,List.set_cons_zero] at h3
 clear c0 c1 c2 c3 c4 z2 z3 z4 e0 e1 e2 e3 e4 e5 e6 e7 e8 e9 e10 e11 e12 e13 y0 y1 y2 y3 y4 y5 y6 y7 y8 y9 y10 y11 y12 y13 q0 q1 H2 HR2 hq2
 generalize (w2.setCell ⟨sb,11,none⟩ (.int .i64 now)).drew=w3 at h3 hR3 hq3 ⊢
 have q0:=cell_blk hq3 0;have q1:=cell_blk hq3 1
 simp at q0 q1
 have c0:=cell_blk h3.ts.t 0
 have e2:=cell_blk h3.ts.s 2
 simp at c0 e2
 have hmlt:w.heap.size < w3.heap.size:=(Array.getElem?_eq_some_iff.1 hq3).1
 have H3:Hid (TP w3 base tb sb now sv sent cl ov #[.int .i64 au, .int .u32 id, .int .i64 qa, .int .i64 qh, .int .i64 ql, .int .i64 qp, .int .i64 qw, .slice ia il ic, .slice ea el ec, .int .i64 1, .int .i64 hold, .int .i64 now, .int .i64 spoke,pv] pv xs):=h3
 have HR3:Hid (Rest base tb sb w w3):=hR3
 clear h3 hR3 hq3
 go_wp2_with fail
 have HG:Hid (∀ w1,Below w3.heap.size w3 w1→Calls Tryz.prog 172 #[.pointer (some ⟨tb,0,none⟩), .agg #[.int .i64 qa, .int .i64 n2, .int .u32 n3]] w1 fun e w'=>(∃ v,e=.returned v)∧∃ sv',TP w' base tb sb now sv' (sent++msgL 4 []) cl ov #[.int .i64 au, .int .u32 id, .int .i64 qa, .int .i64 qh, .int .i64 ql, .int .i64 qp, .int .i64 qw, .slice ia il ic, .slice ea el ec, .int .i64 2, .int .i64 (minI qh n2), .int .i64 now, .int .i64 now,pv] pv xs∧Rest base tb sb w w'):=fun w1 hB=>by
  have hT:=H3.out.below hB
  refine (greet_any (p:=⟨qa,qh,ql,qp,qw,ia,il,ic,ea,el,ec⟩) hT.ts Hl.out).mono ?_
  rintro e w' ⟨hv,sv',k1,k2,k3⟩
  exact ⟨hv,sv',hT.k2 k1 k3 rfl,HR3.out.trans ((Rest.below hB H3.out.ts.lt.2.2).trans k2)⟩
 have hlt:=H3.out.ts.lt
 have htb:tb < w3.heap.size:=by omega
 have hsb:sb < w3.heap.size:=by omega
 refine wp_region_lb (ops:=obyOps) (val:=obyV tb sb w.heap.size b qa n2 n3) (fix:=[(0, .pointer (some ⟨tb,0,none⟩)),(3, .pointer (some ⟨w.heap.size,0,none⟩))]) (T:=52) (w0:=w3) (Post:=fun _ w'=>∃ sv',TP w' base tb sb now sv' (sent++msgL 4 []) cl ov #[.int .i64 au, .int .u32 id, .int .i64 qa, .int .i64 qh, .int .i64 ql, .int .i64 qp, .int .i64 qw, .slice ia il ic, .slice ea el ec, .int .i64 2, .int .i64 (minI qh n2), .int .i64 now, .int .i64 now,pv] pv xs∧Rest base tb sb w w') (n:=12) (by kernel_rfl) oby_ok oby_top oby_size obyV_mono
  (fun i o a w1 hi ho hfx hdep hs K hK=>oby_hop htb hsb hmlt c0 e2 q1 HRO i o a w1 hi ho (hfx (0, .pointer (some ⟨tb,0,none⟩)) (by simp)) (hfx (3, .pointer (some ⟨w.heap.size,0,none⟩)) (by simp)) hdep hs K hK)
  (fun o a w1 ho hfx hdep hs K hK=>oby_last (Post:=fun _ _=>True) (P0:=fun w'=>∃ sv',TP w' base tb sb now sv' (sent++msgL 4 []) cl ov #[.int .i64 au, .int .u32 id, .int .i64 qa, .int .i64 qh, .int .i64 ql, .int .i64 qp, .int .i64 qw, .slice ia il ic, .slice ea el ec, .int .i64 2, .int .i64 (minI qh n2), .int .i64 now, .int .i64 now,pv] pv xs∧Rest base tb sb w w') HG o a w1 ho hdep hs K hK) (fun a w1 hdf hsz hfx hP=>?_) rfl rfl ?_ ?_
 ·obtain ⟨sv',k1,k2⟩:=hP
  obtain ⟨tm,df⟩:=a
  simp only at hdf
  subst hdf
  go_wp2_with fail
  exact bodyPost_end (v:=.tuple #[]) (by simp [results,Tryz.results157,go_sem]) rfl ⟨⟨_,rfl⟩,⟨sv',k1⟩,k2⟩
 ·intro x hx
  simp at hx
  rcases hx with rfl | rfl <;> rfl
 ·exact ⟨rfl,rfl,rfl,Nat.le_refl _,fun _ _=>rfl⟩
end Go.Proofs.YtjnkcibpkkjniaaGreat
namespace Go.Proofs.YtjnkcibpkkjniaaGreat
open Go Go.RowKit
open Go.Proofs.YtjnkcibpkkjniaaGreat.Pool (TabP okOps topB wp_region_lb)
set_option maxHeartbeats 2000000
set_option maxRecDepth 20000
theorem obey_alive {w:World} {base tb sb:Nat} {now:Int} {sv:Value} {sent:List Int} {cl ov:Bool} {au id:Int} {p:Pz} {hold heard spoke:Int} {pv:Value} {xs:List Int} (h:TP w base tb sb now sv sent cl ov (sessA au id p 2 hold heard spoke pv) pv xs)  :
  Calls Tryz.prog 157 #[.pointer (some ⟨tb,0,none⟩), .agg #[.int .i64 4, .string (strOfNums [])]] w fun e w'=>(∃ v,e=.returned v)∧TP w' base tb sb now sv sent cl ov (sessA au id p 3 hold now spoke pv) pv xs∧Rest base tb sb w w':=by
 obtain ⟨qa,qh,ql,qp,qw,ia,il,ic,ea,el,ec⟩:=p
 simp only [sessA] at h ⊢
 have HB:Below w.heap.size w (w.alloc (.cells #[.int .i64 4, .string (strOfNums [])] 247)):=(Below.refl _ _).alloc (Nat.le_refl _) _
 have H0:Hid (TP (w.alloc (.cells #[.int .i64 4, .string (strOfNums [])] 247)) base tb sb now sv sent cl ov _ pv xs):=h.below HB
 have hR1:Hid (Rest base tb sb w (w.alloc (.cells #[.int .i64 4, .string (strOfNums [])] 247))):=Rest.below HB h.ts.lt.2.2
 have hq:(w.alloc (.cells #[.int .i64 4, .string (strOfNums [])] 247)).heap[w.heap.size]? = some (.cells #[.int .i64 4, .string (strOfNums [])] 247 (0,0)):=Go.heap_alloc_new w _
 have hbs:base≤w.heap.size:=h.ts.lt.2.2
 clear h HB
 go_enter Tryz.func157,Tryz.ntmps157
 go_wp2_with fail
 generalize (w.alloc (.cells #[.int .i64 4, .string (strOfNums [])] 247))=w1 at H0 hR1 hq ⊢
 obtain ⟨⟨c0,c1,c2,c3,c4⟩,z2,z3,z4⟩:=H0.out.ts.facts
 obtain ⟨e0,e1,e2,e3,e4,e5,e6,e7,e8,e9,e10,e11,e12,e13,y0,y1,y2,y3,y4,y5,y6,y7,y8,y9,y10,y11,y12,y13⟩:=cells14 H0.out.ts.s
 have q0:=cell_blk hq 0;have q1:=cell_blk hq 1
 simp at q0 q1
 have HBl:Hid (∀ n,Calls Tryz.prog 170 #[.pointer (some ⟨sb,0,none⟩), .int .i64 4] (w1.drewN n) fun e w'=>e=.returned (.bool true)∧w'=w1.drewN n):=fun n=>belongs_alive _ sb 0 e9
 go_quiet ((go_at_call 170;exact Calls.quiet_of_same (HBl.out _)))
 go_wp2_with fail
 have h2:=H0.out.drewN nq
 have hR2:=hR1.out.trans (H0.out.ts.drewN nq).2
 have hq2:(w1.drewN nq).heap[w.heap.size]? = some (.cells #[.int .i64 4, .string (strOfNums [])] 247 (0,0)):=hq
 clear c0 c1 c2 c3 c4 z2 z3 z4 e0 e1 e2 e3 e4 e5 e6 e7 e8 e9 e10 e11 e12 e13 y0 y1 y2 y3 y4 y5 y6 y7 y8 y9 y10 y11 y12 y13 q0 q1 HBl H0 hR1 hq
 generalize w1.drewN nq=w2 at h2 hR2 hq2 ⊢
 have H2:Hid (TP w2 base tb sb now sv sent cl ov _ pv xs):=h2
 have HR2:Hid (Rest base tb sb w w2):=hR2
 clear h2 hR2
 obtain ⟨⟨c0,c1,c2,c3,c4⟩,z2,z3,z4⟩:=H2.out.ts.facts
 obtain ⟨e0,e1,e2,e3,e4,e5,e6,e7,e8,e9,e10,e11,e12,e13,y0,y1,y2,y3,y4,y5,y6,y7,y8,y9,y10,y11,y12,y13⟩:=cells14 H2.out.ts.s
 have q0:=cell_blk hq2 0;have q1:=cell_blk hq2 1
 simp at q0 q1
 go_region
 have h3:=(H2.out.setS 11 (by decide) (.int .i64 now)).drew
 have hR3:=(HR2.out.trans (H2.out.ts.setS 11 (.int .i64 now)).2).drew
 have l0:=H2.out.ts.lt
 have hq3:(w2.setCell ⟨sb,11,none⟩ (.int .i64 now)).drew.heap[w.heap.size]? = some (.cells #[.int .i64 4, .string (strOfNums [])] 247 (0,0)):=(set_oth (by omega) 11 _).trans hq2
 simp only [List.setIfInBounds_toArray,List.set_cons_succ,List.set_cons_zero] at h3
 clear c0 c1 c2 c3 c4 z2 z3 z4 e0 e1 e2 e3 e4 e5 e6 e7 e8 e9 e10 e11 e12 e13 y0 y1 y2 y3 y4 y5 y6 y7 y8 y9 y10 y11 y12 y13 q0 q1 H2 HR2 hq2
 generalize (w2.setCell ⟨sb,11,none⟩ (.int .i64 now)).drew=w3 at h3 hR3 hq3 ⊢
 have q0:=cell_blk hq3 0;have q1:=cell_blk hq3 1
 simp at q0 q1
 have c0:=cell_blk h3.ts.t 0
 obtain ⟨d0,d1,d2,d3,d4,d5,d6,d7,d8,d9,d10,d11,d12,d13,y0,y1,y2,y3,y4,y5,y6,y7,y8,y9,y10,y11,y12,y13⟩:=cells14 h3.ts.s
 simp at c0
 have H3:Hid (TP w3 base tb sb now sv sent cl ov #[.int .i64 au, .int .u32 id, .int .i64 qa, .int .i64 qh, .int .i64 ql, .int .i64 qp, .int .i64 qw, .slice ia il ic, .slice ea el ec, .int .i64 2, .int .i64 hold, .int .i64 now, .int .i64 spoke,pv] pv xs):=h3
 have HR3:Hid (Rest base tb sb w w3):=hR3
 clear h3 hR3 hq3
 go_wp2_with fail
 have h4:=H3.out.setS 9 (by decide) (.int .i64 3)
 have hR4:=HR3.out.trans (H3.out.ts.setS 9 (.int .i64 3)).2
 simp only [List.setIfInBounds_toArray,List.set_cons_succ,List.set_cons_zero] at h4
 exact bodyPost_end (v:=.tuple #[]) (by simp [results,Tryz.results157,go_sem]) rfl ⟨⟨_,rfl⟩,h4,hR4⟩
end Go.Proofs.YtjnkcibpkkjniaaGreat
namespace Go.Proofs.YtjnkcibpkkjniaaGreat
open Go Go.RowKit
set_option maxHeartbeats 800000
set_option maxRecDepth 20000
structure NX (w0 w:World) (base tb sb rb:Nat) (now:Int) (sv:Value) (sent:List Int) (cl ov:Bool) (S:Array Value) (pv:Value) (xs:List Int) (msg:Array Value):Prop where
 tp:TP w base tb sb now sv sent cl ov S pv xs
 m:w.heap[rb]? = some (.cells msg 247 (0,0))
 rest:Rest base tb sb w0 w
 hr:base≤rb
 dis:∀ k,pv.ownBlock=some k→k≠rb
 dis2:∀ k,sv.ownBlock=some k→k≠rb
section
variable {w0 w w1:World} {base tb sb rb:Nat} {now:Int} {sv:Value} {sent:List Int} {cl ov:Bool} {S:Array Value} {pv:Value} {xs:List Int} {msg:Array Value}
theorem NX.start (h:TP w base tb sb now sv sent cl ov S pv xs) (msg:Array Value):NX w (w.alloc (.cells msg 247)) base tb sb w.heap.size now sv sent cl ov S pv xs msg:=by
 have hB:Below w.heap.size w (w.alloc (.cells msg 247)):=(Below.refl _ _).alloc (Nat.le_refl _) _
 exact ⟨h.below hB,Go.heap_alloc_new w _,Rest.below hB h.ts.lt.2.2,h.ts.lt.2.2,fun k hk=>by have:=(World.ownsRow.lt h.own k hk).2;omega,fun k hk=>by have:=(World.ownsRow.lt h.ts.own k hk).2;omega⟩
theorem NX.drewN (h:NX w0 w base tb sb rb now sv sent cl ov S pv xs msg) (n:Nat):NX w0 (w.drewN n) base tb sb rb now sv sent cl ov S pv xs msg :=
 ⟨⟨(h.tp.ts.drewN n).1,h.tp.c13,h.tp.own,h.tp.dis,h.tp.pl⟩,h.m,h.rest.trans (h.tp.ts.drewN n).2,h.hr,h.dis,h.dis2⟩
theorem NX.drew (h:NX w0 w base tb sb rb now sv sent cl ov S pv xs msg):NX w0 w.drew base tb sb rb now sv sent cl ov S pv xs msg :=
 ⟨⟨h.tp.ts.drew,h.tp.c13,h.tp.own,h.tp.dis,h.tp.pl⟩,h.m,h.rest.drew,h.hr,h.dis,h.dis2⟩
theorem NX.c13 (h:NX w0 w base tb sb rb now sv sent cl ov S pv xs msg):w.cell? ⟨sb,13,none⟩=some pv∧w.frozen? ⟨sb,13,none⟩=false:=⟨(cell_blk h.tp.ts.s 13).trans h.tp.c13,frozen_blk h.tp.ts.s 13⟩
theorem NX.taken (h:NX w0 w base tb sb rb now sv sent cl ov S pv xs msg) (hS:S.size=14) {v':Value} {l:List Int}
  (ho:w1.ownsRow base 5 1 v' (xs.length+l.length) (cellsOf xs++cellsOf l)) (hg:w.grownBy w1 pv.ownBlock) (hv:v'.ownBlock=pv.ownBlock∨v'.ownBlock=some w.heap.size) (hq:AllQ Pl w1 v') :
  NX w0 (w1.setCell ⟨sb,13,none⟩ v') base tb sb rb now sv sent cl ov (S.setIfInBounds 13 v') v' (xs++l) msg:=by
 obtain ⟨k1,k2⟩:=h.tp.taken hS ho hg hv hq
 have hrb:rb < w.heap.size:=(Array.getElem?_eq_some_iff.1 h.m).1
 have l0:=h.tp.ts.lt
 have hr:=h.hr
 refine ⟨k1,?_,h.rest.trans k2,h.hr,fun k hk e=>?_,h.dis2⟩
 ·rw [set_oth (by omega)]
  exact (hg.block rb hrb fun e=>h.dis rb e.symm rfl).trans h.m
 ·subst e
  rcases hv with e | e
  ·rw [e] at hk;exact h.dis k hk rfl
  ·rw [e] at hk;cases hk;omega
theorem NX.setM (h:NX w0 w base tb sb rb now sv sent cl ov S pv xs msg) (i:Nat) (v:Value):NX w0 (w.setCell ⟨rb,i,none⟩ v) base tb sb rb now sv sent cl ov S pv xs (msg.setIfInBounds i v):=by
 have l0:=h.tp.ts.lt
 have hr:=h.hr
 have hsz:(w.setCell ⟨rb,i,none⟩ v).heap.size=w.heap.size:=by simp [World.setCell]
 refine ⟨⟨⟨(set_oth (by omega) i v).trans h.tp.ts.t,(set_oth (by omega) i v).trans h.tp.ts.s,own_keep h.tp.ts.own fun k hk=>set_oth (Ne.symm (h.dis2 k hk)) i v,⟨l0.1,l0.2.1,by omega⟩,h.tp.ts.ne⟩,h.tp.c13,own_keep h.tp.own fun k hk=>set_oth (Ne.symm (h.dis k hk)) i v,h.tp.dis,h.tp.pl.keep fun k hk=>set_oth (Ne.symm (h.dis k hk)) i v⟩,set_blk h.m i v,h.rest.trans ⟨rfl,by omega,fun b h1 _ _=>set_oth (by omega) i v⟩,h.hr,h.dis,h.dis2⟩
theorem NX.emptied (h:NX w0 w base tb sb rb now sv sent cl ov S pv xs msg) (hS:S.size=14) {g c:Nat} (hp:pv=.slice (some ⟨g,0,none⟩) xs.length c):NX w0 (w.setCell ⟨sb,13,none⟩ (.slice (some ⟨g,0,none⟩) 0 c)) base tb sb rb now sv sent cl ov (S.setIfInBounds 13 (.slice (some ⟨g,0,none⟩) 0 c)) (.slice (some ⟨g,0,none⟩) 0 c) [] msg:=by
 subst hp
 have k:=h.tp.ts.setS 13 (.slice (some ⟨g,0,none⟩) 0 c)
 have l0:=h.tp.ts.lt
 have hr:=h.hr
 have ho:w.ownsRow base 5 1 (.slice (some ⟨g,0,none⟩) 0 c) 0 (cellsOf []):=by
  refine ⟨rfl,?_⟩
  rcases h.tp.own.2 with ⟨e,_⟩ | ⟨g',c',cur,k1,k2,k3,k4,k5,k6,k7⟩
  ·cases e
  ·cases k1
   exact .inr ⟨g,c,cur,rfl,k2,k3,Nat.zero_le _,k5,k6,by simp [cellsOf]⟩
 refine ⟨⟨k.1,by rw [Array.getElem?_setIfInBounds_self_of_lt (by omega)],own_keep ho fun b hb=>set_oth (fun e=>by have:=(World.ownsRow.lt ho b hb).1;omega) 13 _,fun b hb=>h.tp.dis b hb,AllQ.keep (w:=w) (fun g' cur ty fr e1 e2=>h.tp.pl g' cur ty fr e1 e2) fun b hb=>set_oth (fun e=>by have:=(World.ownsRow.lt ho b hb).1;omega) 13 _⟩,(set_oth (by omega) 13 _).trans h.m,h.rest.trans k.2,h.hr,fun b hb=>h.dis b hb,h.dis2⟩
end
end Go.Proofs.YtjnkcibpkkjniaaGreat
namespace Go.Proofs.YtjnkcibpkkjniaaGreat
open Go Go.RowKit
set_option maxHeartbeats 1600000
set_option maxRecDepth 20000
theorem HdOk.want {xs:List Int} {n k:Int} (h:HdOk xs n k):wantL xs=n - 19:=by
 unfold wantL
 rw [if_neg (by rw [h.len];omega),h.nn,h.len]
 rfl
theorem NX.grownC {w0 w w1:World} {base tb sb rb:Nat} {now:Int} {sv:Value} {sent:List Int} {cl ov:Bool} {S:Array Value} {pv:Value} {xs:List Int} {msg:Array Value} (h:NX w0 w base tb sb rb now sv sent cl ov S pv xs msg) (hg:w.grownBy w1 pv.ownBlock):w1.cell? ⟨sb,13,none⟩=some pv∧w1.frozen? ⟨sb,13,none⟩=false:=by
 obtain ⟨_,g2,_⟩:=h.tp.ts.grown (sv':=pv) hg fun k hk=>(World.ownsRow.lt h.tp.own k hk).1
 have:=g2.trans h.tp.ts.s
 exact ⟨(cell_blk this 13).trans h.tp.c13,frozen_blk this 13⟩
theorem next_more {w:World} {base tb sb:Nat} {now:Int} {sv:Value} {sent:List Int} {cl ov:Bool} {S:Array Value} {pv:Value} (h:TP w base tb sb now sv sent cl ov S pv []) (hS:S.size=14) {d:List Int} (hl:19≤d.length) (hl2:d.length≤100000) (hh:HdOk (d.take 19) 29 1) :
  Calls Tryz.prog 156 #[.pointer (some ⟨sb,13,none⟩), .string (strOfNums d)] w fun e w'=>e=.returned (.tuple #[.string (strOfNums (d.drop 19)), .agg #[.int .i64 0, .string (strOfNums [])], .bool false])∧∃ pv',TP w' base tb sb now sv sent cl ov (S.setIfInBounds 13 pv') pv' (d.take 19)∧Rest base tb sb w w':=by
 have HN:Hid (NX w (w.alloc (.cells #[.int .i64 0, .string (strOfNums [])] 247)) base tb sb w.heap.size now sv sent cl ov S pv [] #[.int .i64 0, .string (strOfNums [])]):=NX.start h _
 have HS:Hid (S.size=14):=hS
 have HH:Hid (HdOk (d.take 19) 29 1):=hh
 have Hl:Hid (19≤d.length):=hl
 have HW1:Hid (Calls Tryz.prog 166 #[.pointer (some ⟨sb,13,none⟩)] (w.alloc (.cells #[.int .i64 0, .string (strOfNums [])] 247)) fun e w'=>e=.returned (.int .i64 19)∧∃ m,w'=(w.alloc (.cells #[.int .i64 0, .string (strOfNums [])] 247)).drewN m):=wanted_less (xs:=[]) HN.out.c13.1 HN.out.tp.own (by simp)
 have kz:=strOfNums_size
 have ks:(strOfNums d).extract 0 19=strOfNums (d.take 19):=by rw [S_sub];simp
 have ks2:(strOfNums d).extract 19 d.length=strOfNums (d.drop 19):=by
  rw [S_sub]
  congr 1
  exact List.take_of_length_le (by simp)
 have kd:¬ ((d.length:Int) < 19):=by omega
 have kd2:min (19:Int) (d.length:Int)=19:=by omega
 obtain ⟨i0,hi,hz0,hz1,hz2⟩:=info_u8
 have HZQ:Hid (∀ u∈(Value.int .u8 0).cells.toList,Pl u):=fun u hu=>by simp [Value.cells] at hu;subst hu;exact Pl.int _ _
 have HI:Hid (Tryz.prog.info? 5=some i0):=hi
 have HZ:Hid (i0.zero=some (.int .u8 0)∧i0.size=1∧i0.bytes=1):=⟨hz0,hz1,hz2⟩
 clear h hS hh hi hz0 hz1 hz2
 go_enter Tryz.func156,Tryz.ntmps156
 go_wp2_with (go_at_call 166;go_loud (refine HW1.out.mono ?_);go_loud (rintro e w1 ⟨rfl,m,hw⟩);go_loud (have H1:Hid (NX w w1 base tb sb w.heap.size now sv sent cl ov S pv [] #[.int .i64 0, .string (strOfNums [])]):=by rw [hw];exact HN.out.drewN m);go_loud (obtain ⟨c13,z13⟩:=H1.out.c13);clear hw)
 have HB:Hid (Bytes (d.take 19)):=HH.out.bytes
 have HL19:Hid ((d.take 19).length=19):=HH.out.len
 go_region_law (go_loud (refine step_append_string rfl (.tmp 17) (.tmp 20) 86 9 rfl base 5 i0 (.int .u8 0) Tryz.underlying86 Tryz.underlying9 HI.out HZ.out.1 HZ.out.2.1 HZ.out.2.2 rfl pv 0 (cellsOf []) (by simp [Act.eval,Act.put]) (by repeat (first | exact H1.out.tp.own | refine World.ownsRow.drew ?_)) (d.take 19) (by simp [Act.eval,Act.put]) HB.out (by rw [HL19.out];decide) (by have:=H1.out.tp.ts.lt.2.2;simp;omega) HZQ.out (H1.out.tp.pl) ?_);go_loud (intro v' w2 hown2 hg2 hv2 hq2);go_loud (obtain ⟨ao,cp,rfl,_⟩:=own_slice hown2);go_loud (obtain ⟨d13,y13⟩:=NX.grownC H1.out.drew hg2);go_loud (have H2:Hid (NX w (w2.setCell ⟨sb,13,none⟩ (.slice ao (0+(d.take 19).length) cp)) base tb sb w.heap.size now sv sent cl ov (S.setIfInBounds 13 (.slice ao (0+(d.take 19).length) cp)) (.slice ao (0+(d.take 19).length) cp) ([]++d.take 19) #[.int .i64 0, .string (strOfNums [])]):=NX.taken (xs:=[]) H1.out.drew HS.out hown2 hg2 hv2 hq2);clear hown2 hg2 hv2 hq2)
 have e19:0+(d.take 19).length=19:=by rw [HL19.out]
 rw [e19] at H2
 have H3:=H2.out
 rw [List.nil_append] at H3
 clear H2 H1 c13 z13 d13 y13 HW1 HN HI HZ
 generalize (w2.setCell ⟨sb,13,none⟩ (.slice ao 19 cp))=w3 at H3 ⊢
 obtain ⟨c13,z13⟩:=H3.c13
 have HHd:Hid (Calls Tryz.prog 168 #[.pointer (some ⟨sb,13,none⟩)] w3 fun e w'=>e=.returned (.string (strOfNums (d.take 19)))∧w'=w3):=by
  have:=head_any (xs:=d.take 19) c13 H3.tp.own (by rw [HL19.out];exact Nat.le_refl _)
  rw [List.take_take] at this
  exact this
 have HCk:Hid (Calls Tryz.prog 167 #[.string (strOfNums (d.take 19))] w3 fun e w'=>(∃ v,e=.returned v)∧w'=w3):=checkHeader_any HH.out w3
 have HW2:Hid (Calls Tryz.prog 166 #[.pointer (some ⟨sb,13,none⟩)] w3 fun e w'=>e=.returned (.int .i64 10)∧∃ m,w'=w3.drewN m):=by
  have:=wanted_more (xs:=d.take 19) c13 H3.tp.own HH.out.bytes (by rw [HL19.out];exact Nat.le_refl _) (by rw [HL19.out];decide)
  rw [HH.out.want] at this
  exact this
 have H3':Hid (NX w w3 base tb sb w.heap.size now sv sent cl ov (S.setIfInBounds 13 (.slice ao 19 cp)) (.slice ao 19 cp) (d.take 19) #[.int .i64 0, .string (strOfNums [])]):=H3
 clear H3
 go_wp2_with (first
  | (go_at_call 168;go_loud (refine HHd.out.mono ?_);go_loud (rintro e w4 ⟨rfl,rfl⟩))
  | (go_at_call 167;go_loud (refine HCk.out.mono ?_);go_loud (rintro e w4 ⟨⟨v4,rfl⟩,rfl⟩))
  | (go_at_call 166;go_loud (refine HW2.out.mono ?_);go_loud (rintro e w4 ⟨rfl,m4,hw4⟩);go_loud (have H4:Hid (NX w w4 base tb sb w.heap.size now sv sent cl ov (S.setIfInBounds 13 (.slice ao 19 cp)) (.slice ao 19 cp) (d.take 19) #[.int .i64 0, .string (strOfNums [])]):=by rw [hw4];exact H3'.out.drewN m4);go_loud (have n0:=cell_blk H4.out.m 0);go_loud (have n1:=cell_blk H4.out.m 1);go_loud (have q0:=frozen_blk H4.out.m 0);go_loud (have q1:=frozen_blk H4.out.m 1);simp at n0 n1;clear hw4))
 have k5:=(H4.out.setM 0 (.int .i64 0)).setM 1 (.string (strOfNums []))
 clear H4 H3' HW2 HCk HHd n0 n1 q0 q1
 simp only [List.setIfInBounds_toArray,List.set_cons_zero,List.set_cons_succ] at k5
 have es:(⟨#[]⟩:ByteArray)=strOfNums []:=rfl
 rw [es]
 generalize ((w4.setCell ⟨w.heap.size,0,none⟩ (.int .i64 0)).setCell ⟨w.heap.size,1,none⟩ (.string (strOfNums [])))=w5 at k5 ⊢
 have n0:=cell_blk k5.m 0
 have n1:=cell_blk k5.m 1
 simp at n0 n1
 refine bodyPost_ret (v:=.tuple #[.string (strOfNums (d.drop 19)), .agg #[.int .i64 0, .string (strOfNums [])], .bool false]) (by simp [results,Tryz.results156,go_sem,n0,n1]) rfl ⟨rfl,_,k5.tp,k5.rest⟩
end Go.Proofs.YtjnkcibpkkjniaaGreat
