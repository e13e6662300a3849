import Derived.Test.YtjnkcibpkkjniaaGreatA10
import Derived.Test.YtjnkcibpkkjniaaGreatA13
import Derived.Deep.RegionLaw
import Derived.Test.YtjnkcibpkkjniaaGreatA14
set_option linter.unusedVariables false
set_option linter.unusedSimpArgs false
set_option linter.unusedSectionVars false
namespace Go.Proofs.YtjnkcibpkkjniaaGreat
open Go Go.RowKit
set_option maxHeartbeats 1600000
set_option maxRecDepth 20000
theorem belongs_open (w:World) (sb so:Nat) (h:w.cell? ⟨sb,so+9,none⟩=some (.int .i64 1)) :
  Calls Tryz.prog 170 #[.pointer (some ⟨sb,so,none⟩), .int .i64 1] w fun e w'=>e=.returned (.bool true)∧w'=w:=by
 go_enter Tryz.func170,Tryz.ntmps170
 go_wp2
 go_ret
 exact ⟨rfl,rfl⟩
theorem belongs_alive (w:World) (sb so:Nat) (h:w.cell? ⟨sb,so+9,none⟩=some (.int .i64 2)) :
  Calls Tryz.prog 170 #[.pointer (some ⟨sb,so,none⟩), .int .i64 4] w fun e w'=>e=.returned (.bool true)∧w'=w:=by
 go_enter Tryz.func170,Tryz.ntmps170
 go_wp2
 go_ret
 exact ⟨rfl,rfl⟩
theorem K2.refl (tb sb:Nat) (sv:Value) (w:World):K2 tb sb sv sv w w:=⟨fun _ _ _ _ _=>rfl, .inl rfl⟩
theorem K2.below {tb sb:Nat} {sv:Value} {w w':World} (h:Below w.heap.size w w'):K2 tb sb sv sv w w':=⟨fun b hb _ _ _=>h.block b hb, .inl rfl⟩
theorem K2.trans {tb sb:Nat} {s1 s2 s3:Value} {a b c:World} (h:K2 tb sb s1 s2 a b) (k:K2 tb sb s2 s3 b c) (hs:a.heap.size≤b.heap.size):K2 tb sb s1 s3 a c:=by
 refine ⟨fun x h1 h2 h3 h4=>(k.heap x (by omega) h2 h3 fun e=>?_).trans (h.heap x h1 h2 h3 h4),?_⟩
 ·rcases h.own with e1 | ⟨j,e1,e2⟩
  ·rw [e1] at e;exact h4 e
  ·rw [e1] at e;cases e;omega
 ·rcases k.own with e1 | ⟨j,e1,e2⟩
  ·rcases h.own with e2 | ⟨j,e2,e3⟩
   ·exact .inl (e1.trans e2)
   ·exact .inr ⟨j,e1.trans e2,e3⟩
  ·exact .inr ⟨j,e1,by omega⟩
theorem K2.setS {tb sb:Nat} {sv:Value} {w:World} (i:Nat) (v:Value):K2 tb sb sv sv w (w.setCell ⟨sb,i,none⟩ v):=⟨fun b _ _ h _=>set_oth (Ne.symm h) i v, .inl rfl⟩
theorem K2.drew {tb sb:Nat} {s s':Value} {w w':World} (h:K2 tb sb s s' w w'):K2 tb sb s s' w w'.drew:=⟨h.heap,h.own⟩
def minI (a b:Int):Int:=if b < a then b else a
theorem greet_any {w:World} {base tb sb:Nat} {now:Int} {sv:Value} {sent:List Int} {cl ov:Bool} {au id:Int} {p:Pz} {st hold heard spoke:Int} {pv:Value} (h:TS w base tb sb now sv sent cl ov (sessA au id p st hold heard spoke pv)) {oa oh oi:Int} (hl:sent.length≤50000) :
  Calls Tryz.prog 172 #[.pointer (some ⟨tb,0,none⟩), .agg #[.int .i64 oa, .int .i64 oh, .int .u32 oi]] w fun e w'=>(∃ v,e=.returned v)∧∃ sv',TS w' base tb sb now sv' (sent++msgL 4 []) cl ov (sessA au id p 2 (minI p.hold oh) heard now pv)∧Rest base tb sb w w'∧K2 tb sb sv sv' w w':=by
 obtain ⟨qa,qh,ql,qp,qw,ia,il,ic,ea,el,ec⟩:=p
 simp only [sessA] at h ⊢
 have HB:Below w.heap.size w (w.alloc (.cells #[.int .i64 oa, .int .i64 oh, .int .u32 oi] 245)):=(Below.refl _ _).alloc (Nat.le_refl _) _
 have hT1:=h.below HB
 have hR1:Hid (Rest base tb sb w _):=Rest.below HB h.lt.2.2
 have hk:Hid (∀ b,b < w.heap.size→(w.alloc (.cells #[.int .i64 oa, .int .i64 oh, .int .u32 oi] 245)).heap[b]? = w.heap[b]?):=fun b hb=>HB.block b hb
 have H0:Hid (TS (w.alloc (.cells #[.int .i64 oa, .int .i64 oh, .int .u32 oi] 245)) base tb sb now sv sent cl ov _):=hT1
 have Hl:Hid (sent.length≤50000):=hl
 have hq:(w.alloc (.cells #[.int .i64 oa, .int .i64 oh, .int .u32 oi] 245)).heap[w.heap.size]? = some (.cells #[.int .i64 oa, .int .i64 oh, .int .u32 oi] 245 (0,0)):=Go.heap_alloc_new w _
 have hsz:=h.lt.2.2
 clear h hT1 hl HB
 go_enter Tryz.func172,Tryz.ntmps172
 go_wp2_with fail
 generalize (w.alloc (.cells #[.int .i64 oa, .int .i64 oh, .int .u32 oi] 245))=w1 at H0 hR1 hk hq ⊢
 obtain ⟨⟨c0,c1,c2,c3,c4⟩,z2,z3,z4⟩:=H0.out.facts
 obtain ⟨e0,e1,e2,e3,e4,e5,e6,e7,e8,e9,e10,e11,e12,e13,y0,y1,y2,y3,y4,y5,y6,y7,y8,y9,y10,y11,y12,y13⟩:=cells14 H0.out.s
 have q0:=cell_blk hq 0;have q1:=cell_blk hq 1;have q2:=cell_blk hq 2
 simp at q0 q1 q2
 go_region
 have k1:=H0.out.setS 9 (.int .i64 2)
 have k2:=k1.1.setS 10 (.int .i64 (if oh < qh then oh else qh))
 have hT:=k2.1.drew
 have hR:=(hR1.out.trans (k1.2.trans k2.2)).drew
 have hK:K2 tb sb sv sv w (((w1.setCell ⟨sb,9,none⟩ (.int .i64 2)).setCell ⟨sb,10,none⟩ (.int .i64 (if oh < qh then oh else qh)))).drew :=
  K2.drew ⟨fun b h1 h2 h3 h4=>(set_oth (Ne.symm h3) 10 _).trans ((set_oth (Ne.symm h3) 9 _).trans (hk.out b h1)), .inl rfl⟩
 simp only [List.setIfInBounds_toArray,List.set_cons_succ,List.set_cons_zero] at hT
 clear k1 k2 c0 c1 c2 c3 c4 z2 z3 z4 e0 e1 e2 e3 e4 e5 e6 e7 e8 e9 e10 e11 e12 e13 y0 y1 y2 y3 y4 y5 y6 y7 y8 y9 y10 y11 y12 y13 q0 q1 q2 H0 hR1 hk hq
 generalize ((w1.setCell ⟨sb,9,none⟩ (.int .i64 2)).setCell ⟨sb,10,none⟩ (.int .i64 (if oh < qh then oh else qh))).drew=w2 at hT hR hK ⊢
 have H2:Hid (TS w2 base tb sb now sv sent cl ov _):=hT
 have HR2:Hid (Rest base tb sb w w2):=hR
 have HK2:Hid (K2 tb sb sv sv w w2):=hK
 have Hb:Hid (Bytes (msgL 4 [])):=msgL_bytes (by omega) Bytes.nil
 have Hn:Hid (sent.length+(msgL 4 []).length≤1000000):=by show _≤_;rw [msgL_len];have:=Hl.out;simp;omega
 clear hT hR hK
 go_wp2_with (first
  | (go_at_call 146;go_loud (refine (keepalive_any _).mono ?_);go_loud (rintro e w3 ⟨rfl,hB⟩);go_loud (have H3:Hid (TS w3 base tb sb now sv sent cl ov #[.int .i64 au, .int .u32 id, .int .i64 qa, .int .i64 qh, .int .i64 ql, .int .i64 qp, .int .i64 qw, .slice ia il ic, .slice ea el ec, .int .i64 2, .int .i64 (if oh < qh then oh else qh), .int .i64 heard, .int .i64 spoke,pv]):=H2.out.below hB);go_loud (have HR3:Hid (Rest base tb sb w2 w3):=Rest.below hB H2.out.lt.2.2);go_loud (have HK3:Hid (K2 tb sb sv sv w2 w3):=K2.below hB);clear hB)
  | (go_at_call 140;go_loud (refine (send_any2 (u:=.int .i64 spoke) H3.out rfl rfl Hb.out Hn.out).mono ?_);go_loud (rintro e w4 ⟨⟨v2,rfl⟩,sv2,hT4,hR4,hK4⟩)))
 all_goals exact bodyPost_end (v:=.tuple #[]) (by simp [results,Tryz.results172,go_sem]) rfl ⟨⟨_,rfl⟩,_,hT4,HR2.out.trans (HR3.out.trans hR4),HK2.out.trans (HK3.out.trans hK4 HR3.out.size) HR2.out.size⟩
end Go.Proofs.YtjnkcibpkkjniaaGreat
namespace Go.Proofs.YtjnkcibpkkjniaaGreat
open Go Go.RowKit
set_option maxHeartbeats 800000
set_option maxRecDepth 20000
theorem step_append_string {P:Program} {ops:Array Oper} {o:Oper} {a:Act} {w:World} {K:Act→World→Prop} {Q:Exit→Act→World→Prop} {E:Prop}
  (hg:o.guard=none) (s x:Operand) (t u:TypeId) (hop:o.op=Op.call { callee:=Callee.builtin Builtin.append,args:=#[s,x],argTypes:=#[t,u] })
  (base:Nat) (e:TypeId) (i:TypeInfo) (z:Value) (h1:P.underlying t=some (.slice e)) (h1u:P.underlying u=some .string) (h2:P.info? e=some i) (h3:i.zero=some z) (h4:i.size=1) (h5:i.bytes=1) (h6:z.cells.size=1)
  (v:Value) (n:Nat) (xs:List Value) (hs:a.eval s=v) (hown:w.ownsRow base e 1 v n xs)
  (l:List Int) (hx:a.eval x=.string (strOfNums l)) (hl:Bytes l) (b1:n+l.length≤140737488355328) (hb:base≤w.heap.size) (hQz:∀ u∈z.cells.toList,Pl u) (hQv:AllQ Pl w v)
  (hK:∀ v' w',w'.ownsRow base e 1 v' (n+l.length) (xs++cellsOf l)→w.grownBy w' v.ownBlock→(v'.ownBlock=v.ownBlock∨v'.ownBlock=some w.heap.size)→AllQ Pl w' v'→K (a.put o.dst v') w') :
  if Region.wanted o (yielded ops a.tmps)=true then Oper.wp P o a w K Q else E:=by
 have hw:Region.wanted o (yielded ops a.tmps)=true:=by simp [Region.wanted,hg]
 rw [if_pos hw]
 obtain ⟨v',w',hrun,r1,r2,r3,r4⟩:=run_append_own_string_all (P:=P) w Pl base t u o.type e i z h1 h1u h2 h3 h4 h5 h6 v n xs hown hl b1 hb hQz (fun u hu=>by obtain ⟨x,_,rfl⟩:=List.mem_map.1 hu;exact Pl.int _ _) hQv
 unfold Oper.wp
 simp [execOp,hop,resolve,invoke,builtin,hs,hx,hrun,Result.andThen]
 exact hK v' w' r1 r2 r3 r4
structure TP (w:World) (base tb sb:Nat) (now:Int) (sv:Value) (sent:List Int) (cl ov:Bool) (S:Array Value) (pv:Value) (xs:List Int):Prop where
 ts:TS w base tb sb now sv sent cl ov S
 c13:S[13]? = some pv
 own:w.ownsRow base 5 1 pv xs.length (cellsOf xs)
 dis:∀ k,pv.ownBlock=some k→sv.ownBlock≠some k
 pl:AllQ Pl w pv
theorem TP.below {w w':World} {base tb sb:Nat} {now:Int} {sv:Value} {sent:List Int} {cl ov:Bool} {S:Array Value} {pv:Value} {xs:List Int} (h:TP w base tb sb now sv sent cl ov S pv xs) (hB:Below w.heap.size w w'):TP w' base tb sb now sv sent cl ov S pv xs :=
 ⟨h.ts.below hB,h.c13,own_keep h.own fun k hk=>hB.block k (World.ownsRow.lt h.own k hk).2,h.dis,h.pl.keep fun k hk=>hB.block k (World.ownsRow.lt h.own k hk).2⟩
theorem TP.taken {w w1:World} {base tb sb:Nat} {now:Int} {sv:Value} {sent:List Int} {cl ov:Bool} {S:Array Value} {pv:Value} {xs:List Int} (h:TP w base tb sb now sv sent cl ov S pv xs) (hS:S.size=14) {v':Value} {l:List Int}
  (ho:w1.ownsRow base 5 1 v' (xs.length+l.length) (cellsOf xs++cellsOf l)) (hg:w.grownBy w1 pv.ownBlock) (hv:v'.ownBlock=pv.ownBlock∨v'.ownBlock=some w.heap.size) (hq:AllQ Pl w1 v') :
  TP (w1.setCell ⟨sb,13,none⟩ v') base tb sb now sv sent cl ov (S.setIfInBounds 13 v') v' (xs++l)∧Rest base tb sb w (w1.setCell ⟨sb,13,none⟩ v'):=by
 have l0:=h.ts.lt
 obtain ⟨g1,g2,g3⟩:=h.ts.grown (sv':=v') hg fun k hk=>(World.ownsRow.lt h.own k hk).1
 have hsv:w1.ownsRow base 5 1 sv sent.length (cellsOf sent):=own_keep h.ts.own fun k hk=>hg.block k (World.ownsRow.lt h.ts.own k hk).2 fun e=>h.dis k e.symm hk
 have hT1:TS w1 base tb sb now sv sent cl ov S:=⟨g1.trans h.ts.t,g2.trans h.ts.s,hsv,⟨l0.1,l0.2.1,by have:=hg.size;omega⟩,h.ts.ne⟩
 have k:=hT1.setS 13 v'
 have ho':w1.ownsRow base 5 1 v' (xs++l).length (cellsOf (xs++l)):=by rw [List.length_append,←cellsOf_append];exact ho
 refine ⟨⟨k.1,by rw [Array.getElem?_setIfInBounds_self_of_lt (by omega)],own_keep ho' fun b hb=>set_oth (fun e=>by have:=(World.ownsRow.lt ho' b hb).1;omega) 13 v',fun b hb hs=>?_,hq.keep fun b hb=>set_oth (fun e=>by have:=(World.ownsRow.lt ho' b hb).1;omega) 13 v'⟩,g3.trans k.2⟩
 rcases hv with e | e
 ·rw [e] at hb;exact h.dis b hb hs
 ·rw [e] at hb
  cases hb
  have:=(World.ownsRow.lt h.ts.own _ hs).2
  omega
end Go.Proofs.YtjnkcibpkkjniaaGreat
namespace Go.Proofs.YtjnkcibpkkjniaaGreat
open Go Go.RowKit
open Go.Proofs.YtjnkcibpkkjniaaGreat.Pool (TabP okOps topB wp_region_lb)
set_option maxHeartbeats 2000000
set_option maxRecDepth 20000
def obyV (tb sb mb:Nat) (b:List Int) (n1 n2 n3:Int):Nat→Value→World→Prop
 | 0,v,_=>v=.pointer (some ⟨tb,0,none⟩)
 | 1,v,_=>v=.pointer (some ⟨mb,1,none⟩)
 | 2,v,_=>v=.string (strOfNums b)
 | 3,v,_=>v=.pointer (some ⟨tb,0,none⟩)
 | 4,v,_=>v=.pointer (some ⟨tb,0,none⟩)
 | 5,v,_=>v=.pointer (some ⟨tb,0,none⟩)
 | 6,v,_=>v=.pointer (some ⟨sb,0,none⟩)
 | 7,v,_=>v=.pointer (some ⟨sb,0,none⟩)
 | 8,v,_=>v=.pointer (some ⟨sb,2,none⟩)
 | 9,v,_=>v=.pointer (some ⟨sb,2,none⟩)
 | 10,v,_=>v=.int .i64 n1
 | 11,v,_=>v=.agg #[.int .i64 n1, .int .i64 n2, .int .u32 n3]
 | _,_,_=>True
theorem obyV_mono {tb sb mb:Nat} {b:List Int} {n1 n2 n3:Int} (w w':World) (j:Nat) (u:Value) (hB:Below w.heap.size w w') (h:obyV tb sb mb b n1 n2 n3 j u w):obyV tb sb mb b n1 n2 n3 j u w':=by
 unfold obyV at h ⊢
 split at h <;> exact h
noncomputable def opsOf (n:Nat):Code→Option (Array Oper)
 | .region id ops _=>if id=n then some ops else none
 | .seq x y=>(opsOf n x).orElse fun _=>opsOf n y
 | .cond _ x y=>(opsOf n x).orElse fun _=>opsOf n y
 | .block _ c=>opsOf n c
 | .loop c=>opsOf n c
 | _=>none
noncomputable def obyOps:Array Oper:=((Tryz.f157.body).bind (opsOf 6)).getD #[]
theorem oby_ok:okOps obyOps [0,3] 52=true:=by kernel_rfl
theorem oby_top:topB obyOps=true:=by kernel_rfl
theorem oby_size:obyOps.size=13:=by kernel_rfl
theorem oby_hop {Q:Exit→Act→World→Prop} {tb sb mb:Nat} {b:List Int} {n1 n2 n3:Int} {w0:World} (htb:tb < w0.heap.size) (hsb:sb < w0.heap.size) (hmb:mb < w0.heap.size) (ct:w0.cell? ⟨tb,0,none⟩=some (.pointer (some ⟨sb,0,none⟩))) (cs:w0.cell? ⟨sb,2,none⟩=some (.int .i64 n1)) (cm:w0.cell? ⟨mb,1,none⟩=some (.string (strOfNums b)))
  (HRO:Hid (∀ w,Calls Tryz.prog 173 #[.string (strOfNums b), .int .i64 n1] w fun e w'=>e=.returned (.agg #[.int .i64 n1, .int .i64 n2, .int .u32 n3])∧Below w.heap.size w w'))
  (i:Nat) (o:Oper) (a:Act) (w:World) (hi:i < 12) (ho:obyOps[i]? = some o) (f0:a.tmps[0]? = some (.pointer (some ⟨tb,0,none⟩))) (f3:a.tmps[3]? = some (.pointer (some ⟨mb,0,none⟩)))
  (hdep:∀ (j:Nat) (o':Oper) (d:Nat),obyOps[j]? = some o'→o'.dst=some d→(∃ e∈o.after,e.on=j∧Region.binds .any e=true)→∃ v,a.tmps[d]? = some v∧obyV tb sb mb b n1 n2 n3 j v w) (hs:Below w0.heap.size w0 w)
  (K:Act→World→Prop) (hK:∀ v w',obyV tb sb mb b n1 n2 n3 i v w'→Below w.heap.size w w'→K (a.put o.dst v) w'):o.wp Tryz.prog a w K Q:=by
 have e0:=(hs.cell (p:=⟨tb,0,none⟩) htb).trans ct
 have e1:=(hs.cell (p:=⟨sb,2,none⟩) hsb).trans cs
 have e2:=(hs.cell (p:=⟨mb,1,none⟩) hmb).trans cm
 clear ct cs cm
 obtain rfl | rfl | rfl | rfl | rfl | rfl | rfl | rfl | rfl | rfl | rfl | rfl:i=0∨i=1∨i=2∨i=3∨i=4∨i=5∨i=6∨i=7∨i=8∨i=9∨i=10∨i=11:=by omega
 all_goals
  simp only [obyOps,Tryz.f157,opsOf,Option.bind_some] at ho
  simp [opsOf] at ho
  subst ho
 ·unfold Oper.wp execOp
  simp only [Act.eval,Array.getD_eq_getD_getElem?,f0,Option.getD_some]
  go_simp
  exact hK _ _ rfl (Below.refl _ _)
 ·unfold Oper.wp execOp
  simp only [Act.eval,Array.getD_eq_getD_getElem?,f3,Option.getD_some]
  go_simp
  exact hK _ _ rfl (Below.refl _ _)
 ·obtain ⟨u0,h0,p0⟩:=hdep 1 _ _ rfl rfl ⟨⟨1, .data⟩,by simp,rfl,rfl⟩
  simp only [obyV] at p0
  try subst p0
  unfold Oper.wp execOp
  simp only [Act.eval,Array.getD_eq_getD_getElem?,h0,Option.getD_some]
  go_simp
  exact hK _ _ rfl (Below.refl _ _)
 ·unfold Oper.wp execOp
  simp only [Act.eval,Array.getD_eq_getD_getElem?,f0,Option.getD_some]
  go_simp
  exact hK _ _ rfl (Below.refl _ _)
 ·obtain ⟨u0,h0,p0⟩:=hdep 3 _ _ rfl rfl ⟨⟨3, .data⟩,by simp,rfl,rfl⟩
  simp only [obyV] at p0
  try subst p0
  unfold Oper.wp execOp
  simp only [Act.eval,Array.getD_eq_getD_getElem?,h0,Option.getD_some]
  go_simp
  exact hK _ _ rfl (Below.refl _ _)
 ·obtain ⟨u0,h0,p0⟩:=hdep 4 _ _ rfl rfl ⟨⟨4, .data⟩,by simp,rfl,rfl⟩
  simp only [obyV] at p0
  try subst p0
  unfold Oper.wp execOp
  simp only [Act.eval,Array.getD_eq_getD_getElem?,h0,Option.getD_some]
  go_simp
  exact hK _ _ rfl (Below.refl _ _)
 ·obtain ⟨u0,h0,p0⟩:=hdep 5 _ _ rfl rfl ⟨⟨5, .data⟩,by simp,rfl,rfl⟩
  simp only [obyV] at p0
  try subst p0
  unfold Oper.wp execOp
  simp only [Act.eval,Array.getD_eq_getD_getElem?,h0,Option.getD_some]
  go_simp
  exact hK _ _ rfl (Below.refl _ _)
 ·obtain ⟨u0,h0,p0⟩:=hdep 6 _ _ rfl rfl ⟨⟨6, .data⟩,by simp,rfl,rfl⟩
  simp only [obyV] at p0
  try subst p0
  unfold Oper.wp execOp
  simp only [Act.eval,Array.getD_eq_getD_getElem?,h0,Option.getD_some]
  go_simp
  exact hK _ _ rfl (Below.refl _ _)
 ·obtain ⟨u0,h0,p0⟩:=hdep 7 _ _ rfl rfl ⟨⟨7, .data⟩,by simp,rfl,rfl⟩
  simp only [obyV] at p0
  try subst p0
  unfold Oper.wp execOp
  simp only [Act.eval,Array.getD_eq_getD_getElem?,h0,Option.getD_some]
  go_simp
  exact hK _ _ rfl (Below.refl _ _)
 ·obtain ⟨u0,h0,p0⟩:=hdep 8 _ _ rfl rfl ⟨⟨8, .data⟩,by simp,rfl,rfl⟩
  simp only [obyV] at p0
  try subst p0
  unfold Oper.wp execOp
  simp only [Act.eval,Array.getD_eq_getD_getElem?,h0,Option.getD_some]
  go_simp
  exact hK _ _ rfl (Below.refl _ _)
 ·obtain ⟨u0,h0,p0⟩:=hdep 9 _ _ rfl rfl ⟨⟨9, .data⟩,by simp,rfl,rfl⟩
  simp only [obyV] at p0
  try subst p0
  unfold Oper.wp execOp
  simp only [Act.eval,Array.getD_eq_getD_getElem?,h0,Option.getD_some]
  go_simp
  exact hK _ _ rfl (Below.refl _ _)
 ·obtain ⟨u0,h0,p0⟩:=hdep 2 _ _ rfl rfl ⟨⟨2, .data⟩,by simp,rfl,rfl⟩
  simp only [obyV] at p0
  try subst p0
  obtain ⟨u1,h1,p1⟩:=hdep 10 _ _ rfl rfl ⟨⟨10, .data⟩,by simp,rfl,rfl⟩
  simp only [obyV] at p1
  try subst p1
  unfold Oper.wp execOp
  simp only [Act.eval,Array.getD_eq_getD_getElem?,h0,h1,Option.getD_some]
  go_simp
  refine (HRO.out w).mono ?_
  rintro e w1 ⟨rfl,hB⟩
  exact hK _ _ rfl hB
theorem oby_last {Q:Exit→Act→World→Prop} {tb sb mb:Nat} {b:List Int} {n1 n2 n3:Int} {w0:World} {Post:Act→World→Prop} {P0:World→Prop}
  (HG:Hid (∀ w,Below w0.heap.size w0 w→Calls Tryz.prog 172 #[.pointer (some ⟨tb,0,none⟩), .agg #[.int .i64 n1, .int .i64 n2, .int .u32 n3]] w fun e w'=>(∃ v,e=.returned v)∧P0 w'))
  (o:Oper) (a:Act) (w:World) (ho:obyOps[12]? = some o)
  (hdep:∀ (j:Nat) (o':Oper) (d:Nat),obyOps[j]? = some o'→o'.dst=some d→(∃ e∈o.after,e.on=j∧Region.binds .any e=true)→∃ v,a.tmps[d]? = some v∧obyV tb sb mb b n1 n2 n3 j v w) (hs:Below w0.heap.size w0 w)
  (K:Act→World→Prop) (hK:∀ v w',P0 w'→K (a.put o.dst v) w'):o.wp Tryz.prog a w K Q:=by
 simp only [obyOps,Tryz.f157,opsOf,Option.bind_some] at ho
 simp [opsOf] at ho
 subst ho
 obtain ⟨u0,h0,p0⟩:=hdep 0 _ _ rfl rfl ⟨⟨0, .data⟩,by simp,rfl,rfl⟩
 simp only [obyV] at p0
 try subst p0
 obtain ⟨u1,h1,p1⟩:=hdep 11 _ _ rfl rfl ⟨⟨11, .data⟩,by simp,rfl,rfl⟩
 simp only [obyV] at p1
 try subst p1
 unfold Oper.wp execOp
 simp only [Act.eval,Array.getD_eq_getD_getElem?,h0,h1,Option.getD_some]
 go_simp
 refine (HG.out w hs).mono ?_
 rintro e w1 ⟨⟨v,rfl⟩,hP⟩
 exact hK v w1 hP
end Go.Proofs.YtjnkcibpkkjniaaGreat
namespace Go.Proofs.YtjnkcibpkkjniaaGreat
open Go Go.RowKit
open Go.Proofs.YtjnkcibpkkjniaaGreat.Pool (okOps topB wp_region_lb)
set_option maxHeartbeats 2000000
set_option maxRecDepth 20000
structure InAt (w:World) (ib io:Nat) (pe k:Int) (s:List Int):Prop where
 pe:w.cell? ⟨ib,io,none⟩=some (.int .i64 pe)
 k:w.cell? ⟨ib,io+1,none⟩=some (.int .i64 k)
 s:w.cell? ⟨ib,io+2,none⟩=some (.string (strOfNums s))
theorem InAt.keep {w w':World} {ib io:Nat} {pe k:Int} {s:List Int} (h:InAt w ib io pe k s) (e:w'.heap[ib]? = w.heap[ib]?):InAt w' ib io pe k s:=by
 have c:∀ o,w'.cell? ⟨ib,o,none⟩=w.cell? ⟨ib,o,none⟩:=fun o=>by simp [World.cell?,e]
 exact ⟨(c _).trans h.pe,(c _).trans h.k,(c _).trans h.s⟩
def wkV (tb ib io n cp:Nat) (pe kd:Int) (s:List Int) (j:Nat):Nat→Value→World→Prop
 | 0,v,_=>v=.pointer (some ⟨tb,0,none⟩)
 | 1,v,_=>v=.slice (some ⟨ib,io,none⟩) n cp
 | 2,v,_=>v=.int .i64 j
 | 3,v,_=>v=.pointer (some ⟨ib,io+3 * j,none⟩)
 | 4,v,_=>v=.agg #[.int .i64 pe, .int .i64 kd, .string (strOfNums s)]
 | _,_,_=>True
theorem wkV_mono {tb ib io n cp:Nat} {pe kd:Int} {s:List Int} {j:Nat} (w w':World) (i:Nat) (u:Value) (hB:Below w.heap.size w w') (h:wkV tb ib io n cp pe kd s j i u w):wkV tb ib io n cp pe kd s j i u w':=by
 unfold wkV at h ⊢
 split at h <;> exact h
noncomputable def wkOps:Array Oper:=((Tryz.f79.body).bind (opsOf 6)).getD #[]
theorem wk_ok:okOps wkOps [1,2,4] 27=true:=by kernel_rfl
theorem wk_top:topB wkOps=true:=by kernel_rfl
theorem wk_size:wkOps.size=6:=by kernel_rfl
theorem wk_hop0 {Q:Exit→Act→World→Prop} {tb ib io n cp bx:Nat} {pe kd:Int} {s:List Int} {w0:World} (hn:0 < n) (hbx:bx < w0.heap.size) (hib:ib < w0.heap.size) (cx:w0.cell? ⟨bx,0,none⟩=some (.pointer (some ⟨tb,0,none⟩))) (hI:InAt w0 ib (io+3 * 0) pe kd s)
  (i:Nat) (o:Oper) (a:Act) (w:World) (hi:i < 5) (ho:wkOps[i]? = some o) (f1:a.tmps[1]? = some (.slice (some ⟨ib,io,none⟩) n cp)) (f2:a.tmps[2]? = some (.pointer (some ⟨bx,0,none⟩))) (f4:a.tmps[4]? = some (.int .i64 0))
  (hdep:∀ (j:Nat) (o':Oper) (d:Nat),wkOps[j]? = some o'→o'.dst=some d→(∃ e∈o.after,e.on=j∧Region.binds .any e=true)→∃ v,a.tmps[d]? = some v∧wkV tb ib io n cp pe kd s 0 j v w) (hs:Below w0.heap.size w0 w)
  (K:Act→World→Prop) (hK:∀ v w',wkV tb ib io n cp pe kd s 0 i v w'→Below w.heap.size w w'→K (a.put o.dst v) w'):o.wp Tryz.prog a w K Q:=by
 have e0:=(hs.cell (p:=⟨bx,0,none⟩) hbx).trans cx
 obtain ⟨e1,e2,e3⟩:=hI.keep (hs.block ib hib)
 simp only [Nat.mul_zero,Nat.add_zero,Nat.mul_one,Nat.add_assoc,Nat.reduceAdd] at e1 e2 e3
 have hn0:(0:Int) < (n:Int):=by omega
 clear cx hI
 obtain rfl | rfl | rfl | rfl | rfl:i=0∨i=1∨i=2∨i=3∨i=4:=by omega
 all_goals
  simp only [wkOps,Tryz.f79,opsOf,Option.bind_some] at ho
  simp [opsOf] at ho
  subst ho
 ·unfold Oper.wp execOp
  simp only [Act.eval,Array.getD_eq_getD_getElem?,f2,Option.getD_some]
  go_simp
  exact hK _ _ rfl (Below.refl _ _)
 ·unfold Oper.wp execOp
  simp only [Act.eval,Array.getD_eq_getD_getElem?,f1,Option.getD_some]
  go_simp
  exact hK _ _ rfl (Below.refl _ _)
 ·unfold Oper.wp execOp
  simp only [Act.eval,Array.getD_eq_getD_getElem?,f4,Option.getD_some]
  go_simp
  exact hK _ _ rfl (Below.refl _ _)
 ·obtain ⟨u0,h0,p0⟩:=hdep 1 _ _ rfl rfl ⟨⟨1, .data⟩,by simp,rfl,rfl⟩
  simp only [wkV] at p0
  try subst p0
  obtain ⟨u1,h1,p1⟩:=hdep 2 _ _ rfl rfl ⟨⟨2, .data⟩,by simp,rfl,rfl⟩
  simp only [wkV] at p1
  try subst p1
  unfold Oper.wp execOp
  simp only [Act.eval,Array.getD_eq_getD_getElem?,h0,h1,Option.getD_some]
  go_simp
  exact hK _ _ rfl (Below.refl _ _)
 ·obtain ⟨u0,h0,p0⟩:=hdep 3 _ _ rfl rfl ⟨⟨3, .data⟩,by simp,rfl,rfl⟩
  simp only [wkV] at p0
  try subst p0
  unfold Oper.wp execOp
  simp only [Act.eval,Array.getD_eq_getD_getElem?,h0,Option.getD_some]
  go_simp
  exact hK _ _ rfl (Below.refl _ _)
theorem wk_hop1 {Q:Exit→Act→World→Prop} {tb ib io n cp bx:Nat} {pe kd:Int} {s:List Int} {w0:World} (hn:1 < n) (hbx:bx < w0.heap.size) (hib:ib < w0.heap.size) (cx:w0.cell? ⟨bx,0,none⟩=some (.pointer (some ⟨tb,0,none⟩))) (hI:InAt w0 ib (io+3 * 1) pe kd s)
  (i:Nat) (o:Oper) (a:Act) (w:World) (hi:i < 5) (ho:wkOps[i]? = some o) (f1:a.tmps[1]? = some (.slice (some ⟨ib,io,none⟩) n cp)) (f2:a.tmps[2]? = some (.pointer (some ⟨bx,0,none⟩))) (f4:a.tmps[4]? = some (.int .i64 1))
  (hdep:∀ (j:Nat) (o':Oper) (d:Nat),wkOps[j]? = some o'→o'.dst=some d→(∃ e∈o.after,e.on=j∧Region.binds .any e=true)→∃ v,a.tmps[d]? = some v∧wkV tb ib io n cp pe kd s 1 j v w) (hs:Below w0.heap.size w0 w)
  (K:Act→World→Prop) (hK:∀ v w',wkV tb ib io n cp pe kd s 1 i v w'→Below w.heap.size w w'→K (a.put o.dst v) w'):o.wp Tryz.prog a w K Q:=by
 have e0:=(hs.cell (p:=⟨bx,0,none⟩) hbx).trans cx
 obtain ⟨e1,e2,e3⟩:=hI.keep (hs.block ib hib)
 simp only [Nat.mul_zero,Nat.add_zero,Nat.mul_one,Nat.add_assoc,Nat.reduceAdd] at e1 e2 e3
 have hn0:(1:Int) < (n:Int):=by omega
 clear cx hI
 obtain rfl | rfl | rfl | rfl | rfl:i=0∨i=1∨i=2∨i=3∨i=4:=by omega
 all_goals
  simp only [wkOps,Tryz.f79,opsOf,Option.bind_some] at ho
  simp [opsOf] at ho
  subst ho
 ·unfold Oper.wp execOp
  simp only [Act.eval,Array.getD_eq_getD_getElem?,f2,Option.getD_some]
  go_simp
  exact hK _ _ rfl (Below.refl _ _)
 ·unfold Oper.wp execOp
  simp only [Act.eval,Array.getD_eq_getD_getElem?,f1,Option.getD_some]
  go_simp
  exact hK _ _ rfl (Below.refl _ _)
 ·unfold Oper.wp execOp
  simp only [Act.eval,Array.getD_eq_getD_getElem?,f4,Option.getD_some]
  go_simp
  exact hK _ _ rfl (Below.refl _ _)
 ·obtain ⟨u0,h0,p0⟩:=hdep 1 _ _ rfl rfl ⟨⟨1, .data⟩,by simp,rfl,rfl⟩
  simp only [wkV] at p0
  try subst p0
  obtain ⟨u1,h1,p1⟩:=hdep 2 _ _ rfl rfl ⟨⟨2, .data⟩,by simp,rfl,rfl⟩
  simp only [wkV] at p1
  try subst p1
  unfold Oper.wp execOp
  simp only [Act.eval,Array.getD_eq_getD_getElem?,h0,h1,Option.getD_some]
  go_simp
  exact hK _ _ rfl (Below.refl _ _)
 ·obtain ⟨u0,h0,p0⟩:=hdep 3 _ _ rfl rfl ⟨⟨3, .data⟩,by simp,rfl,rfl⟩
  simp only [wkV] at p0
  try subst p0
  unfold Oper.wp execOp
  simp only [Act.eval,Array.getD_eq_getD_getElem?,h0,Option.getD_some]
  go_simp
  exact hK _ _ rfl (Below.refl _ _)
theorem wk_last {Q:Exit→Act→World→Prop} {tb ib io n cp j:Nat} {pe kd:Int} {s:List Int} {w0:World} {P0:World→Prop}
  (HG:Hid (∀ w,Below w0.heap.size w0 w→Calls Tryz.prog 119 #[.pointer (some ⟨tb,0,none⟩), .agg #[.int .i64 pe, .int .i64 kd, .string (strOfNums s)]] w fun e w'=>(∃ v,e=.returned v)∧P0 w'))
  (o:Oper) (a:Act) (w:World) (ho:wkOps[5]? = some o)
  (hdep:∀ (j':Nat) (o':Oper) (d:Nat),wkOps[j']? = some o'→o'.dst=some d→(∃ e∈o.after,e.on=j'∧Region.binds .any e=true)→∃ v,a.tmps[d]? = some v∧wkV tb ib io n cp pe kd s j j' v w) (hs:Below w0.heap.size w0 w)
  (K:Act→World→Prop) (hK:∀ v w',P0 w'→K (a.put o.dst v) w'):o.wp Tryz.prog a w K Q:=by
 simp only [wkOps,Tryz.f79,opsOf,Option.bind_some] at ho
 simp [opsOf] at ho
 subst ho
 obtain ⟨u0,h0,p0⟩:=hdep 0 _ _ rfl rfl ⟨⟨0, .data⟩,by simp,rfl,rfl⟩
 simp only [wkV] at p0
 try subst p0
 obtain ⟨u1,h1,p1⟩:=hdep 4 _ _ rfl rfl ⟨⟨4, .data⟩,by simp,rfl,rfl⟩
 simp only [wkV] at p1
 try subst p1
 unfold Oper.wp execOp
 simp only [Act.eval,Array.getD_eq_getD_getElem?,h0,h1,Option.getD_some]
 go_simp
 refine (HG.out w hs).mono ?_
 rintro e w1 ⟨⟨v,rfl⟩,hP⟩
 exact hK v w1 hP
end Go.Proofs.YtjnkcibpkkjniaaGreat
