import Derived.Test.YtjnkcibpkkjniaaGreatA31
import Derived.Test.YtjnkcibpkkjniaaGreatA18
import Derived.Test.YtjnkcibpkkjniaaGreatA22
import Derived.Test.YtjnkcibpkkjniaaGreatA23
import Derived.Test.YtjnkcibpkkjniaaGreatA24
import Derived.Test.YtjnkcibpkkjniaaGreatA25
set_option linter.unusedVariables false
set_option linter.unusedSimpArgs false
set_option linter.unusedSectionVars false
namespace Go.Proofs.YtjnkcibpkkjniaaGreat.Pool
open Go Go.Conc Go.RowKit Go.Proofs.YtjnkcibpkkjniaaGreat.Sim
set_option maxRecDepth 20000
set_option maxHeartbeats 1000000
theorem hs_none {w1:World} {sp xb xc:Nat} (hc:w1.cell? ⟨sp,1,none⟩=some (.slice (some ⟨xb,0,none⟩) 1 xc)) :
  Calls Tryz.prog 36 #[.pointer (some ⟨sp,0,none⟩), .slice none 0 0] w1 fun e w'=>∃ v,e=.returned v∧∃ nb m E,SpOut w1 (fun _ m=>m=.slice none 0 0) v w' nb m E :=
 (split_none hc).mono fun e w' ⟨nb,k1,k2,k3,k4⟩=>⟨_,k1,nb, .slice none 0 0,_,rfl,k2,Old.of k3 rfl rfl,k4,InM.nil_ _,(fun b h=>h.elim),rfl⟩
theorem hs_one {w1:World} {sp xb xc jb jo jc:Nat} {k0:Int} {s0:List Int} (hc:w1.cell? ⟨sp,1,none⟩=some (.slice (some ⟨xb,0,none⟩) 1 xc)) (hsp:sp < w1.heap.size) (hjb:jb < w1.heap.size) (hxb:xb < w1.heap.size) (i0:InAt w1 jb jo 0 k0 s0) :
  Calls Tryz.prog 36 #[.pointer (some ⟨sp,0,none⟩), .slice (some ⟨jb,jo,none⟩) 1 jc] w1 fun e w'=>∃ v,e=.returned v∧∃ nb m E,SpOut w1 (fun w' m=>∃ g c,m=.slice (some ⟨g,0,none⟩) 1 c∧g < w'.heap.size∧g≠xb∧InAt w' g 0 0 k0 s0) v w' nb m E :=
 (split_one hc hsp hjb i0).mono fun e w' ⟨nb,g,c,k1,k2,k3,k4,k5,⟨⟨cur,q1,q2⟩,q3,q4⟩,k6⟩=>⟨_,k1,nb, .slice (some ⟨g,0,none⟩) 1 c,_,rfl,k2,Old.of k4 rfl rfl,k5,InM.row ⟨_,_,_,q1,q2⟩,(fun b h=>by subst h;exact ⟨q3,k3⟩),g,c,rfl,(Array.getElem?_eq_some_iff.1 q1).1,(by omega),k6⟩
theorem hs_two {w1:World} {sp xb xc jb jo jc:Nat} {k0 k1:Int} {s0 s1:List Int} (hc:w1.cell? ⟨sp,1,none⟩=some (.slice (some ⟨xb,0,none⟩) 1 xc)) (hsp:sp < w1.heap.size) (hjb:jb < w1.heap.size) (hxb:xb < w1.heap.size) (i0:InAt w1 jb jo 0 k0 s0) (i1:InAt w1 jb (jo+3) 0 k1 s1) :
  Calls Tryz.prog 36 #[.pointer (some ⟨sp,0,none⟩), .slice (some ⟨jb,jo,none⟩) 2 jc] w1 fun e w'=>∃ v,e=.returned v∧∃ nb m E,SpOut w1 (fun w' m=>∃ g c,m=.slice (some ⟨g,0,none⟩) 2 c∧g < w'.heap.size∧g≠xb∧InAt w' g 0 0 k0 s0∧InAt w' g 3 0 k1 s1) v w' nb m E :=
 (split_two hc hsp hjb i0 i1).mono fun e w' ⟨nb,g,c,k1,k2,k3,k4,k5,⟨⟨cur,q1,q2⟩,q3,q4⟩,k6,k7⟩=>⟨_,k1,nb, .slice (some ⟨g,0,none⟩) 2 c,_,rfl,k2,Old.of k4 rfl rfl,k5,InM.row ⟨_,_,_,q1,q2⟩,(fun b h=>by subst h;exact ⟨q3,k3⟩),g,c,rfl,(Array.getElem?_eq_some_iff.1 q1).1,(by omega),k6,k7⟩
theorem turnR_of {w0 w':World} {xb:Nat} {au id:Int} {p:Pz} {st1 hold1 heard1 spoke1:Int} {pa1:Option Addr} {pl1 pc1:Nat} {sent:List Int} {cl:Bool} {v:Value} (hlt:xb < w0.heap.size) (hT:Turned w0 w' xb (sessA au id p st1 hold1 heard1 spoke1 (.slice pa1 pl1 pc1)) sent cl v) (hN:∀ b,Named3 p pa1 b→b≠xb∧PlBlk w' b) :
  TurnR xb [] au id p.au p.hold st1 hold1 heard1 spoke1 sent cl v w':=by
 obtain ⟨sv,hv,hown⟩:=hT.v
 refine ⟨p,pa1,pl1,pc1,⟨by simpa using hT.s,(fun u hu=>by cases hu),hN⟩,rfl,rfl,sv,hv,RowAt.of hown rfl,?_,fun k hk e=>?_⟩
 ·obtain ⟨ao,cp,rfl,_⟩:=own_slice hown
  exact ⟨_,_,_,rfl⟩
 ·have:=World.ownsRow.lt hown k hk
  omega
theorem rows_behind {w w':World} {xb:Nat} {Z:List Value} {au id:Int} {p:Pz} {st hold heard spoke:Int} {pa:Option Addr} {pl pc:Nat} (hS:Sess w xb Z au id p st hold heard spoke pa pl pc) {T:Tape} {S1:Array Value} {sent:List Int} {cl:Bool} {v:Value}
  (hT:Turned { Sim.small w xb (sessA au id p st hold heard spoke (.slice pa pl pc)) with tape:=T,drawn:=0 } w' xb S1 sent cl v) {b:Nat} (hb:Named3 p pa b):b≠xb∧PlBlk w' b:=by
 obtain ⟨h1,h2⟩:=hS.rows b hb
 refine ⟨h1,h2.keep ?_⟩
 have hl:b < w.heap.size:=by obtain ⟨_,_,_,k,_⟩:=h2;exact (Array.getElem?_eq_some_iff.1 k).1
 exact (hT.heap b (by show b < (Sim.small w xb _).heap.size;rw [small_size];exact hl) h1).trans (small_o h1)
theorem ht_nil {w:World} {xb:Nat} {Z:List Value} {au id:Int} {p:Pz} {st hold heard spoke:Int} {pa:Option Addr} {pl pc:Nat} (hS:Sess w xb Z au id p st hold heard spoke pa pl pc) {now st1 hold1 heard1 spoke1:Int} {pa1:Option Addr} {pl1 pc1:Nat} (hsub:∀ b,Named3 p pa1 b→Named3 p pa b) {sent:List Int} {cl ov:Bool}
  (HW:∀ w1 base tb,TS w1 base tb xb now (.slice none 0 0) [] false false (sessA au id p st hold heard spoke (.slice pa pl pc))→Calls Tryz.prog 118 #[.pointer (some ⟨tb,0,none⟩)] w1 fun e w'=>(∃ v,e=.returned v)∧∃ sv',TS w' base tb xb now sv' sent cl ov (sessA au id p st1 hold1 heard1 spoke1 (.slice pa1 pl1 pc1))∧Rest base tb xb w1 w') (T:Tape) :
  Calls Tryz.prog 60 #[.pointer (some ⟨xb,0,none⟩), .int .i64 now, .slice none 0 0] { Sim.small w xb (sessA au id p st hold heard spoke (.slice pa pl pc)) with tape:=T,drawn:=0 } fun e w'=>∃ v,e=.returned v∧TurnR xb [] au id p.au p.hold st1 hold1 heard1 spoke1 sent cl v w':=by
 have hlt:xb < w.heap.size:=(Array.getElem?_eq_some_iff.1 hS.blk).1
 refine (turn_nil (w:={ Sim.small w xb (sessA au id p st hold heard spoke (.slice pa pl pc)) with tape:=T,drawn:=0 }) (S0:=sessA au id p st hold heard spoke (.slice pa pl pc)) (small_x hlt) HW).mono fun e w' ⟨v,k1,k2⟩=>⟨v,k1,turnR_of (by show xb < (Sim.small w xb _).heap.size;rw [small_size];exact hlt) k2 fun b hb=>rows_behind hS k2 (hsub b hb)⟩
theorem ht_silent {w:World} {xb:Nat} {Z:List Value} {au id:Int} {p:Pz} {st hold heard spoke:Int} {pa:Option Addr} {pl pc:Nat} (hS:Sess w xb Z au id p st hold heard spoke pa pl pc) {now:Int} (hn:Sane now) (hh:Sane heard) (hb:silentB st hold heard now=true) (T:Tape) :
  Calls Tryz.prog 60 #[.pointer (some ⟨xb,0,none⟩), .int .i64 now, .slice none 0 0] { Sim.small w xb (sessA au id p st hold heard spoke (.slice pa pl pc)) with tape:=T,drawn:=0 } fun e w'=>∃ v,e=.returned v∧TurnR xb [] au id p.au p.hold 0 0 0 0 (msgL 3 [4,0]) true v w' :=
 ht_nil hS (pa1:=none) (pl1:=0) (pc1:=0) (fun b h=>by
  rcases h with h | h | ⟨ad,e,_⟩
  ·exact .inl h
  ·exact .inr (.inl h)
  ·cases e) (fun w1 base tb hT=>watch_silent hT hn hh hb (Nat.zero_le _)) T
theorem ht_owes {w:World} {xb:Nat} {Z:List Value} {au id:Int} {p:Pz} {st hold heard spoke:Int} {pa:Option Addr} {pl pc:Nat} (hS:Sess w xb Z au id p st hold heard spoke pa pl pc) {now:Int} (hn:Sane now) (hh:Sane heard) (hsp:Sane spoke) (hho:0≤hold∧hold≤100000) (hb:silentB st hold heard now=false) (hb2:owesB st hold spoke now=true) (T:Tape) :
  Calls Tryz.prog 60 #[.pointer (some ⟨xb,0,none⟩), .int .i64 now, .slice none 0 0] { Sim.small w xb (sessA au id p st hold heard spoke (.slice pa pl pc)) with tape:=T,drawn:=0 } fun e w'=>∃ v,e=.returned v∧TurnR xb [] au id p.au p.hold st hold heard now (msgL 4 []) false v w' :=
 ht_nil hS (pa1:=pa) (pl1:=pl) (pc1:=pc) (fun b h=>h) (fun w1 base tb hT=>watch_owes hT hn hh hsp hho hb hb2 (Nat.zero_le _)) T
theorem ht_none {w:World} {xb:Nat} {Z:List Value} {au id:Int} {p:Pz} {st hold heard spoke:Int} {pa:Option Addr} {pl pc:Nat} (hS:Sess w xb Z au id p st hold heard spoke pa pl pc) {now:Int} (hn:Sane now) (hh:Sane heard) (hsp:Sane spoke) (hho:0≤hold∧hold≤100000) (hb:silentB st hold heard now=false) (hb2:owesB st hold spoke now=false) (T:Tape) :
  Calls Tryz.prog 60 #[.pointer (some ⟨xb,0,none⟩), .int .i64 now, .slice none 0 0] { Sim.small w xb (sessA au id p st hold heard spoke (.slice pa pl pc)) with tape:=T,drawn:=0 } fun e w'=>∃ v,e=.returned v∧TurnR xb [] au id p.au p.hold st hold heard spoke [] false v w' :=
 ht_nil hS (pa1:=pa) (pl1:=pl) (pc1:=pc) (ov:=false) (fun b h=>h) (fun w1 base tb hT=>(watch_none hT hn hh hsp hho hb hb2).mono fun e w' ⟨k1,k2,k3⟩=>⟨k1,_,k2,k3⟩) T
end Go.Proofs.YtjnkcibpkkjniaaGreat.Pool
namespace Go.Proofs.YtjnkcibpkkjniaaGreat.Pool
open Go Go.Conc Go.RowKit Go.Proofs.YtjnkcibpkkjniaaGreat.Sim
set_option maxRecDepth 20000
set_option maxHeartbeats 1000000
theorem ht_both {w:World} {xb:Nat} {Z:List Value} {au id:Int} {p:Pz} (hS:Sess w xb Z au id p 0 0 0 0 none 0 0) {now:Int} (hn:Sane now) (hid:0≤id) {d d1 d2 b:List Int} {n2 n3:Int} (hd:Bytes d) (hlen:d.length=48)
  (e1:d.drop 19=d1) (e2:d1.drop 10=d2) (e3:d2.drop 19=[]) (eb:d1.take 10=b) (h1:HdOk (d.take 19) 29 1) (h3:HdOk (d2.take 19) 19 4)
  (HRO:Hid (∀ w,Calls Tryz.prog 173 #[.string (strOfNums b), .int .i64 p.au] w fun e w'=>e=.returned (.agg #[.int .i64 p.au, .int .i64 n2, .int .u32 n3])∧Below w.heap.size w w')) {s0:List Int} {m:Value} (hm:∃ g c,m=.slice (some ⟨g,0,none⟩) 2 c∧g < w.heap.size∧g≠xb∧InAt w g 0 0 1 s0∧InAt w g 3 0 2 d) (T:Tape) :
  Calls Tryz.prog 60 #[.pointer (some ⟨xb,0,none⟩), .int .i64 now,m] { Sim.small w xb (sessA au id p 0 0 0 0 (.slice none 0 0)) with tape:=T,drawn:=0 } fun e w'=>∃ v,e=.returned v∧TurnR xb [] au id p.au p.hold 3 (minI p.hold n2) now now (msgL 1 (4::(twoL au++(twoL p.hold++(fourL id++[0]))))++msgL 4 []) false v w':=by
 have hlt:xb < w.heap.size:=(Array.getElem?_eq_some_iff.1 hS.blk).1
 obtain ⟨g,c,rfl,hg,hgx,i0,i1⟩:=hm
 have hsz:{ Sim.small w xb (sessA au id p 0 0 0 0 (.slice none 0 0)) with tape:=T,drawn:=0 }.heap.size=w.heap.size:=small_size w xb _
 have j0:InAt { Sim.small w xb (sessA au id p 0 0 0 0 (.slice none 0 0)) with tape:=T,drawn:=0 } g 0 0 1 s0:=i0.keep (small_o hgx)
 have j1:InAt { Sim.small w xb (sessA au id p 0 0 0 0 (.slice none 0 0)) with tape:=T,drawn:=0 } g (0+3) 0 2 d:=i1.keep (small_o hgx)
 refine (turn_both (w:={ Sim.small w xb (sessA au id p 0 0 0 0 (.slice none 0 0)) with tape:=T,drawn:=0 }) (sb:=xb) (small_x hlt) hn hid hd hlen e1 e2 e3 eb h1 h3 HRO ⟨by rw [hsz];exact hg,hgx⟩ j0 j1).mono ?_
 rintro e w' ⟨v,S1,k1,⟨g',c',cur,rfl,k2,k3,k4⟩,k5⟩
 rw [hsz] at k2
 refine ⟨v,k1,turnR_of (by rw [hsz];exact hlt) k5 fun b hb=>?_⟩
 rcases hb with hb | hb | ⟨ad,e,rfl⟩
 ·exact rows_behind hS k5 (.inl hb)
 ·exact rows_behind hS k5 (.inr (.inl hb))
 ·cases e
  exact ⟨by show g'≠xb;omega,cur,_,_,k3,k4⟩
theorem ht_idle {w:World} {xb:Nat} {Z:List Value} {au id:Int} {p:Pz} {pa:Option Addr} {pl pc:Nat} (hS:Sess w xb Z au id p 0 0 0 0 pa pl pc) {now:Int} (hn:Sane now) {s0:List Int} {m:Value} (hm:∃ g c,m=.slice (some ⟨g,0,none⟩) 1 c∧g < w.heap.size∧g≠xb∧InAt w g 0 0 2 s0) (T:Tape) :
  Calls Tryz.prog 60 #[.pointer (some ⟨xb,0,none⟩), .int .i64 now,m] { Sim.small w xb (sessA au id p 0 0 0 0 (.slice pa pl pc)) with tape:=T,drawn:=0 } fun e w'=>∃ v,e=.returned v∧TurnR xb [] au id p.au p.hold 0 0 0 0 [] false v w':=by
 have hlt:xb < w.heap.size:=(Array.getElem?_eq_some_iff.1 hS.blk).1
 obtain ⟨g,c,rfl,hg,hgx,i0⟩:=hm
 have hsz:{ Sim.small w xb (sessA au id p 0 0 0 0 (.slice pa pl pc)) with tape:=T,drawn:=0 }.heap.size=w.heap.size:=small_size w xb _
 have j0:InAt { Sim.small w xb (sessA au id p 0 0 0 0 (.slice pa pl pc)) with tape:=T,drawn:=0 } g 0 0 2 s0:=i0.keep (small_o hgx)
 refine (turn_idle (w:={ Sim.small w xb (sessA au id p 0 0 0 0 (.slice pa pl pc)) with tape:=T,drawn:=0 }) (sb:=xb) (small_x hlt) ⟨pa,pl,pc,rfl⟩ hn ⟨by rw [hsz];exact hg,hgx⟩ j0).mono ?_
 rintro e w' ⟨v,S1,k1,rfl,k5⟩
 exact ⟨v,k1,turnR_of (by rw [hsz];exact hlt) k5 fun b hb=>rows_behind hS k5 hb⟩
end Go.Proofs.YtjnkcibpkkjniaaGreat.Pool
namespace Go.Proofs.YtjnkcibpkkjniaaGreat.Pool
open Go Go.Conc Go.RowKit Go.Proofs.YtjnkcibpkkjniaaGreat.Sim
set_option maxRecDepth 20000
set_option maxHeartbeats 1000000
theorem Stnd.row {w w1:World} {sp xb xc:Nat} {Z:List Value} {now au id:Int} {p:Pz} {st hold heard spoke:Int} {pa:Option Addr} {pl pc:Nat} (hS:Stnd w sp xb xc Z now au id p st hold heard spoke pa pl pc) {n:Int} (e1:w1.heap=(w.setCell ⟨sp,0,none⟩ (.int .i64 n)).heap):w1.cell? ⟨sp,1,none⟩=some (.slice (some ⟨xb,0,none⟩) 1 xc):=by
 have h:w1.heap[sp]? = some (.cells #[.int .i64 n, .slice (some ⟨xb,0,none⟩) 1 xc] 91 (0,0)):=by
  rw [e1,set_blk hS.hsp]
  rfl
 exact cell_blk h 1
theorem Stnd.lt {w w1:World} {sp xb xc:Nat} {Z:List Value} {now au id:Int} {p:Pz} {st hold heard spoke:Int} {pa:Option Addr} {pl pc:Nat} (hS:Stnd w sp xb xc Z now au id p st hold heard spoke pa pl pc) {n:Int} (e1:w1.heap=(w.setCell ⟨sp,0,none⟩ (.int .i64 n)).heap):sp < w1.heap.size∧xb < w1.heap.size∧w1.heap.size=w.heap.size:=by
 have h1:=(Array.getElem?_eq_some_iff.1 hS.hsp).1
 have h2:=(Array.getElem?_eq_some_iff.1 hS.ss.blk).1
 have h3:w1.heap.size=w.heap.size:=by rw [e1];simp [World.setCell]
 exact ⟨by omega,by omega,h3⟩
theorem inAt_set {w w1:World} {sp jb jo:Nat} {pe kd:Int} {s:List Int} {n:Int} (h:InAt w jb jo pe kd s) (hne:jb≠sp) (e1:w1.heap=(w.setCell ⟨sp,0,none⟩ (.int .i64 n)).heap):InAt w1 jb jo pe kd s:=h.keep (by rw [e1];exact set_oth hne.symm 0 _)
theorem gx_silent {cs:List Frame} {Q:Frame→List Frame→World→Prop} {c:Frame} {x2:List Frame} {bc:Frame} {ac:Act} {ops:Array Oper} {i:Nat} {l:List Nat} {kk:List Item} (hcf:c=bc.at ac (.inRegion ops (i::l)::kk)) {w:World} {sp xb xc:Nat} {Z:List Value} {now au id:Int} {p:Pz} {st hold heard spoke:Int} {pa:Option Addr} {pl pc:Nat} (hS:Stnd w sp xb xc Z now au id p st hold heard spoke pa pl pc) {t:Int} (h0:0≤now) (h1:0≤t) (h2:now+t≤1099511627776) (hn:Sane (now+t)) (hh:Sane heard) (hb:silentB st hold heard (now+t)=true)
  (k:∀ w' outv Z' p' pa' pl' pc',Stnd w' sp xb xc Z' (now+t) au id p' 0 0 0 0 pa' pl' pc'→p'.au=p.au→p'.hold=p.hold→OutOk w' outv (msgL 3 [4,0]) true→(∀ x∈c::x2,∀ (j:Nat) v b,x.tmps[j]? = some v→isMk v=false→Nm v b→b < w.heap.size→b≠sp→b≠xb→¬ Named3 p pa b→w'.heap[b]? = w.heap[b]?∧¬ Named3 p' pa' b)→GX cs Q (c.finish outv) x2 w') :
  GX cs Q ((base 17).at { tmps:=#[.pointer (some ⟨sp,0,none⟩), .int .i64 t, .slice none 0 0]++Array.replicate 19 undef,defers:=[] } [.code (Tryz.f17.body.getD .skip)]) (c::x2) w :=
 turn_gx hcf hS h0 h1 h2 (X:=fun _ m=>m=.slice none 0 0) (fun w1 e1 e2=>hs_none (hS.row e1)) (fun w2 m E _ _ hm hs2 T=>by subst hm;exact ht_silent hs2 hn hh hb T) (.inr (by decide)) k
theorem gx_owes {cs:List Frame} {Q:Frame→List Frame→World→Prop} {c:Frame} {x2:List Frame} {bc:Frame} {ac:Act} {ops:Array Oper} {i:Nat} {l:List Nat} {kk:List Item} (hcf:c=bc.at ac (.inRegion ops (i::l)::kk)) {w:World} {sp xb xc:Nat} {Z:List Value} {now au id:Int} {p:Pz} {st hold heard spoke:Int} {pa:Option Addr} {pl pc:Nat} (hS:Stnd w sp xb xc Z now au id p st hold heard spoke pa pl pc) {t:Int} (h0:0≤now) (h1:0≤t) (h2:now+t≤1099511627776) (hn:Sane (now+t)) (hh:Sane heard) (hsp:Sane spoke) (hho:0≤hold∧hold≤100000) (hb:silentB st hold heard (now+t)=false) (hb2:owesB st hold spoke (now+t)=true)
  (k:∀ w' outv Z' p' pa' pl' pc',Stnd w' sp xb xc Z' (now+t) au id p' st hold heard (now+t) pa' pl' pc'→p'.au=p.au→p'.hold=p.hold→OutOk w' outv (msgL 4 []) false→(∀ x∈c::x2,∀ (j:Nat) v b,x.tmps[j]? = some v→isMk v=false→Nm v b→b < w.heap.size→b≠sp→b≠xb→¬ Named3 p pa b→w'.heap[b]? = w.heap[b]?∧¬ Named3 p' pa' b)→GX cs Q (c.finish outv) x2 w') :
  GX cs Q ((base 17).at { tmps:=#[.pointer (some ⟨sp,0,none⟩), .int .i64 t, .slice none 0 0]++Array.replicate 19 undef,defers:=[] } [.code (Tryz.f17.body.getD .skip)]) (c::x2) w :=
 turn_gx hcf hS h0 h1 h2 (X:=fun _ m=>m=.slice none 0 0) (fun w1 e1 e2=>hs_none (hS.row e1)) (fun w2 m E _ _ hm hs2 T=>by subst hm;exact ht_owes hs2 hn hh hsp hho hb hb2 T) (.inr (by decide)) k
theorem gx_none {cs:List Frame} {Q:Frame→List Frame→World→Prop} {c:Frame} {x2:List Frame} {bc:Frame} {ac:Act} {ops:Array Oper} {i:Nat} {l:List Nat} {kk:List Item} (hcf:c=bc.at ac (.inRegion ops (i::l)::kk)) {w:World} {sp xb xc:Nat} {Z:List Value} {now au id:Int} {p:Pz} {st hold heard spoke:Int} {pa:Option Addr} {pl pc:Nat} (hS:Stnd w sp xb xc Z now au id p st hold heard spoke pa pl pc) {t:Int} (h0:0≤now) (h1:0≤t) (h2:now+t≤1099511627776) (hn:Sane (now+t)) (hh:Sane heard) (hsp:Sane spoke) (hho:0≤hold∧hold≤100000) (hb:silentB st hold heard (now+t)=false) (hb2:owesB st hold spoke (now+t)=false)
  (k:∀ w' outv Z' p' pa' pl' pc',Stnd w' sp xb xc Z' (now+t) au id p' st hold heard spoke pa' pl' pc'→p'.au=p.au→p'.hold=p.hold→OutOk w' outv [] false→(∀ x∈c::x2,∀ (j:Nat) v b,x.tmps[j]? = some v→isMk v=false→Nm v b→b < w.heap.size→b≠sp→b≠xb→¬ Named3 p pa b→w'.heap[b]? = w.heap[b]?∧¬ Named3 p' pa' b)→GX cs Q (c.finish outv) x2 w') :
  GX cs Q ((base 17).at { tmps:=#[.pointer (some ⟨sp,0,none⟩), .int .i64 t, .slice none 0 0]++Array.replicate 19 undef,defers:=[] } [.code (Tryz.f17.body.getD .skip)]) (c::x2) w :=
 turn_gx hcf hS h0 h1 h2 (X:=fun _ m=>m=.slice none 0 0) (fun w1 e1 e2=>hs_none (hS.row e1)) (fun w2 m E _ _ hm hs2 T=>by subst hm;exact ht_none hs2 hn hh hsp hho hb hb2 T) (.inl ⟨rfl,rfl⟩) k
theorem gx_idle {cs:List Frame} {Q:Frame→List Frame→World→Prop} {c:Frame} {x2:List Frame} {bc:Frame} {ac:Act} {ops:Array Oper} {i:Nat} {l:List Nat} {kk:List Item} (hcf:c=bc.at ac (.inRegion ops (i::l)::kk)) {w:World} {sp xb xc:Nat} {Z:List Value} {now au id:Int} {p:Pz} {pa:Option Addr} {pl pc:Nat} (hS:Stnd w sp xb xc Z now au id p 0 0 0 0 pa pl pc) {t:Int} (h0:0≤now) (h1:0≤t) (h2:now+t≤1099511627776) (hn:Sane (now+t)) {jb jo jc:Nat} {s0:List Int} (hjb:jb < w.heap.size) (hjs:jb≠sp) (i0:InAt w jb jo 0 2 s0)
  (k:∀ w' outv Z' p' pa' pl' pc',Stnd w' sp xb xc Z' (now+t) au id p' 0 0 0 0 pa' pl' pc'→p'.au=p.au→p'.hold=p.hold→OutOk w' outv [] false→(∀ x∈c::x2,∀ (j:Nat) v b,x.tmps[j]? = some v→isMk v=false→Nm v b→b < w.heap.size→b≠sp→b≠xb→¬ Named3 p pa b→w'.heap[b]? = w.heap[b]?∧¬ Named3 p' pa' b)→GX cs Q (c.finish outv) x2 w') :
  GX cs Q ((base 17).at { tmps:=#[.pointer (some ⟨sp,0,none⟩), .int .i64 t, .slice (some ⟨jb,jo,none⟩) 1 jc]++Array.replicate 19 undef,defers:=[] } [.code (Tryz.f17.body.getD .skip)]) (c::x2) w :=
 turn_gx hcf hS h0 h1 h2 (X:=fun w' m=>∃ g c,m=.slice (some ⟨g,0,none⟩) 1 c∧g < w'.heap.size∧g≠xb∧InAt w' g 0 0 2 s0) (fun w1 e1 e2=>hs_one (hS.row e1) (hS.lt e1).1 (by rw [(hS.lt e1).2.2];exact hjb) (hS.lt e1).2.1 (inAt_set i0 hjs e1)) (fun w2 m E _ _ hm hs2 T=>ht_idle hs2 hn hm T) (.inl ⟨rfl,rfl⟩) k
theorem gx_both {cs:List Frame} {Q:Frame→List Frame→World→Prop} {c:Frame} {x2:List Frame} {bc:Frame} {ac:Act} {ops:Array Oper} {i:Nat} {l:List Nat} {kk:List Item} (hcf:c=bc.at ac (.inRegion ops (i::l)::kk)) {w:World} {sp xb xc:Nat} {Z:List Value} {now au id:Int} {p:Pz}  (hS:Stnd w sp xb xc Z now au id p 0 0 0 0 none 0 0) {t:Int} (h0:0≤now) (h1:0≤t) (h2:now+t≤1099511627776) (hn:Sane (now+t)) (hid:0≤id) {d d1 d2 b:List Int} {n2 n3:Int} (hd:Bytes d) (hlen:d.length=48)
  (e1:d.drop 19=d1) (e2:d1.drop 10=d2) (e3:d2.drop 19=[]) (eb:d1.take 10=b) (hh1:HdOk (d.take 19) 29 1) (hh3:HdOk (d2.take 19) 19 4)
  (HRO:Hid (∀ w,Calls Tryz.prog 173 #[.string (strOfNums b), .int .i64 p.au] w fun e w'=>e=.returned (.agg #[.int .i64 p.au, .int .i64 n2, .int .u32 n3])∧Below w.heap.size w w')) {jb jo jc:Nat} {s0:List Int} (hjb:jb < w.heap.size) (hjs:jb≠sp) (i0:InAt w jb jo 0 1 s0) (i1:InAt w jb (jo+3) 0 2 d)
  (k:∀ w' outv Z' p' pa' pl' pc',Stnd w' sp xb xc Z' (now+t) au id p' 3 (minI p.hold n2) (now+t) (now+t) pa' pl' pc'→p'.au=p.au→p'.hold=p.hold→OutOk w' outv (msgL 1 (4::(twoL au++(twoL p.hold++(fourL id++[0]))))++msgL 4 []) false→(∀ x∈c::x2,∀ (j:Nat) v b,x.tmps[j]? = some v→isMk v=false→Nm v b→b < w.heap.size→b≠sp→b≠xb→¬ Named3 p none b→w'.heap[b]? = w.heap[b]?∧¬ Named3 p' pa' b)→GX cs Q (c.finish outv) x2 w') :
  GX cs Q ((base 17).at { tmps:=#[.pointer (some ⟨sp,0,none⟩), .int .i64 t, .slice (some ⟨jb,jo,none⟩) 2 jc]++Array.replicate 19 undef,defers:=[] } [.code (Tryz.f17.body.getD .skip)]) (c::x2) w :=
 turn_gx hcf hS h0 h1 h2 (X:=fun w' m=>∃ g c,m=.slice (some ⟨g,0,none⟩) 2 c∧g < w'.heap.size∧g≠xb∧InAt w' g 0 0 1 s0∧InAt w' g 3 0 2 d) (fun w1 q1 q2=>hs_two (hS.row q1) (hS.lt q1).1 (by rw [(hS.lt q1).2.2];exact hjb) (hS.lt q1).2.1 (inAt_set i0 hjs q1) (inAt_set i1 hjs q1)) (fun w2 m E _ _ hm hs2 T=>ht_both hs2 hn hid hd hlen e1 e2 e3 eb hh1 hh3 HRO hm T) (.inr (by simp [msgL];try omega)) k
end Go.Proofs.YtjnkcibpkkjniaaGreat.Pool
namespace Go.Proofs.YtjnkcibpkkjniaaGreat.Pool
open Go Go.Conc Go.RowKit Go.Proofs.YtjnkcibpkkjniaaGreat.Sim
set_option maxRecDepth 20000
set_option maxHeartbeats 1000000
def opnD (hd:Int):List Int:=msgL 1 (openL 100 hd [0,0,0,IntKind.u8.wrap 1,0])++msgL 4 []
def ansD (hd:Int):List Int:=msgL 1 (4::(twoL 65000++(twoL hd++(fourL 200++[0]))))++msgL 4 []
theorem opnD_eq (hd:Int):opnD hd=[255,255,255,255,255,255,255,255,255,255,255,255,255,255,255,255,0,29,1,4,0,100,hd / 256 % 256,hd % 256,0,0,0,1,0,255,255,255,255,255,255,255,255,255,255,255,255,255,255,255,255,0,19,4]:=by
 have w1:IntKind.u8.wrap 1=1:=rfl
 simp [opnD,msgL,openL,twoL,mark,w1]
theorem ansD_eq (hd:Int):msgL 1 (openL 65000 hd [0,0,0,IntKind.u8.wrap 200,0])++msgL 4 []=ansD hd:=rfl
theorem ansD_len (hd:Int):0 < (ansD hd).length:=by simp [ansD,msgL,mark]
theorem mt_both {cs:List Frame} {Q:Frame→List Frame→World→Prop} {c:Frame} {x2:List Frame} {bc:Frame} {ac:Act} {ops:Array Oper} {i:Nat} {l:List Nat} {kk:List Item} (hcf:c=bc.at ac (.inRegion ops (i::l)::kk)) {w:World} {sp xb xc:Nat} {Z:List Value} {p:Pz} {hd:Int} (h3:3≤hd) (h6:hd≤65535) (hpa:p.au=100) (hph:p.hold=hd) (hS:Stnd w sp xb xc Z 0 65000 200 p 0 0 0 0 none 0 0) {jb jc:Nat} (hjb:jb < w.heap.size) (hjs:jb≠sp) (i0:InAt w jb 0 0 1 []) (i1:InAt w jb (0+3) 0 2 (opnD hd))
  (k:∀ w' outv Z' p' pa' pl' pc',Stnd w' sp xb xc Z' 0 65000 200 p' 3 hd 0 0 pa' pl' pc'→p'.hold=hd→OutOk w' outv (ansD hd) false→(∀ x∈c::x2,∀ (j:Nat) v b,x.tmps[j]? = some v→isMk v=false→Nm v b→b < w.heap.size→b≠sp→b≠xb→¬ Named3 p none b→w'.heap[b]? = w.heap[b]?∧¬ Named3 p' pa' b)→GX cs Q (c.finish outv) x2 w') :
  GX cs Q ((base 17).at { tmps:=#[.pointer (some ⟨sp,0,none⟩), .int .i64 0, .slice (some ⟨jb,0,none⟩) 2 jc]++Array.replicate 19 undef,defers:=[] } [.code (Tryz.f17.body.getD .skip)]) (c::x2) w:=by
 refine gx_both hcf hS (t:=0) (by decide) (by decide) (by decide) ⟨by decide,by decide⟩ (by decide) (d:=opnD hd) (d1:=[4,0,100,hd / 256 % 256,hd % 256,0,0,0,1,0,255,255,255,255,255,255,255,255,255,255,255,255,255,255,255,255,0,19,4]) (d2:=[255,255,255,255,255,255,255,255,255,255,255,255,255,255,255,255,0,19,4]) (n2:=hd) (n3:=1) (b:=[4,0,100,hd / 256 % 256,hd % 256,0,0,0,1,0]) ?_ (by rw [opnD_eq];rfl) (by rw [opnD_eq];rfl) rfl rfl rfl ?_ ?_ ?_ hjb hjs i0 i1 (fun w' outv Z' p' pa' pl' pc' q1 q2 q3 q4 q5=>?_)
 ·rw [opnD_eq]
  intro x hx
  simp only [List.mem_cons,List.not_mem_nil,or_false] at hx
  omega
 ·rw [opnD_eq]
  refine ⟨?_,rfl,rfl,by simp [lenL,numL],rfl, .inl ⟨rfl,rfl⟩⟩
  intro x hx
  simp only [List.take,List.mem_cons,List.not_mem_nil,or_false] at hx
  omega
 ·refine ⟨?_,rfl,rfl,by simp [lenL,numL],rfl, .inr ⟨rfl,rfl⟩⟩
  intro x hx
  simp only [List.take,List.drop,List.mem_cons,List.not_mem_nil,or_false] at hx
  omega
 ·refine fun w=>?_
  rw [hpa]
  refine readOpen_any (x1:=[0,100]) (x2:=[hd / 256 % 256,hd % 256]) (x3:=[0,0,0,1]) ?_ rfl rfl rfl rfl rfl ?_ rfl rfl rfl h3 (by decide) w
  ·intro x hx
   simp only [List.mem_cons,List.not_mem_nil,or_false] at hx
   omega
  ·simp [numL]
   omega
 ·have hm:minI p.hold hd=hd:=by rw [hph];simp [minI]
  rw [hm] at q1
  rw [hph] at q4
  exact k w' outv Z' p' pa' pl' pc' q1 (q3.trans hph) q4 q5
end Go.Proofs.YtjnkcibpkkjniaaGreat.Pool
namespace Go.Proofs.YtjnkcibpkkjniaaGreat.Pool
open Go Go.Conc Go.RowKit Go.Proofs.YtjnkcibpkkjniaaGreat.Sim
set_option maxRecDepth 20000
set_option maxHeartbeats 2000000
noncomputable def mtRest:Code:=match Tryz.f14.body with | some (.seq _ (.seq _ (.seq _ (.seq _ (.seq _ r)))))=>r | _=>.skip
theorem met_to {cs:List Frame} {Q:Frame→List Frame→World→Prop} {xs:List Frame} {w:World} {hd:Int} (h1:3≤hd) (h2:hd≤65535)
  (hk:∀ (a:Act) (w':World) (sp xb xc:Nat) (Z:List Value) (p:Pz) (jb jc:Nat),a.defers=[]→a.tmps.size=83→a.tmps[0]? = some (.int .i64 1)→a.tmps[1]? = some (.int .i64 hd)→a.tmps[9]? = some (.pointer (some ⟨sp,0,none⟩))→a.tmps[11]? = some (.slice (some ⟨jb,0,none⟩) 2 jc)→Stnd w' sp xb xc Z 0 65000 200 p 0 0 0 0 none 0 0→p.au=100→p.hold=hd→jb < w'.heap.size→jb≠sp→InAt w' jb 0 0 1 []→InAt w' jb (0+3) 0 2 (opnD hd)→(∀ b,b < w.heap.size→w'.heap[b]? = w.heap[b]?)→(w.heap.size≤sp∧w.heap.size≤xb∧∀ b,Named3 p none b→w.heap.size≤b) →
   GX cs Q ((base 14).at a [.code mtRest]) xs w') :
  GX cs Q ((base 14).at { tmps:=#[.int .i64 1, .int .i64 hd, .int .i64 0, .int .i64 0]++Array.replicate 79 undef,defers:=[] } [.code (Tryz.f14.body.getD .skip)]) xs w:=by
 have HK:Hid (_):=hk
 clear hk
 (have g_v:=valTo_ok;have g_s:=skpTo_ok;have g_e:=entTo_ok;have g_c:=cell_again;have g_f:=frozen_again;have g_h:=heap_again)
 simp only [Tryz.f14,Option.getD_some]
 walk_nrm
 refine GX.seq ?_
 ((refine GX.region ?_);walk_nrm)
 ((refine GX.v rfl rfl (by kernel_rfl) (fun T K hK=>?_));unfold execOp;go_simp;(refine hK _ _ ?_);clear hK K;(refine GX.like (v:=w) ?_ rfl rfl);clear T;walk_nrm)
 refine GX.regionEnd ?_
 refine GX.seq ?_
 ((refine GX.region ?_);walk_nrm)
 iterate 4 ((refine GX.v rfl rfl (by kernel_rfl) (fun T K hK=>?_));unfold execOp;go_simp;(refine hK _ _ ?_);clear hK K;(refine GX.like (v:=w) ?_ rfl rfl);clear T;walk_nrm)
 refine GX.c rfl rfl (by kernel_rfl) (fun T K hK=>?_)
 unfold execOp
 go_simp
 refine hK _ _ _ (fun T'=>?_)
 clear hK K
 refine Calls.mono (config_one _ hd 0 0) ?_
 rintro e w1 ⟨q,qc,g1,g2,rfl,hR,hB1⟩
 refine ⟨_,rfl,?_⟩
 walk_nrm
 refine GX.c rfl rfl (by kernel_rfl) (fun T K hK=>?_)
 unfold execOp
 go_simp
 refine hK _ _ _ (fun T'=>?_)
 clear hK K
 refine Calls.mono (new_one (B:=w.heap.size) (w:=again w1 T') (hR.keep fun b _ _=>rfl) h1 h2 (by decide) (by decide) (by decide)) ?_
 rintro e w2 ⟨sp,rfl,xb,xc,Z,p,hsp,hS,hpa,hph,hne,hnm,hnew,hB2⟩
 refine ⟨_,rfl,?_⟩
 walk_nrm
 iterate 3 ((refine GX.v rfl rfl (by kernel_rfl) (fun T K hK=>?_));unfold execOp;go_simp;(refine hK _ _ ?_);clear hK K;(refine GX.like (v:=w2) ?_ rfl rfl);clear T;walk_nrm)
 iterate 2 ((refine GX.v rfl rfl (by kernel_rfl) (fun T K hK=>?_));unfold execOp;go_simp;(refine hK _ _ ?_);clear hK K;(refine GX.like (v:=(w2.alloc (.cells #[.int .i64 0, .int .i64 0] 50))) ?_ rfl rfl);clear T;walk_nrm)
 refine GX.u rfl rfl (by kernel_rfl) (fun T K hK=>?_)
 unfold execOp
 go_simp
 refine hK _ ?_
 clear hK K
 refine GX.like (v:=(((w2.alloc (.cells #[.int .i64 0, .int .i64 0] 50)).setCell ⟨w2.heap.size,0,none⟩ (.int .i64 0)).setCell ⟨w2.heap.size,1,none⟩ (.int .i64 0))) ?_ rfl rfl
 clear T
 have hz3:(((w2.alloc (.cells #[.int .i64 0, .int .i64 0] 50)).setCell ⟨w2.heap.size,0,none⟩ (.int .i64 0)).setCell ⟨w2.heap.size,1,none⟩ (.int .i64 0)).heap.size=w2.heap.size+1:=by simp
 have hF:(((w2.alloc (.cells #[.int .i64 0, .int .i64 0] 50)).setCell ⟨w2.heap.size,0,none⟩ (.int .i64 0)).setCell ⟨w2.heap.size,1,none⟩ (.int .i64 0)).heap[w2.heap.size]? = some (.cells #[.int .i64 0, .int .i64 0] 50 (0,0)):=by
  rw [set_blk (set_blk (Go.heap_alloc_new w2 _) 0 _) 1 _]
  rfl
 have hk3:∀ b,b < w2.heap.size→(((w2.alloc (.cells #[.int .i64 0, .int .i64 0] 50)).setCell ⟨w2.heap.size,0,none⟩ (.int .i64 0)).setCell ⟨w2.heap.size,1,none⟩ (.int .i64 0)).heap[b]? = w2.heap[b]?:=fun b hb=>by
  rw [set_oth (by omega) 1 _,set_oth (by omega) 0 _]
  exact Go.heap_alloc_old w2 _ hb
 generalize (((w2.alloc (.cells #[.int .i64 0, .int .i64 0] 50)).setCell ⟨w2.heap.size,0,none⟩ (.int .i64 0)).setCell ⟨w2.heap.size,1,none⟩ (.int .i64 0))=w3 at hz3 hF hk3 ⊢
 have y0:=cell_blk hF 0
 have y1:=cell_blk hF 1
 simp at y0 y1
 walk_nrm
 refine GX.regionEnd ?_
 refine GX.seq ?_
 refine GX.seq ?_
 ((refine GX.region ?_);walk_nrm)
 iterate 7 ((refine GX.v rfl rfl (by kernel_rfl) (fun T K hK=>?_));unfold execOp;go_simp;(refine hK _ _ ?_);clear hK K;(refine GX.like (v:=w3) ?_ rfl rfl);clear T;walk_nrm)
 refine GX.regionEnd ?_
 refine GX.cond (t:=false) (by kernel_rfl) rfl ?_
 simp only [Bool.false_eq_true,if_false]
 refine GX.skipCode ?_
 refine GX.seq ?_
 ((refine GX.region ?_);walk_nrm)
 iterate 1 ((refine GX.v rfl rfl (by kernel_rfl) (fun T K hK=>?_));unfold execOp;go_simp;(refine hK _ _ ?_);clear hK K;(refine GX.like (v:=w3) ?_ rfl rfl);clear T;walk_nrm)
 refine GX.regionEnd ?_
 refine GX.seq ?_
 refine GX.seq ?_
 ((refine GX.region ?_);walk_nrm)
 ((refine GX.v rfl rfl (by kernel_rfl) (fun T K hK=>?_));unfold execOp;go_simp;(refine hK _ _ ?_);clear hK K;(refine GX.like (v:=w3) ?_ rfl rfl);clear T;walk_nrm)
 refine GX.regionEnd ?_
 refine GX.block ?_
 refine GX.loop ?_
 refine GX.seq ?_
 refine GX.seq ?_
 ((refine GX.region ?_);walk_nrm)
 iterate 3 ((refine GX.v rfl rfl (by kernel_rfl) (fun T K hK=>?_));unfold execOp;go_simp;(refine hK _ _ ?_);clear hK K;(refine GX.like (v:=w3) ?_ rfl rfl);clear T;walk_nrm)
 refine GX.regionEnd ?_
 refine GX.cond (t:=true) (by kernel_rfl) rfl ?_
 simp only [if_true]
 refine GX.skipCode ?_
 refine GX.seq ?_
 refine GX.block ?_
 ((refine GX.region ?_);walk_nrm)
 iterate 9 ((refine GX.v rfl rfl (by kernel_rfl) (fun T K hK=>?_));unfold execOp;go_simp;(refine hK _ _ ?_);clear hK K;(refine GX.like (v:=w3) ?_ rfl rfl);clear T;walk_nrm)
 rw [show IntKind.i64.wrap 100=100 from rfl,show IntKind.i64.wrap 1=1 from rfl]
 refine GX.c rfl rfl (by kernel_rfl) (fun T K hK=>?_)
 unfold execOp
 go_simp
 refine hK _ _ _ (fun T'=>?_)
 clear hK K
 refine Calls.mono (kopen_any 100 hd 1 _) ?_
 rintro e w4 ⟨rfl,hB4⟩
 refine ⟨_,rfl,?_⟩
 walk_nrm
 refine GX.c rfl rfl (by kernel_rfl) (fun T K hK=>?_)
 unfold execOp
 go_simp
 refine hK _ _ _ (fun T'=>?_)
 clear hK K
 refine Calls.mono (kalive_any _) ?_
 rintro e w5 ⟨rfl,hB5⟩
 refine ⟨_,rfl,?_⟩
 walk_nrm
 have ks:=S_append
 iterate 2 ((refine GX.v rfl rfl (by kernel_rfl) (fun T K hK=>?_));unfold execOp;go_simp;(refine hK _ _ ?_);clear hK K;(refine GX.like (v:=w5) ?_ rfl rfl);clear T;walk_nrm)
 refine GX.v rfl rfl (by kernel_rfl) (fun T K hK=>?_)
 unfold execOp
 go_simp
 refine hK _ _ ?_
 clear hK K
 refine GX.like (v:=(w5.alloc (.cells #[.int .i64 0, .int .i64 1, .string ⟨#[]⟩, .int .i64 0, .int .i64 2, .string (strOfNums (msgL 1 (openL 100 hd [0,0,0,IntKind.u8.wrap 1,0])++msgL 4 []))] 43))) ?_ rfl rfl
 clear T
 have hI:(w5.alloc (.cells #[.int .i64 0, .int .i64 1, .string ⟨#[]⟩, .int .i64 0, .int .i64 2, .string (strOfNums (msgL 1 (openL 100 hd [0,0,0,IntKind.u8.wrap 1,0])++msgL 4 []))] 43)).heap[w5.heap.size]? = some (.cells #[.int .i64 0, .int .i64 1, .string ⟨#[]⟩, .int .i64 0, .int .i64 2, .string (strOfNums (msgL 1 (openL 100 hd [0,0,0,IntKind.u8.wrap 1,0])++msgL 4 []))] 43 (0,0)):=Go.heap_alloc_new w5 _
 have hB6:Below w5.heap.size w5 (w5.alloc (.cells #[.int .i64 0, .int .i64 1, .string ⟨#[]⟩, .int .i64 0, .int .i64 2, .string (strOfNums (msgL 1 (openL 100 hd [0,0,0,IntKind.u8.wrap 1,0])++msgL 4 []))] 43)):=(Below.refl _ _).alloc (Nat.le_refl _) _
 generalize (w5.alloc (.cells #[.int .i64 0, .int .i64 1, .string ⟨#[]⟩, .int .i64 0, .int .i64 2, .string (strOfNums (msgL 1 (openL 100 hd [0,0,0,IntKind.u8.wrap 1,0])++msgL 4 []))] 43))=w6 at hI hB6 ⊢
 walk_nrm
 obtain ⟨i2,z2,hE,hZ⟩:=el43Q
 have hrun:=fun T:Tape=>run_append_nil (P:=Tryz.prog) (w:=again w6 T) 44 44 43 i2 z2 Tryz.underlying44 hE.info hE.zero ⟨w5.heap.size,0,none⟩ 2 2 (#[.int .i64 0, .int .i64 1, .string ⟨#[]⟩, .int .i64 0, .int .i64 2, .string (strOfNums (msgL 1 (openL 100 hd [0,0,0,IntKind.u8.wrap 1,0])++msgL 4 []))]).toList (by rw [hE.size];rfl) (fun j u hu=>by
  rw [show (⟨w5.heap.size,0,none⟩:Addr).add j=⟨w5.heap.size,j,none⟩ from by simp [Addr.add_lit]]
  exact (cell_blk (w:=again w6 T) hI j).trans (by simpa using hu)) (by decide) (by decide) (by rw [hE.bytes];decide)
 refine GX.append rfl rfl (by kernel_rfl) (.tmp 37) (.tmp 50) 44 rfl rfl rfl (fun T=>⟨_,_,hrun T,?_⟩)
 clear hrun
 have hJ:((again w6 T).drew.alloc (.cells ((#[.int .i64 0, .int .i64 1, .string ⟨#[]⟩, .int .i64 0, .int .i64 2, .string (strOfNums (msgL 1 (openL 100 hd [0,0,0,IntKind.u8.wrap 1,0])++msgL 4 []))]:Array Value).toList.toArray++Builtin.zeroCells z2.cells (grownCap (again w6 T) 2 0 43 - 2)) 43)).heap[w6.heap.size]? = some (.cells _ 43 (0,0)):=Go.heap_alloc_new (again w6 T).drew _
 have hB7:Old w6 ((again w6 T).drew.alloc (.cells ((#[.int .i64 0, .int .i64 1, .string ⟨#[]⟩, .int .i64 0, .int .i64 2, .string (strOfNums (msgL 1 (openL 100 hd [0,0,0,IntKind.u8.wrap 1,0])++msgL 4 []))]:Array Value).toList.toArray++Builtin.zeroCells z2.cells (grownCap (again w6 T) 2 0 43 - 2)) 43)):=⟨rfl,by rw [World.size_alloc];exact Nat.le_succ _,fun b hb=>Go.heap_alloc_old (again w6 T).drew _ hb⟩
 generalize ((again w6 T).drew.alloc (.cells ((#[.int .i64 0, .int .i64 1, .string ⟨#[]⟩, .int .i64 0, .int .i64 2, .string (strOfNums (msgL 1 (openL 100 hd [0,0,0,IntKind.u8.wrap 1,0])++msgL 4 []))]:Array Value).toList.toArray++Builtin.zeroCells z2.cells (grownCap (again w6 T) 2 0 43 - 2)) 43))=w7 at hJ hB7 ⊢
 rw [show (again w6 T).heap.size=w6.heap.size from rfl]
 generalize grownCap (again w6 T) 2 0 43=jc at hJ ⊢
 walk_nrm
 ((refine GX.v rfl rfl (by kernel_rfl) (fun T K hK=>?_));unfold execOp;go_simp;(refine hK _ _ ?_);clear hK K;(refine GX.like (v:=w7) ?_ rfl rfl);clear T;walk_nrm)
 refine GX.regionEnd ?_
 refine GX.inBlock ?_
 ((refine GX.region ?_);walk_nrm)
 iterate 3 ((refine GX.v rfl rfl (by kernel_rfl) (fun T K hK=>?_));unfold execOp;go_simp;(refine hK _ _ ?_);clear hK K;(refine GX.like (v:=w7) ?_ rfl rfl);clear T;walk_nrm)
 refine GX.regionEnd ?_
 refine GX.inLoop ?_
 refine GX.seq ?_
 refine GX.seq ?_
 ((refine GX.region ?_);walk_nrm)
 iterate 3 ((refine GX.v rfl rfl (by kernel_rfl) (fun T K hK=>?_));unfold execOp;go_simp;(refine hK _ _ ?_);clear hK K;(refine GX.like (v:=w7) ?_ rfl rfl);clear T;walk_nrm)
 refine GX.regionEnd ?_
 refine GX.cond (t:=false) (by kernel_rfl) rfl ?_
 simp only [Bool.false_eq_true,if_false]
 refine GX.exit rfl ?_
 have s1:w.heap.size≤w1.heap.size:=hB1.size
 have s2:w1.heap.size≤w2.heap.size:=hB2.size
 have s4:w3.heap.size≤w4.heap.size:=hB4.size
 have s5:w4.heap.size≤w5.heap.size:=hB5.size
 have s6:=hB6.size
 have s7:=hB7.size
 have c7:∀ b,b < w2.heap.size→w7.heap[b]? = w2.heap[b]?:=fun b hb=>(hB7.block b (by omega)).trans ((hB6.block b (by omega)).trans ((hB5.block b (by show b < w4.heap.size;omega)).trans ((hB4.block b (by show b < w3.heap.size;omega)).trans (hk3 b hb))))
 have l1:=(Array.getElem?_eq_some_iff.1 hsp).1
 have l2:=(Array.getElem?_eq_some_iff.1 hS.blk).1
 have lJ:=(Array.getElem?_eq_some_iff.1 hJ).1
 have cJ:∀ j,j < 6→w7.cell? ⟨w6.heap.size,j,none⟩=(#[.int .i64 0, .int .i64 1, .string ⟨#[]⟩, .int .i64 0, .int .i64 2, .string (strOfNums (msgL 1 (openL 100 hd [0,0,0,IntKind.u8.wrap 1,0])++msgL 4 []))]:Array Value)[j]?:=fun j hj=>(cell_blk hJ j).trans (Array.getElem?_append_left (by simpa using hj))
 have hfin:=HK.out
 unfold mtRest at hfin
 simp only [Tryz.f14] at hfin
 refine hfin _ _ sp xb xc Z p w6.heap.size jc rfl rfl rfl rfl rfl rfl ⟨(c7 sp l1).trans hsp,hS.keep fun b hb=>c7 b ?_,hne,hnm⟩ hpa hph lJ (by omega) ⟨cJ 0 (by decide),cJ 1 (by decide),cJ 2 (by decide)⟩ ⟨cJ 3 (by decide),cJ 4 (by decide),cJ 5 (by decide)⟩ (fun b hb=>(c7 b (by omega)).trans ((hB2.block b (by show b < w1.heap.size;omega)).trans (hB1.block b hb))) ⟨Nat.le_trans s1 hnew.1,Nat.le_trans s1 hnew.2.1,fun b hb=>Nat.le_trans s1 (hnew.2.2 b hb)⟩
 rcases hb with rfl | hb
 ·exact l2
 ·obtain ⟨cur,ty,fr,q,_⟩:=(hS.rows b hb).2
  exact (Array.getElem?_eq_some_iff.1 q).1
end Go.Proofs.YtjnkcibpkkjniaaGreat.Pool
