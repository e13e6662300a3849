import Derived.Test.YtjnkcibpkkjniaaGreatRows
import Derived.WalkKit
import Derived.WalkSpells
import Derived.WalkLawsBesides
import Derived.Test.YtjnkcibpkkjniaaGreatA16
import Derived.Test.YtjnkcibpkkjniaaGreatA10
import Derived.Lib.SliceRun
import Derived.Deep.Cut
import Derived.Test.YtjnkcibpkkjniaaGreatA15
import Derived.Laws.Append
set_option linter.unusedVariables false
set_option linter.unusedSimpArgs false
set_option linter.unusedSectionVars false
namespace Go.Proofs.YtjnkcibpkkjniaaGreat
open Go.RowKit
structure Rl where
 p:Bool
 a:Int
 l:Int
 g:Int
 e:Int
def Rl.cells (r:Rl):List Value:=[.bool r.p, .int .u32 r.a, .int .i64 r.l, .int .i64 r.g, .int .i64 r.e]
def Sl (w:World) (size:Nat) (v:Value) (n:Nat) (c:Nat→List Value):Prop :=
 ∃ ao cap,v=.slice ao n cap∧n≤cap∧cap≤maxLen ∧
  (0 < n→∃ b o,ao=some ⟨b,o,none⟩∧∀ i < n,∀ k u,(c i)[k]? = some u→w.cell? ⟨b,o+i * size+k,none⟩=some u)
def RsAt (w:World) (v:Value) (n:Nat) (r:Nat→Rl):Prop:=Sl w 5 v n (fun i=>(r i).cells)∧∀ i < n,0≤(r i).a∧(r i).a < 4294967296
structure Pr where
 au:Int
 hold:Int
 lim:Int
 pref:Int
 wait:Int
 im:Value
 ni:Nat
 ir:Nat→Rl
 ex:Value
 ne:Nat
 er:Nat→Rl
def Pr.cells (p:Pr):List Value:=[.int .i64 p.au, .int .i64 p.hold, .int .i64 p.lim, .int .i64 p.pref, .int .i64 p.wait,p.im,p.ex]
def PsAt (w:World) (v:Value) (n:Nat) (P:Nat→Pr):Prop :=
 Sl w 7 v n (fun i=>(P i).cells)∧∀ i < n,RsAt w (P i).im (P i).ni (P i).ir∧RsAt w (P i).ex (P i).ne (P i).er
def betB (n lo hi:Int):Bool:=decide (lo≤n) && decide (n≤hi)
theorem betB_true {n lo hi:Int} (h:lo≤n) (h':n≤hi):betB n lo hi=true:=by simp [betB,h,h']
theorem betB_false {n lo hi:Int} (h:¬ (lo≤n∧n≤hi)):betB n lo hi=false:=by simp [betB];omega
def ruleB (r:Rl):Bool:=betB r.l 0 32 && decide (r.a % 2^(32 - r.l.toNat)=0) && betB r.g r.l r.e && decide (r.e≤32)
def allB (n:Nat) (r:Nat→Rl):Bool:=(List.range n).all fun i=>ruleB (r i)
def fltB (n:Nat) (r:Nat→Rl):Bool:=decide (n≤8) && allB n r
def holdB (h:Int):Bool:=h == 0 || betB h 3 65535
def peerB (p:Pr):Bool:=betB p.au 1 65535 && holdB p.hold && decide (0≤p.lim) && betB p.pref 0 2147483648 && betB p.wait 0 1000 && fltB p.ni p.ir && fltB p.ne p.er
def spkB (au id:Int) (n:Nat):Bool:=betB au 1 65535 && (id != 0) && decide (n≤8)
def firstBad (P:Nat→Pr):Nat→Nat→Nat
 | _,0=>0
 | k,m+1=>if peerB (P k) then firstBad P (k+1) m else k+1
def faultOf (au id:Int) (n:Nat) (P:Nat→Pr):Int×Int :=
 if spkB au id n then (if firstBad P 0 n=0 then (0,0) else (1,(firstBad P 0 n:Nat))) else (1,0)
theorem pow_split (l:Nat) (h:l≤32):(2:Int)^32=2^(32-l) * 2^l:=by
 rw [←Int.pow_add];congr 1;omega
theorem shl_zero (a:Int) (l:Nat) (h:l≤32):(a * 2^l) % 2^32=0↔a % 2^(32-l)=0:=by
 have hp:(0:Int) < 2^l:=Int.pow_pos (by decide)
 rw [pow_split l h,Int.mul_comm a,Int.mul_comm (2^(32-l)),Int.mul_emod_mul_of_pos _ _ hp]
 constructor
 ·intro h0;rcases Int.mul_eq_zero.1 h0 with h1 | h1
  ·omega
  ·exact h1
 ·intro h0;rw [h0];simp
theorem shlB (a l:Int) (h1:l≤32):a * 2 ^ l.toNat % 4294967296=0↔a % 2^(32 - l.toNat)=0:=shl_zero a l.toNat (by omega)
end Go.Proofs.YtjnkcibpkkjniaaGreat
namespace Go.Proofs.YtjnkcibpkkjniaaGreat
open Go.RowKit
set_option maxHeartbeats 400000 in
theorem between_any (n lo hi:Int) (w:World) :
  Calls Tryz.prog 92 #[.int .i64 n, .int .i64 lo, .int .i64 hi] w fun e w'=>e=.returned (.bool (betB n lo hi))∧w'=w:=by
 go_enter Tryz.func92,Tryz.ntmps92
 go_wp2
 all_goals go_ret
 all_goals (refine ⟨?_,rfl⟩;simp [betB];try omega)
set_option maxHeartbeats 400000 in
theorem asMayBe_any (n:Int) (w:World) :
  Calls Tryz.prog 90 #[.int .i64 n] w fun e w'=>e=.returned (.bool (betB n 1 65535))∧w'=w:=by
 go_enter Tryz.func90,Tryz.ntmps90
 go_wp2_with (go_at_call 92;refine (between_any _ _ _ _).mono ?_;rintro e w' ⟨rfl,rfl⟩)
 go_ret
 exact ⟨rfl,rfl⟩
set_option maxHeartbeats 400000 in
theorem holdMayBe_any (n:Int) (w:World) :
  Calls Tryz.prog 91 #[.int .i64 n] w fun e w'=>e=.returned (.bool (holdB n))∧w'=w:=by
 by_cases h:(n == 0)=true
 ·go_enter Tryz.func91,Tryz.ntmps91
  go_wp2_with (go_at_call 92;refine (between_any _ _ _ _).mono ?_;rintro e w' ⟨rfl,rfl⟩)
  go_ret
  exact ⟨by simp [holdB,h],rfl⟩
 ·have h':(n == 0)=false:=by simpa using h
  clear h
  go_enter Tryz.func91,Tryz.ntmps91
  go_wp2_with (go_at_call 92;refine (between_any _ _ _ _).mono ?_;rintro e w' ⟨rfl,rfl⟩)
  go_ret
  exact ⟨by simp [holdB,h'],rfl⟩
set_option maxHeartbeats 400000 in
theorem ruleMayBe_any (p:Bool) (a l g e:Int) (w:World) :
  Calls Tryz.prog 124 #[.agg #[.bool p, .int .u32 a, .int .i64 l, .int .i64 g, .int .i64 e]] w fun en w'=>en=.returned (.bool (ruleB ⟨p,a,l,g,e⟩))∧Below w.heap.size w w':=by
 by_cases h1:0≤l∧l≤32
 ·obtain ⟨h0,h1⟩:=h1
  have hb:=betB_true h0 h1
  have H:=shlB a l h1
  have H':Hid (a * 2 ^ l.toNat % 4294967296=0↔a % 2^(32 - l.toNat)=0):=H
  clear H
  go_enter Tryz.func124,Tryz.ntmps124
  go_wp2_with (go_at_call 92;refine (between_any _ _ _ _).mono ?_;rintro e w' ⟨rfl,rfl⟩)
  all_goals go_ret
  ·have k1:a * 2 ^ l.toNat % 4294967296=0:=by assumption
   have k2:betB g l e=true:=by assumption
   have k3:=H'.out.1 k1
   exact ⟨by simp [ruleB,hb,k2,k3],(Below.refl _ _).alloc (Nat.le_refl _) _⟩
  ·have k1:a * 2 ^ l.toNat % 4294967296=0:=by assumption
   have k2:¬ betB g l e=true:=by assumption
   exact ⟨by simp [ruleB,hb,k2],(Below.refl _ _).alloc (Nat.le_refl _) _⟩
  ·have k1:¬ a * 2 ^ l.toNat % 4294967296=0:=by assumption
   have k3:¬ a % 2^(32 - l.toNat)=0:=fun h=>k1 (H'.out.2 h)
   exact ⟨by simp [ruleB,hb,k3],(Below.refl _ _).alloc (Nat.le_refl _) _⟩
 ·have hb:=betB_false h1
  clear h1
  go_enter Tryz.func124,Tryz.ntmps124
  go_wp2_with (go_at_call 92;refine (between_any _ _ _ _).mono ?_;rintro e w' ⟨rfl,rfl⟩)
  all_goals go_ret
  exact ⟨by simp [ruleB,hb],(Below.refl _ _).alloc (Nat.le_refl _) _⟩
set_option maxHeartbeats 400000 in
theorem clos_any (p:Bool) (a l g e:Int) (w:World) :
  Calls Tryz.prog 123 #[.agg #[.bool p, .int .u32 a, .int .i64 l, .int .i64 g, .int .i64 e]] w fun en w'=>en=.returned (.bool (!ruleB ⟨p,a,l,g,e⟩))∧Below w.heap.size w w':=by
 go_enter Tryz.func123,Tryz.ntmps123
 go_wp2_with (go_at_call 124;refine (ruleMayBe_any _ _ _ _ _ _).mono ?_;rintro e w' ⟨rfl,hb⟩)
 go_ret
 exact ⟨rfl,((Below.refl _ _).alloc (Nat.le_refl _) _).trans (hb.mono (by simp))⟩
end Go.Proofs.YtjnkcibpkkjniaaGreat
namespace Go.Proofs.YtjnkcibpkkjniaaGreat
open Go.RowKit
theorem RsAt.cell {w w':World} {v:Value} {n:Nat} {r:Nat→Rl} (h:RsAt w v n r) (hB:Below w.heap.size w w'):RsAt w' v n r:=by
 refine ⟨?_,h.2⟩
 obtain ⟨ao,cap,hv,hn,hm,hc⟩:=h.1
 refine ⟨ao,cap,hv,hn,hm,fun h0=>?_⟩
 obtain ⟨b,o,hao,hcell⟩:=hc h0
 refine ⟨b,o,hao,fun i hi k u hu=>?_⟩
 have:=hcell i hi k u hu
 rw [hB.cell (World.block_lt_of_cell? _ _ this)]
 exact this
theorem rule_cells {w:World} {b o n:Nat} {r:Nat→Rl}
  (h:∀ i < n,∀ k u,((r i).cells)[k]? = some u→w.cell? ⟨b,o+i * 5+k,none⟩=some u) (k:Nat) (hk:k < n) :
  w.cell? ⟨b,o+k * 5,none⟩=some (.bool (r k).p)∧w.cell? ⟨b,o+k * 5+1,none⟩=some (.int .u32 (r k).a)∧w.cell? ⟨b,o+k * 5+2,none⟩=some (.int .i64 (r k).l) ∧
   w.cell? ⟨b,o+k * 5+3,none⟩=some (.int .i64 (r k).g)∧w.cell? ⟨b,o+k * 5+4,none⟩=some (.int .i64 (r k).e) :=
 ⟨h k hk 0 _ rfl,h k hk 1 _ rfl,h k hk 2 _ rfl,h k hk 3 _ rfl,h k hk 4 _ rfl⟩
theorem rule_cells' {w wr:World} {b o n:Nat} {r:Nat→Rl} (hB:Below w.heap.size w wr)
  (h:∀ i < n,∀ k u,((r i).cells)[k]? = some u→w.cell? ⟨b,o+i * 5+k,none⟩=some u) (k:Nat) (hk:k < n) :
  wr.cell? ⟨b,o+k * 5,none⟩=some (.bool (r k).p)∧wr.cell? ⟨b,o+k * 5+1,none⟩=some (.int .u32 (r k).a)∧wr.cell? ⟨b,o+k * 5+2,none⟩=some (.int .i64 (r k).l) ∧
   wr.cell? ⟨b,o+k * 5+3,none⟩=some (.int .i64 (r k).g)∧wr.cell? ⟨b,o+k * 5+4,none⟩=some (.int .i64 (r k).e) :=
 rule_cells (fun i hi k u hu=>by have:=h i hi k u hu;rw [hB.cell (World.block_lt_of_cell? _ _ this)];exact this) k hk
theorem all_step {Q:Nat→Prop} {k:Nat} (h:∀ j < k,Q j) (hk:Q k):∀ j < k+1,Q j:=by
 intro j hj
 rcases Nat.lt_succ_iff_lt_or_eq.1 hj with h1 | h1
 ·exact h j h1
 ·exact h1▸hk
theorem allB_true {n:Nat} {r:Nat→Rl} (h:∀ j < n,ruleB (r j)=true):allB n r=true:=by
 simp only [allB,List.all_eq_true,List.mem_range];exact h
theorem allB_false {n k:Nat} {r:Nat→Rl} (hk:k < n) (h:ruleB (r k)=false):allB n r=false:=by
 rw [Bool.eq_false_iff];intro ha
 simp only [allB,List.all_eq_true,List.mem_range] at ha
 rw [ha k hk] at h;exact absurd h (by decide)
set_option maxHeartbeats 400000 in
theorem index_any (ao:Option Addr) (n cap:Nat) (r:Nat→Rl) (w:World) (h:RsAt w (.slice ao n cap) n r) :
  Calls Tryz.prog 150 #[.slice ao n cap, .func (.func 123) #[] #[]] w fun e w' =>
   ∃ k:Int,e=.returned (.int .i64 k)∧decide (0≤k)=!allB n r∧Below w.heap.size w w':=by
 obtain ⟨⟨ao',cap',hv,hn,hc,hcell⟩,_⟩:=h
 obtain ⟨rfl,_,rfl⟩:ao=ao'∧n=n∧cap=cap':=by simpa using hv
 unfold maxLen at hc
 clear hv
 go_enter Tryz.func150,Tryz.ntmps150
 go_wp2_with fail
 go_loopw [8] (fun i wr=>∃ k:Nat,k≤n∧i=.int .i64 k∧(∀ j < k,ruleB (r j)=true)∧Below w.heap.size w wr) (fun i _=>n - (intOf i).toNat)
 case atStart=>exact ⟨0,Nat.zero_le _,rfl,fun j hj=>by omega,Below.refl _ _⟩
 case round =>
  obtain ⟨k,hk,rfl,hall,hB⟩:=hrel
  by_cases hlt:k < n
  ·obtain ⟨b,o,hao,hcs⟩:=hcell (by omega)
   subst hao
   obtain ⟨c0,c1,c2,c3,c4⟩:=rule_cells' hB hcs k hlt
   clear hcs hcell
   have hall':Hid (∀ j < k,ruleB (r j)=true):=hall
   clear hall
   go_wp2_with (go_at_call 123;refine (clos_any _ _ _ _ _ _).mono ?_;rintro e w' ⟨rfl,hb⟩)
   ·go_ret
    have h0:(!ruleB (r k))=true:=by assumption
    have hf:ruleB (r k)=false:=by simpa using h0
    exact ⟨k,rfl,by rw [allB_false hlt hf];simp,hB.trans (hb.mono hB.size)⟩
   ·have h0:(!ruleB (r k))=false:=by assumption
    have ht:ruleB (r k)=true:=by simpa using h0
    go_roundw
    case rel=>exact ⟨k+1,by omega,by go_num,all_step hall'.out ht,hB.trans (hb.mono hB.size)⟩
    case measure=>simp [intOf];omega
  ·have:k=n:=by omega
   subst this
   have ht:=allB_true hall
   go_wp2
   go_ret
   exact ⟨-1,rfl,by rw [ht];simp,hB⟩
set_option maxHeartbeats 400000 in
theorem contains_any (ao:Option Addr) (n cap:Nat) (r:Nat→Rl) (w:World) (h:RsAt w (.slice ao n cap) n r) :
  Calls Tryz.prog 122 #[.slice ao n cap, .func (.func 123) #[] #[]] w fun e w' =>
   e=.returned (.bool (!allB n r))∧Below w.heap.size w w':=by
 go_enter Tryz.func122,Tryz.ntmps122
 have H:Hid (RsAt w (.slice ao n cap) n r):=h
 clear h
 go_wp2_with fail
 refine (index_any _ _ _ r _ H.out).mono ?_
 rintro e w' ⟨k,rfl,hk,hB⟩
 have HK:Hid (decide (0≤k)=!allB n r):=hk
 clear hk
 go_wp2
 go_ret
 exact ⟨by rw [←HK.out];rfl,hB⟩
set_option maxHeartbeats 400000 in
theorem filterMayBe_any (ao:Option Addr) (n cap:Nat) (r:Nat→Rl) (w:World) (h:RsAt w (.slice ao n cap) n r) :
  Calls Tryz.prog 93 #[.slice ao n cap] w fun e w'=>e=.returned (.bool (fltB n r))∧Below w.heap.size w w':=by
 have H:Hid (RsAt w (.slice ao n cap) n r):=h
 have hc:n≤9223372036854775807:=by obtain ⟨⟨ao',cap',hv,hn,hc,hcell⟩,_⟩:=h;unfold maxLen at hc;omega
 clear h
 by_cases h8:n≤8
 ·go_enter Tryz.func93,Tryz.ntmps93
  go_wp2_with fail
  refine (contains_any _ _ _ r _ H.out).mono ?_
  rintro e w' ⟨rfl,hB⟩
  go_wp2
  go_ret
  exact ⟨by simp [fltB,h8],hB⟩
 ·go_enter Tryz.func93,Tryz.ntmps93
  go_wp2_with fail
  go_ret
  exact ⟨by simp [fltB,h8],Below.refl _ _⟩
end Go.Proofs.YtjnkcibpkkjniaaGreat
namespace Go.Proofs.YtjnkcibpkkjniaaGreat
open Go.RowKit
set_option maxHeartbeats 1000000 in
theorem peerMayBe_any (au hold lim pref wait:Int) (ai ae:Option Addr) (ni ci ne ce:Nat) (ir er:Nat→Rl) (w:World)
  (hi:RsAt w (.slice ai ni ci) ni ir) (he:RsAt w (.slice ae ne ce) ne er) :
  Calls Tryz.prog 65 #[.agg #[.int .i64 au, .int .i64 hold, .int .i64 lim, .int .i64 pref, .int .i64 wait, .slice ai ni ci, .slice ae ne ce]] w fun e w' =>
   e=.returned (.bool (peerB ⟨au,hold,lim,pref,wait, .slice ai ni ci,ni,ir, .slice ae ne ce,ne,er⟩))∧Below w.heap.size w w':=by
 have Hi:Hid (RsAt w (.slice ai ni ci) ni ir):=hi
 have He:Hid (RsAt w (.slice ae ne ce) ne er):=he
 clear hi he
 go_enter Tryz.func65,Tryz.ntmps65
 go_wp2_with (first | (go_at_call 90;refine (asMayBe_any _ _).mono ?_;rintro e w' ⟨rfl,rfl⟩) | (go_at_call 91;refine (holdMayBe_any _ _).mono ?_;rintro e w' ⟨rfl,rfl⟩) | (go_at_call 92;refine (between_any _ _ _ _).mono ?_;rintro e w' ⟨rfl,rfl⟩) | fail)
 case isTrue =>
  refine (filterMayBe_any _ _ _ ir _ (Hi.out.cell ((Below.refl _ _).alloc (Nat.le_refl _) _))).mono ?_
  rintro e w1 ⟨rfl,hB⟩
  have c6:w1.cell? ⟨w.heap.size,6,none⟩=some (.slice ae ne ce):=(hB.cell (p:=⟨w.heap.size,6,none⟩) (by simp)).trans (World.cell?_alloc_new _ _ _ _)
  go_wp2_with fail
  ·refine (filterMayBe_any _ _ _ er _ (He.out.cell (((Below.refl _ _).alloc (Nat.le_refl _) _).trans (hB.mono (by simp))))).mono ?_
   rintro e w2 ⟨rfl,hB2⟩
   go_wp2_with fail
   go_ret
   exact ⟨by simp [peerB, *],((Below.refl _ _).alloc (Nat.le_refl _) _).trans ((hB.mono (by simp)).trans (hB2.mono (by have:=hB.size;simp at this;omega)))⟩
  ·go_ret
   exact ⟨by simp [peerB, *],((Below.refl _ _).alloc (Nat.le_refl _) _).trans (hB.mono (by simp))⟩
 all_goals go_ret
 all_goals exact ⟨by simp [peerB, *] <;> intros <;> omega,(Below.refl _ _).alloc (Nat.le_refl _) _⟩
set_option maxHeartbeats 400000 in
theorem speakerMayBe_any (au id nh:Int) (ao:Option Addr) (n cap:Nat) (w:World) (hn:n≤9223372036854775807) :
  Calls Tryz.prog 64 #[.agg #[.int .i64 au, .int .u32 id, .int .u32 nh, .slice ao n cap]] w fun e w' =>
   e=.returned (.bool (spkB au id n))∧Below w.heap.size w w':=by
 go_enter Tryz.func64,Tryz.ntmps64
 go_wp2_with (go_at_call 90;refine (asMayBe_any _ _).mono ?_;rintro e w' ⟨rfl,rfl⟩)
 all_goals go_ret
 all_goals (refine ⟨?_,(Below.refl _ _).alloc (Nat.le_refl _) _⟩)
 all_goals (have hd:decide ((n:Int)≤8)=decide (n≤8):=by rw [Bool.eq_iff_iff];simp only [decide_eq_true_iff];omega)
 all_goals simp [spkB, *]
theorem PsAt.cell {w w':World} {v:Value} {n:Nat} {P:Nat→Pr} (h:PsAt w v n P) (hB:Below w.heap.size w w'):PsAt w' v n P:=by
 obtain ⟨⟨ao,cap,hv,hn,hm,hc⟩,h2⟩:=h
 refine ⟨⟨ao,cap,hv,hn,hm,fun h0=>?_⟩,fun i hi=>⟨(h2 i hi).1.cell hB,(h2 i hi).2.cell hB⟩⟩
 obtain ⟨b,o,hao,hcell⟩:=hc h0
 refine ⟨b,o,hao,fun i hi k u hu=>?_⟩
 have:=hcell i hi k u hu
 rw [hB.cell (World.block_lt_of_cell? _ _ this)]
 exact this
theorem peer_cells {w wr:World} {b o n:Nat} {P:Nat→Pr} (hB:Below w.heap.size w wr)
  (h:∀ i < n,∀ k u,((P i).cells)[k]? = some u→w.cell? ⟨b,o+i * 7+k,none⟩=some u) (k:Nat) (hk:k < n) :
  wr.cell? ⟨b,o+k * 7,none⟩=some (.int .i64 (P k).au)∧wr.cell? ⟨b,o+k * 7+1,none⟩=some (.int .i64 (P k).hold)∧wr.cell? ⟨b,o+k * 7+2,none⟩=some (.int .i64 (P k).lim) ∧
   wr.cell? ⟨b,o+k * 7+3,none⟩=some (.int .i64 (P k).pref)∧wr.cell? ⟨b,o+k * 7+4,none⟩=some (.int .i64 (P k).wait)∧wr.cell? ⟨b,o+k * 7+5,none⟩=some (P k).im ∧
   wr.cell? ⟨b,o+k * 7+6,none⟩=some (P k).ex:=by
 have hs:∀ j u,((P k).cells)[j]? = some u→wr.cell? ⟨b,o+k * 7+j,none⟩=some u:=fun j u hu=>by
  have:=h k hk j u hu;rw [hB.cell (World.block_lt_of_cell? _ _ this)];exact this
 exact ⟨hs 0 _ rfl,hs 1 _ rfl,hs 2 _ rfl,hs 3 _ rfl,hs 4 _ rfl,hs 5 _ rfl,hs 6 _ rfl⟩
theorem RsAt.isSlice {w:World} {v:Value} {n:Nat} {r:Nat→Rl} (h:RsAt w v n r):∃ ao cap,v=.slice ao n cap:=by
 obtain ⟨⟨ao,cap,hv,_⟩,_⟩:=h;exact ⟨ao,cap,hv⟩
theorem firstBad_good {P:Nat→Pr}:∀ (m k:Nat),(∀ j,k≤j→j < k+m→peerB (P j)=true)→firstBad P k m=0:=by
 intro m
 induction m with
 | zero=>intro k _;rfl
 | succ m ih=>intro k h;simp only [firstBad,h k (by omega) (by omega),if_true];exact ih (k+1) (fun j h1 h2=>h j (by omega) (by omega))
theorem firstBad_at {P:Nat→Pr}:∀ (m k d:Nat),d < m→(∀ j,k≤j→j < k+d→peerB (P j)=true)→peerB (P (k+d))=false→firstBad P k m=k+d+1:=by
 intro m
 induction m with
 | zero=>intro k d h;omega
 | succ m ih =>
  intro k d hd h hf
  cases d with
  | zero=>simp only [Nat.add_zero] at hf;simp [firstBad,hf]
  | succ d =>
   simp only [firstBad,h k (by omega) (by omega),if_true]
   rw [ih (k+1) d (by omega) (fun j h1 h2=>h j (by omega) (by omega)) (by rw [←hf];congr 2;omega)];omega
set_option maxHeartbeats 1000000 in
theorem check_any (au id nh:Int) (ao:Option Addr) (n cap:Nat) (P:Nat→Pr) (w:World) (h:PsAt w (.slice ao n cap) n P) :
  Calls Tryz.prog 39 #[.agg #[.int .i64 au, .int .u32 id, .int .u32 nh, .slice ao n cap]] w fun e w' =>
   e=.returned (.agg #[.int .i64 (faultOf au id n P).1, .int .i64 (faultOf au id n P).2])∧Below w.heap.size w w':=by
 have hc:n≤9223372036854775807:=by obtain ⟨⟨ao',cap',hv,hn,hc,hcell⟩,_⟩:=h;unfold maxLen at hc;omega
 have H:Hid (PsAt w (.slice ao n cap) n P):=h
 clear h
 go_enter Tryz.func39,Tryz.ntmps39
 go_wp2_with fail
 refine (speakerMayBe_any _ _ _ _ _ _ _ hc).mono ?_
 rintro e w1 ⟨rfl,hB⟩
 have cf0:w1.cell? ⟨w.heap.size+1,0,none⟩=some (.int .i64 0):=(hB.cell (p:=⟨w.heap.size+1,0,none⟩) (by simp)).trans ((World.cell?_alloc_at _ _ _ _ (by simp)).trans rfl)
 have cf1:w1.cell? ⟨w.heap.size+1,1,none⟩=some (.int .i64 0):=(hB.cell (p:=⟨w.heap.size+1,1,none⟩) (by simp)).trans ((World.cell?_alloc_at _ _ _ _ (by simp)).trans rfl)
 have cc3:w1.cell? ⟨w.heap.size,3,none⟩=some (.slice ao n cap):=(hB.cell (p:=⟨w.heap.size,3,none⟩) (by simp only [World.size_alloc];omega)).trans ((World.cell?_alloc_past _ _ _ (by simp)).trans (World.cell?_alloc_new _ _ _ _))
 have ff0:w1.frozen? ⟨w.heap.size+1,0,none⟩=false:=(hB.frozen (p:=⟨w.heap.size+1,0,none⟩) (by simp)).trans (World.frozen?_alloc_at _ _ _ _ (by simp))
 have ff1:w1.frozen? ⟨w.heap.size+1,1,none⟩=false:=(hB.frozen (p:=⟨w.heap.size+1,1,none⟩) (by simp)).trans (World.frozen?_alloc_at _ _ _ _ (by simp))
 have hz:w.heap.size+1 < w1.heap.size:=by have:=hB.size;simp only [World.size_alloc] at this;omega
 have hBw:Below w.heap.size w w1:=(((Below.refl _ _).alloc (Nat.le_refl _) _).alloc (by simp) _).trans (hB.mono (by simp only [World.size_alloc];omega))
 clear hB
 cases hs:spkB au id n
 ·have Hs:Hid (spkB au id n=false):=hs
  clear hs
  go_wp2_with fail
  exact bodyPost_ret (v:=.agg #[.int .i64 1, .int .i64 0]) (by simp [results,Tryz.results39,go_sem, *]) rfl ⟨by simp [faultOf,Hs.out],(hBw.setCell (by simp) _).setCell (by simp) _⟩
 ·have Hs:Hid (spkB au id n=true):=hs
  clear hs
  go_wp2_with fail
  have hB:=hBw
  clear hBw
  go_loopw [12] (fun i wr=>∃ k:Nat,k≤n∧i=.int .i64 k∧(∀ j < k,peerB (P j)=true)∧Below w1.heap.size w1 wr) (fun i _=>n - (intOf i).toNat)
  case atStart=>exact ⟨0,Nat.zero_le _,rfl,fun j hj=>by omega,Below.refl _ _⟩
  case round =>
   obtain ⟨k,hk,rfl,hall,hBr⟩:=hrel
   have gf0:=(hBr.cell (p:=⟨w.heap.size+1,0,none⟩) hz).trans cf0
   have gf1:=(hBr.cell (p:=⟨w.heap.size+1,1,none⟩) hz).trans cf1
   have gz0:=(hBr.frozen (p:=⟨w.heap.size+1,0,none⟩) hz).trans ff0
   have gz1:=(hBr.frozen (p:=⟨w.heap.size+1,1,none⟩) hz).trans ff1
   have hzr:w.heap.size+1 < wr.heap.size:=Nat.lt_of_lt_of_le hz hBr.size
   have Hall:Hid (∀ j < k,peerB (P j)=true):=hall
   have hBt:Below w.heap.size w wr:=hB.trans (hBr.mono (by omega))
   clear hall cf0 cf1 ff0 ff1 cc3
   by_cases hlt:k < n
   ·obtain ⟨⟨ao',cap',hv,hcn,_,hcell⟩,hrs⟩:=H.out.cell hBt
    obtain ⟨rfl,_,rfl⟩:ao=ao'∧n=n∧cap=cap':=by simpa using hv
    obtain ⟨b,o,hao,hcs⟩:=hcell (by omega)
    subst hao
    obtain ⟨c0,c1,c2,c3,c4,c5,c6⟩:=peer_cells (Below.refl _ _) hcs k hlt
    obtain ⟨hri,hre⟩:=hrs k hlt
    obtain ⟨ai,ci,ei⟩:=hri.isSlice
    obtain ⟨ae,ce,ee⟩:=hre.isSlice
    rw [ei] at hri c5
    rw [ee] at hre c6
    have Hri:Hid (RsAt wr (.slice ai (P k).ni ci) (P k).ni (P k).ir):=hri
    have Hre:Hid (RsAt wr (.slice ae (P k).ne ce) (P k).ne (P k).er):=hre
    have Hp:Hid (peerB ⟨(P k).au,(P k).hold,(P k).lim,(P k).pref,(P k).wait, .slice ai (P k).ni ci,(P k).ni,(P k).ir, .slice ae (P k).ne ce,(P k).ne,(P k).er⟩=peerB (P k)):=rfl
    clear hcs hcell hv hri hre hrs ei ee
    go_wp2_with fail
    refine (peerMayBe_any _ _ _ _ _ _ _ _ _ _ _ _ _ _ (Hri.out.cell ((Below.refl _ _).alloc (Nat.le_refl _) _)) (Hre.out.cell ((Below.refl _ _).alloc (Nat.le_refl _) _))).mono ?_
    rintro e w2 ⟨rfl,hB2⟩
    rw [Hp.out]
    have hB3:Below wr.heap.size wr w2:=((Below.refl _ _).alloc (Nat.le_refl _) _).trans (hB2.mono (by simp only [World.size_alloc];omega))
    clear hB2 Hri Hre Hp c0 c1 c2 c3 c4 c5 c6
    have ef0:=(hB3.cell (p:=⟨w.heap.size+1,0,none⟩) hzr).trans gf0
    have ef1:=(hB3.cell (p:=⟨w.heap.size+1,1,none⟩) hzr).trans gf1
    have ez0:=(hB3.frozen (p:=⟨w.heap.size+1,0,none⟩) hzr).trans gz0
    have ez1:=(hB3.frozen (p:=⟨w.heap.size+1,1,none⟩) hzr).trans gz1
    have hBe:Below w.heap.size w w2:=hBt.trans (hB3.mono (by omega))
    clear gf0 gf1 gz0 gz1
    cases hpk:peerB (P k)
    ·have Hpk:Hid (peerB (P k)=false):=hpk
     clear hpk
     go_wp2_with fail
     have hfb:=firstBad_at n 0 k hlt (fun j _ h2=>Hall.out j (by omega)) (by rw [Nat.zero_add];exact Hpk.out)
     refine bodyPost_ret (v:=.agg #[.int .i64 1, .int .i64 (k+1)]) (by simp [results,Tryz.results39,go_sem, *]) rfl ⟨?_,(hBe.setCell (by simp) _).setCell (by simp) _⟩
     simp only [faultOf,Hs.out,if_true,hfb]
     rw [if_neg (by omega)]
     simp
    ·have Hpk:Hid (peerB (P k)=true):=hpk
     clear hpk
     go_wp2_with fail
     go_roundw
     case rel=>exact ⟨k+1,by omega,by go_num,all_step Hall.out Hpk.out,hBr.trans (hB3.mono hBr.size)⟩
     case measure=>simp [intOf];omega
   ·have hkn:k=n:=by omega
    subst hkn
    go_wp2_with fail
    have hfb:=firstBad_good k 0 (fun j _ h2=>Hall.out j (by omega))
    exact bodyPost_ret (v:=.agg #[.int .i64 0, .int .i64 0]) (by simp [results,Tryz.results39,go_sem, *]) rfl ⟨by simp [faultOf,Hs.out,hfb],(hBt.setCell (by simp) _).setCell (by simp) _⟩
end Go.Proofs.YtjnkcibpkkjniaaGreat
namespace Go.Proofs.YtjnkcibpkkjniaaGreat
open Go Go.RowKit
open Go.Proofs.YtjnkcibpkkjniaaGreat.Sim (PlBlk)
set_option maxHeartbeats 1600000
set_option maxRecDepth 20000
def ruC:Array Value:=#[.bool true, .int .u32 0, .int .i64 0, .int .i64 0, .int .i64 32]
def RuBlk (w:World) (g:Nat):Prop:=w.heap[g]? = some (.cells ruC 162 (0,0))
theorem RuBlk.keep {w w':World} {g:Nat} (h:RuBlk w g) (e:w'.heap[g]? = w.heap[g]?):RuBlk w' g:=e.trans h
theorem RuBlk.lt {w:World} {g:Nat} (h:RuBlk w g):g < w.heap.size:=(Array.getElem?_eq_some_iff.1 h).1
theorem RuBlk.below {w w':World} {g:Nat} (h:RuBlk w g) (hB:Below w.heap.size w w'):RuBlk w' g:=h.keep (hB.block g h.lt)
theorem all_any (w:World):Calls Tryz.prog 57 #[] w fun e w'=>∃ g,e=.returned (.slice (some ⟨g,0,none⟩) 1 1)∧w.heap.size≤g∧RuBlk w' g∧Below w.heap.size w w':=by
 go_enter Tryz.func57,Tryz.ntmps57
 go_wp2_with fail
 exact bodyPost_ret (v:=.slice (some ⟨w.heap.size,0,none⟩) 1 1) (by simp [results,Tryz.results57,go_sem]) rfl ⟨_,rfl,Nat.le_refl _,Go.heap_alloc_new w _,by (repeat (first | exact Below.refl _ _ | refine Below.drew ?_ | refine Below.alloc ?_ (by first | omega | (simp only [World.size_alloc,World.size_setCell,World.size_drew];omega) | simp) _ | refine Below.setCell ?_ (by first | omega | simp) _ | assumption))⟩
theorem el162Q:∃ i z,ElI 162 i z 5 32∧∀ u∈z.cells.toList,Pl u:=by
 obtain ⟨i,z,h⟩:∃ i z,ElI 162 i z 5 32:=elI (by kernel_rfl)
 refine ⟨i,z,h,?_⟩
 have hk:((Tryz.prog.info? 162).bind fun i=>i.zero.map (·.cells))=some #[.bool false, .int .u32 0, .int .i64 0, .int .i64 0, .int .i64 0]:=by kernel_rfl
 rw [h.info] at hk
 simp only [Option.bind_some,h.zero,Option.map_some,Option.some.injEq] at hk
 rw [hk]
 intro u hu
 simp at hu
 rcases hu with rfl | rfl | rfl
 ·exact Pl.bool _
 ·exact Pl.int _ _
 ·exact Pl.int _ _
theorem el69:∃ i z,ElI 69 i z 7 88:=elI (by kernel_rfl)
theorem allQ_made (Q:Value→Prop) (w:World) (t:TypeId) (c:Nat):AllQ Q (w.alloc (.cells #[] t)) (.slice (some ⟨w.heap.size,0,none⟩) 0 c):=by
 intro g cur ty fr h1 h2 u hu
 cases h1
 rw [Go.heap_alloc_new] at h2
 cases h2
 cases hu
set_option maxHeartbeats 1600000 in
theorem cloneRule_one {w:World} {g c:Nat} (h:RuBlk w g) :
  Calls Tryz.prog 67 #[.slice (some ⟨g,0,none⟩) 1 c] w fun e w'=>∃ g' c',e=.returned (.slice (some ⟨g',0,none⟩) 1 c')∧w.heap.size≤g'∧PlBlk w' g'∧Below w.heap.size w w':=by
 have hq:=fun w=>Lib.run_eql_slice_nil (P:=Tryz.prog) w 67 _ (some ⟨g,0,none⟩) 1 c 0 0 Tryz.underlying67
 obtain ⟨i2,z2,hE,hzQ⟩:=el162Q
 have HE:Hid (ElI 162 i2 z2 5 32):=hE
 have HZ:Hid (∀ u∈z2.cells.toList,Pl u):=hzQ
 have HN:Hid (∀ (j:Nat) (u:Value),ruC.toList[j]? = some u→(w.alloc (.cells #[] 162)).cell? ((⟨g,0,none⟩:Addr).add j)=some u):=by
  intro j u hu
  have hb:(w.alloc (.cells #[] 162)).heap[g]? = _:=(Go.heap_alloc_old w _ h.lt).trans h
  have:=cell_blk hb j
  rw [show (⟨g,0,none⟩:Addr).add j=⟨g,j,none⟩ from by simp [Addr.add_lit]]
  exact this.trans (by simpa using hu)
 clear h hE hzQ
 go_enter Tryz.func67,Tryz.ntmps67
 go_wp2_with (at_builtin;go_loud (refine wpList_append_all rfl (.tmp 5) (.tmp 6) 67 rfl Pl w.heap.size 162 i2 z2 5 32 Tryz.underlying67 HE.out.info HE.out.zero HE.out.size HE.out.bytes HE.out.cells (by decide) _ 0 [] rfl (World.ownsRow_made w #[] 0 (Nat.le_refl _) (by decide) rfl) ⟨g,0,none⟩ 1 c ruC.toList rfl rfl HN.out (by intro u hu;simp [ruC] at hu;rcases hu with rfl | rfl | rfl | rfl <;> rfl) (by unfold maxLen;omega) (by omega) (by simp) HZ.out (by intro u hu;simp [ruC] at hu;rcases hu with rfl | rfl | rfl | rfl;exact Pl.bool _;exact Pl.int _ _;exact Pl.int _ _;exact Pl.int _ _) (allQ_made _ _ _ _) ?_);intro v' w1 hown hgrow hQ _)
 rw [Nat.zero_add] at hown
 have hB:Below w.heap.size w w1:=((Below.refl _ _).alloc (Nat.le_refl _) _).grown hgrow (by simp) (by intro k hk;simp [Value.ownBlock,Act.eval] at hk;omega)
 obtain ⟨g',c',cur,rfl,h1,h2,h3,_⟩:=row_open hown (by simp [ruC])
 have hP:PlBlk w1 g':=⟨_,_,_,h3,hQ g' cur _ _ rfl h3⟩
 clear hown hgrow hQ h3
 go_ret
 exact ⟨g',c',rfl,h1,hP,hB⟩
def peC (au hold lim pref wait:Int) (im ex:Value):List Value:=[.int .i64 au, .int .i64 hold, .int .i64 lim, .int .i64 pref, .int .i64 wait,im,ex]
set_option maxHeartbeats 1600000 in
theorem clonePeer_one {w:World} {g c:Nat} {cur:List Value} (hl:cur.length=7) (h1:∀ u∈cur,u.oneCell'=true) (h:∀ j u,cur[j]? = some u→w.cell? ⟨g,j,none⟩=some u) :
  Calls Tryz.prog 66 #[.slice (some ⟨g,0,none⟩) 1 c] w fun e w'=>∃ g' c' cur',e=.returned (.slice (some ⟨g',0,none⟩) 1 c')∧w.heap.size≤g'∧w'.heap[g']? = some (.cells cur' 69 (0,0))∧(∀ j u,cur[j]? = some u→w'.cell? ⟨g',j,none⟩=some u)∧Below w.heap.size w w':=by
 have hq:=fun w=>Lib.run_eql_slice_nil (P:=Tryz.prog) w 23 _ (some ⟨g,0,none⟩) 1 c 0 0 Tryz.underlying23
 obtain ⟨i2,z2,hE⟩:=el69
 have HE:Hid (ElI 69 i2 z2 7 88):=hE
 have HL:Hid (cur.length=1 * 7):=hl
 have H1:Hid (∀ u∈cur,u.oneCell'=true):=h1
 have HN:Hid (∀ (j:Nat) (u:Value),cur[j]? = some u→(w.alloc (.cells #[] 69)).cell? ((⟨g,0,none⟩:Addr).add j)=some u):=by
  intro j u hu
  have:=h j u hu
  rw [show (⟨g,0,none⟩:Addr).add j=⟨g,j,none⟩ from by simp [Addr.add_lit],World.cell?_alloc_lt _ _ _ (World.block_lt_of_cell? _ _ this)]
  exact this
 clear h hE hl h1
 go_enter Tryz.func66,Tryz.ntmps66
 go_wp2_with (at_builtin;go_loud (refine wpList_append_row rfl (.tmp 5) (.tmp 6) 23 rfl w.heap.size 69 i2 z2 7 88 Tryz.underlying23 HE.out.info HE.out.zero HE.out.size HE.out.bytes HE.out.cells (by decide) _ 0 [] rfl (World.ownsRow_made w #[] 0 (Nat.le_refl _) (by decide) rfl) ⟨g,0,none⟩ 1 c cur rfl HL.out HN.out H1.out (by unfold maxLen;omega) (by omega) (by simp) ?_);intro v' w1 hown hgrow)
 rw [Nat.zero_add] at hown
 have hB:Below w.heap.size w w1:=((Below.refl _ _).alloc (Nat.le_refl _) _).grown hgrow (by simp) (by intro k hk;simp [Value.ownBlock,Act.eval] at hk;omega)
 obtain ⟨g',c',cur',rfl,h1,h2,h3,h4⟩:=row_open hown (by have:=HL.out;simp;omega)
 have h5:∀ j u,cur[j]? = some u→w1.cell? ⟨g',j,none⟩=some u:=fun j u hu=>by
  obtain ⟨hj,rfl⟩:=List.getElem?_eq_some_iff.1 hu
  have:=h4 j (by simpa using hj)
  simpa using this
 have H5:Hid (∀ j u,cur[j]? = some u→w1.cell? ⟨g',j,none⟩=some u):=h5
 have H3:Hid (w1.heap[g']? = _):=h3
 clear hown hgrow h3 h4 h5
 go_ret
 exact ⟨g',c',cur',rfl,h1,H3.out,H5.out,hB⟩
end Go.Proofs.YtjnkcibpkkjniaaGreat
namespace Go.Proofs.YtjnkcibpkkjniaaGreat
open Go Go.RowKit
open Go.Proofs.YtjnkcibpkkjniaaGreat.Pool (okOps topB wp_region_lb)
open Go.Proofs.YtjnkcibpkkjniaaGreat.Sim (PlBlk)
set_option maxHeartbeats 2000000
set_option maxRecDepth 20000
structure PeRow (w:World) (B q qc g1 g2:Nat) (hd lm wt:Int):Prop where
 row:∃ cur,w.heap[q]? = some (.cells cur 69 (0,0))∧∀ (j:Nat) (u:Value),(peC 100 hd lm 100 wt (.slice (some ⟨g1,0,none⟩) 1 1) (.slice (some ⟨g2,0,none⟩) 1 1))[j]? = some u→cur[j]? = some u
 r1:RuBlk w g1
 r2:RuBlk w g2
 b0:B≤q
 b1:B≤g1
 b2:B≤g2
 c1:1≤qc
 c2:qc≤maxLen
theorem PeRow.cell {w:World} {B q qc g1 g2:Nat} {hd lm wt:Int} (h:PeRow w B q qc g1 g2 hd lm wt) (j:Nat) (u:Value) (hu:(peC 100 hd lm 100 wt (.slice (some ⟨g1,0,none⟩) 1 1) (.slice (some ⟨g2,0,none⟩) 1 1))[j]? = some u):w.cell? ⟨q,j,none⟩=some u:=by
 obtain ⟨cur,h1,h2⟩:=h.row
 rw [cell_of_row _ _ _ _ _ _ h1]
 exact h2 j u hu
theorem PeRow.keep {w w':World} {B q qc g1 g2:Nat} {hd lm wt:Int} (h:PeRow w B q qc g1 g2 hd lm wt) (k:∀ b,B≤b→b < w.heap.size→w'.heap[b]? = w.heap[b]?):PeRow w' B q qc g1 g2 hd lm wt:=by
 obtain ⟨cur,h1,h2⟩:=h.row
 exact ⟨⟨cur,(k q h.b0 (Array.getElem?_eq_some_iff.1 h1).1).trans h1,h2⟩,h.r1.keep (k _ h.b1 h.r1.lt),h.r2.keep (k _ h.b2 h.r2.lt),h.b0,h.b1,h.b2,h.c1,h.c2⟩
theorem PeRow.below {w w':World} {B q qc g1 g2:Nat} {hd lm wt:Int} (h:PeRow w B q qc g1 g2 hd lm wt) (hB:Below w.heap.size w w'):PeRow w' B q qc g1 g2 hd lm wt:=h.keep fun b _ hb=>hB.block b hb
def cgV (cb B:Nat) (hd lm wt:Int):Nat→Value→World→Prop
 | 0,v,_=>v=.pointer (some ⟨cb,3,none⟩)
 | 1,v,_=>v=.slice none 0 0
 | 2,v,_=>v=.int .i64 0
 | 3,v,_=>v=.int .i64 100
 | 4,v,_=>v=.int .i64 hd
 | 5,v,_=>v=.int .i64 lm
 | 6,v,_=>v=.int .i64 wt
 | 7,v,w=>∃ g,v=.slice (some ⟨g,0,none⟩) 1 1∧B≤g∧RuBlk w g
 | 8,v,w=>∃ g,v=.slice (some ⟨g,0,none⟩) 1 1∧B≤g∧RuBlk w g
 | 9,v,w=>∃ g1 g2,v=.agg (peC 100 hd lm 100 wt (.slice (some ⟨g1,0,none⟩) 1 1) (.slice (some ⟨g2,0,none⟩) 1 1)).toArray∧B≤g1∧B≤g2∧RuBlk w g1∧RuBlk w g2
 | 10,v,w=>∃ q qc g1 g2,v=.slice (some ⟨q,0,none⟩) 1 qc∧PeRow w B q qc g1 g2 hd lm wt
 | 11,v,w=>∃ q qc g1 g2,v=.slice (some ⟨q,0,none⟩) 1 qc∧PeRow w B q qc g1 g2 hd lm wt
 | 12,v,_=>v=.pointer (some ⟨cb,3,none⟩)
 | _,_,_=>True
theorem cgV_mono {cb B:Nat} {hd lm wt:Int} (w w':World) (i:Nat) (u:Value) (hB:Below w.heap.size w w') (h:cgV cb B hd lm wt i u w):cgV cb B hd lm wt i u w':=by
 unfold cgV at h ⊢
 split at h
 ·exact h
 ·exact h
 ·exact h
 ·exact h
 ·exact h
 ·exact h
 ·exact h
 ·obtain ⟨g,h1,h2,h3⟩:=h;exact ⟨g,h1,h2,h3.below hB⟩
 ·obtain ⟨g,h1,h2,h3⟩:=h;exact ⟨g,h1,h2,h3.below hB⟩
 ·obtain ⟨g1,g2,h1,h2,h3,h4,h5⟩:=h;exact ⟨g1,g2,h1,h2,h3,h4.below hB,h5.below hB⟩
 ·obtain ⟨q,qc,g1,g2,h1,h2⟩:=h;exact ⟨q,qc,g1,g2,h1,h2.below hB⟩
 ·obtain ⟨q,qc,g1,g2,h1,h2⟩:=h;exact ⟨q,qc,g1,g2,h1,h2.below hB⟩
 ·exact h
 ·trivial
noncomputable def cgOps:Array Oper:=((Tryz.f29.body).bind (opsOf 5)).getD #[]
theorem cg_top:topB cgOps=true:=by kernel_rfl
theorem cg_size:cgOps.size=14:=by kernel_rfl
theorem cg_hop {Q:Exit→Act→World→Prop} {cb B:Nat} {hd lm wt:Int} {w0:World} (hB0:B≤w0.heap.size) (hcb:cb < w0.heap.size) (c3:w0.cell? ⟨cb,3,none⟩=some (.slice none 0 0))
  (i:Nat) (o:Oper) (a:Act) (w:World) (hi:i < 13) (ho:cgOps[i]? = some o) (f1:a.tmps[1]? = some (.int .i64 hd)) (f2:a.tmps[2]? = some (.int .i64 lm)) (f3:a.tmps[3]? = some (.int .i64 wt)) (f9:a.tmps[9]? = some (.pointer (some ⟨cb,0,none⟩))) (f10:a.tmps[10]? = some (.int .i64 0))
  (hdep:∀ (j:Nat) (o':Oper) (d:Nat),cgOps[j]? = some o'→o'.dst=some d→(∃ e∈o.after,e.on=j∧Region.binds .any e=true)→∃ v,a.tmps[d]? = some v∧cgV cb B hd lm wt j v w) (hs:Below w0.heap.size w0 w)
  (K:Act→World→Prop) (hK:∀ v w',cgV cb B hd lm wt i v w'→Below w.heap.size w w'→K (a.put o.dst v) w'):o.wp Tryz.prog a w K Q:=by
 have e0:=(hs.cell (p:=⟨cb,3,none⟩) hcb).trans c3
 have hsz:=hs.size
 clear c3
 obtain rfl | rfl | rfl | rfl | rfl | rfl | rfl | rfl | rfl | rfl | rfl | rfl | rfl:i=0∨i=1∨i=2∨i=3∨i=4∨i=5∨i=6∨i=7∨i=8∨i=9∨i=10∨i=11∨i=12:=by omega
 all_goals
  simp only [cgOps,Tryz.f29,opsOf,Option.bind_some] at ho
  simp [opsOf] at ho
  subst ho
 ·unfold Oper.wp execOp
  simp only [Act.eval,Array.getD_eq_getD_getElem?,f9,Option.getD_some]
  go_simp
  exact hK _ _ rfl (Below.refl _ _)
 ·obtain ⟨u0,h0,p0⟩:=hdep 0 _ _ rfl rfl ⟨⟨0, .data⟩,by simp,rfl,rfl⟩
  simp only [cgV] at p0
  try subst p0
  unfold Oper.wp execOp
  simp only [Act.eval,Array.getD_eq_getD_getElem?,h0,Option.getD_some]
  go_simp
  exact hK _ _ rfl (Below.refl _ _)
 ·unfold Oper.wp execOp
  simp only [Act.eval,Array.getD_eq_getD_getElem?,f10,Option.getD_some]
  go_simp
  exact hK _ _ rfl (Below.refl _ _)
 ·obtain ⟨u0,h0,p0⟩:=hdep 2 _ _ rfl rfl ⟨⟨2, .data⟩,by simp,rfl,rfl⟩
  simp only [cgV] at p0
  try subst p0
  unfold Oper.wp execOp
  simp only [Act.eval,Array.getD_eq_getD_getElem?,h0,Option.getD_some]
  go_simp
  exact hK _ _ rfl (Below.refl _ _)
 ·unfold Oper.wp execOp
  simp only [Act.eval,Array.getD_eq_getD_getElem?,f1,Option.getD_some]
  go_simp
  exact hK _ _ rfl (Below.refl _ _)
 ·unfold Oper.wp execOp
  simp only [Act.eval,Array.getD_eq_getD_getElem?,f2,Option.getD_some]
  go_simp
  exact hK _ _ rfl (Below.refl _ _)
 ·unfold Oper.wp execOp
  simp only [Act.eval,Array.getD_eq_getD_getElem?,f3,Option.getD_some]
  go_simp
  exact hK _ _ rfl (Below.refl _ _)
 ·unfold Oper.wp execOp
  go_simp
  refine (all_any w).mono ?_
  rintro e w1 ⟨g,rfl,hg,hR,hB⟩
  exact hK _ _ ⟨g,rfl,by omega,hR⟩ hB
 ·unfold Oper.wp execOp
  go_simp
  refine (all_any w).mono ?_
  rintro e w1 ⟨g,rfl,hg,hR,hB⟩
  exact hK _ _ ⟨g,rfl,by omega,hR⟩ hB
 ·obtain ⟨u0,h0,p0⟩:=hdep 3 _ _ rfl rfl ⟨⟨3, .data⟩,by simp,rfl,rfl⟩
  simp only [cgV] at p0
  try subst p0
  obtain ⟨u1,h1,p1⟩:=hdep 4 _ _ rfl rfl ⟨⟨4, .data⟩,by simp,rfl,rfl⟩
  simp only [cgV] at p1
  try subst p1
  obtain ⟨u2,h2,p2⟩:=hdep 5 _ _ rfl rfl ⟨⟨5, .data⟩,by simp,rfl,rfl⟩
  simp only [cgV] at p2
  try subst p2
  obtain ⟨u3,h3,p3⟩:=hdep 6 _ _ rfl rfl ⟨⟨6, .data⟩,by simp,rfl,rfl⟩
  simp only [cgV] at p3
  try subst p3
  obtain ⟨u4,h4,p4⟩:=hdep 7 _ _ rfl rfl ⟨⟨7, .data⟩,by simp,rfl,rfl⟩
  simp only [cgV] at p4
  try subst p4
  obtain ⟨u5,h5,p5⟩:=hdep 8 _ _ rfl rfl ⟨⟨8, .data⟩,by simp,rfl,rfl⟩
  simp only [cgV] at p5
  try subst p5
  obtain ⟨g1,rfl,q1,r1⟩:=p4
  obtain ⟨g2,rfl,q2,r2⟩:=p5
  unfold Oper.wp execOp
  simp only [Act.eval,Array.getD_eq_getD_getElem?,h0,h1,h2,h3,h4,h5,Option.getD_some]
  go_simp
  exact hK _ _ ⟨g1,g2,rfl,q1,q2,r1,r2⟩ (Below.refl _ _)
 ·obtain ⟨u0,h0,p0⟩:=hdep 9 _ _ rfl rfl ⟨⟨9, .data⟩,by simp,rfl,rfl⟩
  simp only [cgV] at p0
  try subst p0
  obtain ⟨g1,g2,rfl,q1,q2,r1,r2⟩:=p0
  simp only [peC] at h0
  unfold Oper.wp execOp
  simp only [Act.eval,Array.getD_eq_getD_getElem?,h0,Option.getD_some]
  go_simp
  have hB:Below w.heap.size w (w.alloc (.cells #[.int .i64 100, .int .i64 hd, .int .i64 lm, .int .i64 100, .int .i64 wt, .slice (some ⟨g1,0,none⟩) 1 1, .slice (some ⟨g2,0,none⟩) 1 1] 69)):=(Below.refl _ _).alloc (Nat.le_refl _) _
  exact hK _ _ ⟨w.heap.size,1,g1,g2,rfl,⟨⟨_,Go.heap_alloc_new w _,fun j u hu=>by simpa [peC] using hu⟩,r1.below hB,r2.below hB,by omega,q1,q2,Nat.le_refl _,by decide⟩⟩ hB
 ·obtain ⟨u0,h0,p0⟩:=hdep 1 _ _ rfl rfl ⟨⟨1, .data⟩,by simp,rfl,rfl⟩
  simp only [cgV] at p0
  try subst p0
  obtain ⟨u1,h1,p1⟩:=hdep 10 _ _ rfl rfl ⟨⟨10, .data⟩,by simp,rfl,rfl⟩
  simp only [cgV] at p1
  try subst p1
  obtain ⟨q,qc,g1,g2,rfl,hR⟩:=p1
  obtain ⟨i2,z2,hE⟩:=el69
  have hcc:∀ (j:Nat) (u:Value),(peC 100 hd lm 100 wt (.slice (some ⟨g1,0,none⟩) 1 1) (.slice (some ⟨g2,0,none⟩) 1 1))[j]? = some u→w.cell? ((⟨q,0,none⟩:Addr).add j)=some u:=fun j u hu=>by
   rw [show (⟨q,0,none⟩:Addr).add j=⟨q,j,none⟩ from by simp [Addr.add_lit]]
   exact hR.cell j u hu
  obtain ⟨v',w',hrun,k1,k2,_⟩:=run_append_own (P:=Tryz.prog) w B 23 23 69 i2 z2 7 88 Tryz.underlying23 hE.info hE.zero hE.size hE.bytes hE.cells (by decide) (.slice none 0 0) 0 [] (World.ownsRow_nil _ _ _ _) ⟨q,0,none⟩ 1 qc (peC 100 hd lm 100 wt (.slice (some ⟨g1,0,none⟩) 1 1) (.slice (some ⟨g2,0,none⟩) 1 1)) rfl hcc (by intro u hu;simp [peC] at hu;rcases hu with rfl | rfl | rfl | rfl | rfl | rfl | rfl <;> rfl) (by unfold maxLen;omega) (by omega) (by have:=hs.size;omega)
  have hB:Below w.heap.size w w':=(Below.refl _ _).grown k2 (Nat.le_refl _) (fun j hj=>by cases hj)
  have hx0:a.eval (.tmp 18)=.slice none 0 0:=by simp [Act.eval,Array.getD_eq_getD_getElem?,h0]
  have hx1:a.eval (.tmp 27)=.slice (some ⟨q,0,none⟩) 1 qc:=by simp [Act.eval,Array.getD_eq_getD_getElem?,h1]
  unfold Oper.wp
  simp [execOp,resolve,invoke,builtin,hx0,hx1,hrun,Result.andThen]
  rw [Nat.zero_add] at k1
  have k3:=k1
  obtain ⟨_,k3⟩:=k3
  rcases k3 with ⟨_,h0⟩ | ⟨g',c',cur',rfl,m1,m2,m3,m4,m5,m6⟩
  ·cases h0
  ·refine hK _ _ ⟨g',c',g1,g2,rfl,⟨⟨cur',m2,fun j u hu=>?_⟩,hR.r1.below hB,hR.r2.below hB,m1,hR.b1,hR.b2,m3,m4⟩⟩ hB
   have:=k1.cells (g:=g') rfl j u (by simpa using hu)
   rw [show (⟨g',0,none⟩:Addr).add j=⟨g',j,none⟩ from by simp [Addr.add_lit]] at this
   simpa [cell_of_row _ _ _ _ _ _ m2] using this
 ·unfold Oper.wp execOp
  simp only [Act.eval,Array.getD_eq_getD_getElem?,f9,Option.getD_some]
  go_simp
  exact hK _ _ rfl (Below.refl _ _)
theorem cg_last {Q:Exit→Act→World→Prop} {cb B:Nat} {hd lm wt:Int} {w0:World} (hcb:cb < w0.heap.size) (c3:w0.cell? ⟨cb,3,none⟩=some (.slice none 0 0)) (m3:w0.frozen? ⟨cb,3,none⟩=false)
  (o:Oper) (a:Act) (w:World) (ho:cgOps[13]? = some o)
  (hdep:∀ (j:Nat) (o':Oper) (d:Nat),cgOps[j]? = some o'→o'.dst=some d→(∃ e∈o.after,e.on=j∧Region.binds .any e=true)→∃ v,a.tmps[d]? = some v∧cgV cb B hd lm wt j v w) (hs:Below w0.heap.size w0 w)
  (K:Act→World→Prop) (hK:∀ v w' w2 q qc g1 g2,Below w0.heap.size w0 w2→w'=w2.setCell ⟨cb,3,none⟩ (.slice (some ⟨q,0,none⟩) 1 qc)→PeRow w2 B q qc g1 g2 hd lm wt→K (a.put o.dst v) w'):o.wp Tryz.prog a w K Q:=by
 have e0:=(hs.cell (p:=⟨cb,3,none⟩) hcb).trans c3
 have e1:=(hs.frozen (p:=⟨cb,3,none⟩) hcb).trans m3
 clear c3 m3
 simp only [cgOps,Tryz.f29,opsOf,Option.bind_some] at ho
 simp [opsOf] at ho
 subst ho
 obtain ⟨u0,h0,p0⟩:=hdep 12 _ _ rfl rfl ⟨⟨12, .data⟩,by simp,rfl,rfl⟩
 simp only [cgV] at p0
 try subst p0
 obtain ⟨u1,h1,p1⟩:=hdep 11 _ _ rfl rfl ⟨⟨11, .data⟩,by simp,rfl,rfl⟩
 simp only [cgV] at p1
 try subst p1
 obtain ⟨q,qc,g1,g2,rfl,hR⟩:=p1
 unfold Oper.wp execOp
 simp only [Act.eval,Array.getD_eq_getD_getElem?,h0,h1,Option.getD_some]
 go_simp
 exact hK undef _ w q qc g1 g2 hs rfl hR
end Go.Proofs.YtjnkcibpkkjniaaGreat
namespace Go.Proofs.YtjnkcibpkkjniaaGreat
open Go Go.RowKit
open Go.Proofs.YtjnkcibpkkjniaaGreat.Pool (okOps topB wp_region_lb)
open Go.Proofs.YtjnkcibpkkjniaaGreat.Sim (PlBlk)
set_option maxHeartbeats 2000000
set_option maxRecDepth 20000
theorem arr31 {C:Array Value} (h:C.size=31):∃ c0 c1 c2 c3 c4 c5 c6 c7 c8 c9 c10 c11 c12 c13 c14 c15 c16 c17 c18 c19 c20 c21 c22 c23 c24 c25 c26 c27 c28 c29 c30,C=#[c0,c1,c2,c3,c4,c5,c6,c7,c8,c9,c10,c11,c12,c13,c14,c15,c16,c17,c18,c19,c20,c21,c22,c23,c24,c25,c26,c27,c28,c29,c30]:=by
 obtain ⟨l⟩:=C
 match l,h with
 | c0::c1::c2::c3::c4::c5::c6::c7::c8::c9::c10::c11::c12::c13::c14::c15::c16::c17::c18::c19::c20::c21::c22::c23::c24::c25::c26::c27::c28::c29::c30::[],_=>exact ⟨_,_,_,_,_,_,_,_,_,_,_,_,_,_,_,_,_,_,_,_,_,_,_,_,_,_,_,_,_,_,_,rfl⟩
theorem cg_ok2:okOps cgOps [0,1,2,3,8,9,10] 31=true:=by kernel_rfl
theorem config_one (w:World) (hd lm wt:Int):Calls Tryz.prog 29 #[.int .i64 1, .int .i64 hd, .int .i64 lm, .int .i64 wt] w fun e w'=>∃ q qc g1 g2,e=.returned (.agg #[.int .i64 65000, .int .u32 200, .int .u32 168430090, .slice (some ⟨q,0,none⟩) 1 qc])∧PeRow w' w.heap.size q qc g1 g2 hd lm wt∧Below w.heap.size w w':=by
 go_enter Tryz.func29,Tryz.ntmps29
 go_wp2_with fail
 refine wp_loop_rounds 2 ?_
 rw [rounds_succ]
 go_wp2_with fail
 have e0:((w.alloc (.cells #[.int .i64 0, .int .u32 0, .int .u32 0, .slice none 0 0] 25)).alloc (.cells #[.int .i64 65000, .int .u32 200, .int .u32 168430090, .slice none 0 0] 25)).heap[w.heap.size+1]? = some (.cells #[.int .i64 65000, .int .u32 200, .int .u32 168430090, .slice none 0 0] 25 (0,0)):=by
  have:=Go.heap_alloc_new (w.alloc (.cells #[.int .i64 0, .int .u32 0, .int .u32 0, .slice none 0 0] 25)) (.cells #[.int .i64 65000, .int .u32 200, .int .u32 168430090, .slice none 0 0] 25)
  simpa using this
 have e1:((w.alloc (.cells #[.int .i64 0, .int .u32 0, .int .u32 0, .slice none 0 0] 25)).alloc (.cells #[.int .i64 65000, .int .u32 200, .int .u32 168430090, .slice none 0 0] 25)).heap[w.heap.size]? = some (.cells #[.int .i64 0, .int .u32 0, .int .u32 0, .slice none 0 0] 25 (0,0)) :=
  (Go.heap_alloc_old _ _ (by simp)).trans (Go.heap_alloc_new w _)
 have hB0:Below w.heap.size w ((w.alloc (.cells #[.int .i64 0, .int .u32 0, .int .u32 0, .slice none 0 0] 25)).alloc (.cells #[.int .i64 65000, .int .u32 200, .int .u32 168430090, .slice none 0 0] 25)):=by (repeat (first | exact Below.refl _ _ | refine Below.drew ?_ | refine Below.alloc ?_ (by first | omega | (simp only [World.size_alloc,World.size_setCell,World.size_drew];omega) | simp) _ | refine Below.setCell ?_ (by first | omega | simp) _ | assumption))
 have hsz:((w.alloc (.cells #[.int .i64 0, .int .u32 0, .int .u32 0, .slice none 0 0] 25)).alloc (.cells #[.int .i64 65000, .int .u32 200, .int .u32 168430090, .slice none 0 0] 25)).heap.size=w.heap.size+2:=by simp
 generalize ((w.alloc (.cells #[.int .i64 0, .int .u32 0, .int .u32 0, .slice none 0 0] 25)).alloc (.cells #[.int .i64 65000, .int .u32 200, .int .u32 168430090, .slice none 0 0] 25))=w1 at e0 e1 hB0 hsz ⊢
 have c3:=cell_blk e0 3
 have m3:=frozen_blk e0 3
 simp at c3
 have hcb:w.heap.size+1 < w1.heap.size:=by omega
 refine wp_region_lb (D:=_) (ops:=cgOps) (val:=cgV (w.heap.size+1) (w.heap.size+2) hd lm wt) (fix:=[(0, .int .i64 1),(1, .int .i64 hd),(2, .int .i64 lm),(3, .int .i64 wt),(8, .pointer (some ⟨w.heap.size,0,none⟩)),(9, .pointer (some ⟨w.heap.size+1,0,none⟩)),(10, .int .i64 0)]) (T:=31) (w0:=w1) (Post:=fun _ w'=>∃ w2 q qc g1 g2,Below w1.heap.size w1 w2∧w'=w2.setCell ⟨w.heap.size+1,3,none⟩ (.slice (some ⟨q,0,none⟩) 1 qc)∧PeRow w2 (w.heap.size+2) q qc g1 g2 hd lm wt) (n:=13) (by kernel_rfl) cg_ok2 cg_top cg_size cgV_mono
  (fun i o a wx hi ho hfx hdep hs K hK=>cg_hop (by omega) hcb c3 i o a wx hi ho (hfx (1, .int .i64 hd) (by simp)) (hfx (2, .int .i64 lm) (by simp)) (hfx (3, .int .i64 wt) (by simp)) (hfx (9, .pointer (some ⟨w.heap.size+1,0,none⟩)) (by simp)) (hfx (10, .int .i64 0) (by simp)) hdep hs K hK)
  (fun o a wx ho hfx hdep hs K hK=>cg_last hcb c3 m3 o a wx ho hdep hs K fun v w' w2 q qc g1 g2 k1 k2 k3=>hK v w' ⟨w2,q,qc,g1,g2,k1,k2,k3⟩) (fun a wx hdf hsz hfx hP=>?_) rfl rfl ?_ ?_
 rotate_left
 ·intro x hx
  simp at hx
  rcases hx with rfl | rfl | rfl | rfl | rfl | rfl | rfl <;> rfl
 ·exact ⟨rfl,rfl,rfl,Nat.le_refl _,fun _ _=>rfl⟩
 obtain ⟨w2,q,qc,g1,g2,hB2,rfl,hR⟩:=hP
 have f0:a.tmps[0]? = some (.int .i64 1):=hfx (0, .int .i64 1) (by simp)
 have f8:a.tmps[8]? = some (.pointer (some ⟨w.heap.size,0,none⟩)):=hfx (8, .pointer (some ⟨w.heap.size,0,none⟩)) (by simp)
 have f9:a.tmps[9]? = some (.pointer (some ⟨w.heap.size+1,0,none⟩)):=hfx (9, .pointer (some ⟨w.heap.size+1,0,none⟩)) (by simp)
 have f10:a.tmps[10]? = some (.int .i64 0):=hfx (10, .int .i64 0) (by simp)
 obtain ⟨tm,df⟩:=a
 simp only at hdf hsz f0 f8 f9 f10
 subst hdf
 obtain ⟨k0,k1,k2,k3,k4,k5,k6,k7,k8,k9,k10,k11,k12,k13,k14,k15,k16,k17,k18,k19,k20,k21,k22,k23,k24,k25,k26,k27,k28,k29,k30,rfl⟩:=arr31 hsz
 simp only [List.getElem?_toArray,List.getElem?_cons_succ,List.getElem?_cons_zero,Option.some.injEq] at f0 f8 f9 f10
 subst f0 f8 f9 f10
 have E0:(w2.setCell ⟨w.heap.size+1,3,none⟩ (.slice (some ⟨q,0,none⟩) 1 qc)).heap[w.heap.size+1]? = some (.cells #[.int .i64 65000, .int .u32 200, .int .u32 168430090, .slice (some ⟨q,0,none⟩) 1 qc] 25 (0,0)):=by
  rw [set_blk ((hB2.block _ hcb).trans e0)]
  rfl
 have E1:(w2.setCell ⟨w.heap.size+1,3,none⟩ (.slice (some ⟨q,0,none⟩) 1 qc)).heap[w.heap.size]? = some (.cells #[.int .i64 0, .int .u32 0, .int .u32 0, .slice none 0 0] 25 (0,0)):=by
  rw [set_oth (by omega) 3 _]
  exact (hB2.block _ (by omega)).trans e1
 have HB:Below w.heap.size w (w2.setCell ⟨w.heap.size+1,3,none⟩ (.slice (some ⟨q,0,none⟩) 1 qc)):=(hB0.trans (hB2.mono (by omega))).setCell (by show w.heap.size≤w.heap.size+1;omega) _
 have HR:PeRow (w2.setCell ⟨w.heap.size+1,3,none⟩ (.slice (some ⟨q,0,none⟩) 1 qc)) (w.heap.size+2) q qc g1 g2 hd lm wt:=hR.keep fun b hb _=>set_oth (by omega) 3 _
 clear hB2 hR e0 e1 hB0 hsz c3 m3 hfx hcb
 generalize (w2.setCell ⟨w.heap.size+1,3,none⟩ (.slice (some ⟨q,0,none⟩) 1 qc))=w3 at E0 E1 HB HR ⊢
 have HBh:Hid (Below w.heap.size w w3):=HB
 have HRh:Hid (PeRow w3 (w.heap.size+2) q qc g1 g2 hd lm wt):=HR
 clear HB HR
 have y0:=cell_blk E0 0;have y1:=cell_blk E0 1;have y2:=cell_blk E0 2;have y3:=cell_blk E0 3
 have x0:=cell_blk E1 0;have x1:=cell_blk E1 1;have x2:=cell_blk E1 2;have x3:=cell_blk E1 3
 have z0:=frozen_blk E1 0;have z1:=frozen_blk E1 1;have z2:=frozen_blk E1 2;have z3:=frozen_blk E1 3
 simp at y0 y1 y2 y3 x0 x1 x2 x3
 clear E0 E1
 go_wp2_with fail
 rw [rounds_succ]
 go_wp2_with fail
 have HF:Below w.heap.size w ((((w3.setCell ⟨w.heap.size,0,none⟩ (.int .i64 65000)).setCell ⟨w.heap.size,1,none⟩ (.int .u32 200)).setCell ⟨w.heap.size,2,none⟩ (.int .u32 168430090)).setCell ⟨w.heap.size,3,none⟩ (.slice (some ⟨q,0,none⟩) 1 qc)):=(((HBh.out.setCell (Nat.le_refl _) _).setCell (Nat.le_refl _) _).setCell (Nat.le_refl _) _).setCell (Nat.le_refl _) _
 have HP:PeRow ((((w3.setCell ⟨w.heap.size,0,none⟩ (.int .i64 65000)).setCell ⟨w.heap.size,1,none⟩ (.int .u32 200)).setCell ⟨w.heap.size,2,none⟩ (.int .u32 168430090)).setCell ⟨w.heap.size,3,none⟩ (.slice (some ⟨q,0,none⟩) 1 qc)) (w.heap.size+2) q qc g1 g2 hd lm wt:=HRh.out.keep fun b hb _=>by
  rw [set_oth (by omega) 3 _,set_oth (by omega) 2 _,set_oth (by omega) 1 _,set_oth (by omega) 0 _]
 have HPh:Hid (PeRow _ w.heap.size q qc g1 g2 hd lm wt):=⟨HP.row,HP.r1,HP.r2,by have:=HP.b0;omega,by have:=HP.b1;omega,by have:=HP.b2;omega,HP.c1,HP.c2⟩
 have HFh:Hid (Below _ _ _):=HF
 clear HP HF HBh HRh
 exact bodyPost_ret (v:=.agg #[.int .i64 65000, .int .u32 200, .int .u32 168430090, .slice (some ⟨q,0,none⟩) 1 qc]) (by simp [results,Tryz.results29,go_sem, *]) rfl ⟨q,qc,g1,g2,rfl,HPh.out,HFh.out⟩
end Go.Proofs.YtjnkcibpkkjniaaGreat
namespace Go.Proofs.YtjnkcibpkkjniaaGreat
open Go Go.RowKit
open Go.Proofs.YtjnkcibpkkjniaaGreat.Sim (PlBlk)
set_option maxHeartbeats 400000
set_option maxRecDepth 20000
structure PcRow (w:World) (B q a1 c1 a2 c2:Nat) (hd lm wt:Int):Prop where
 row:∃ cur,w.heap[q]? = some (.cells cur 69 (0,0))∧∀ (j:Nat) (u:Value),(peC 100 hd lm 100 wt (.slice (some ⟨a1,0,none⟩) 1 c1) (.slice (some ⟨a2,0,none⟩) 1 c2))[j]? = some u→cur[j]? = some u
 r1:PlBlk w a1
 r2:PlBlk w a2
 b0:B≤q
 b1:B≤a1
 b2:B≤a2
theorem copy_one {w:World} {B q qc g1 g2:Nat} {hd lm wt:Int} (h:PeRow w B q qc g1 g2 hd lm wt) (au id nh:Int) :
  Calls Tryz.prog 40 #[.agg #[.int .i64 au, .int .u32 id, .int .u32 nh, .slice (some ⟨q,0,none⟩) 1 qc]] w fun e w'=>∃ q' qc' a1 c1 a2 c2,e=.returned (.agg #[.int .i64 au, .int .u32 id, .int .u32 nh, .slice (some ⟨q',0,none⟩) 1 qc'])∧PcRow w' w.heap.size q' a1 c1 a2 c2 hd lm wt∧Below w.heap.size w w':=by
 have H0:Hid (PeRow w B q qc g1 g2 hd lm wt):=h
 have HC:Hid (∀ w',Below w.heap.size w w'→Calls Tryz.prog 66 #[.slice (some ⟨q,0,none⟩) 1 qc] w' fun e w''=>∃ g' c' cur',e=.returned (.slice (some ⟨g',0,none⟩) 1 c')∧w'.heap.size≤g'∧w''.heap[g']? = some (.cells cur' 69 (0,0))∧(∀ j u,(peC 100 hd lm 100 wt (.slice (some ⟨g1,0,none⟩) 1 1) (.slice (some ⟨g2,0,none⟩) 1 1))[j]? = some u→w''.cell? ⟨g',j,none⟩=some u)∧Below w'.heap.size w' w''):=fun w' hB =>
  clonePeer_one rfl (by intro u hu;simp [peC] at hu;rcases hu with rfl | rfl | rfl | rfl | rfl | rfl | rfl <;> rfl) fun j u hu=>(h.below hB).cell j u hu
 clear h
 go_enter Tryz.func40,Tryz.ntmps40
 go_wp2_with (go_at_call 66;go_loud (refine (HC.out _ (by (repeat (first | exact Below.refl _ _ | refine Below.drew ?_ | refine Below.alloc ?_ (by first | omega | (simp only [World.size_alloc,World.size_setCell,World.size_drew];omega) | simp) _ | refine Below.setCell ?_ (by first | omega | simp) _ | assumption)))).mono ?_);go_loud (rintro e w1 ⟨q',c',cur',rfl,hq,hH,hc,hB1⟩);go_loud (have x0:=hB1.cell (p:=⟨w.heap.size,3,none⟩) (by simp;omega));go_loud (have x1:=hB1.frozen (p:=⟨w.heap.size,3,none⟩) (by simp;omega));simp at x0 x1)
 have hs1:=hB1.size
 simp at hq hs1
 have hR1:PeRow w1 B q qc g1 g2 hd lm wt:=(H0.out.below (by (repeat (first | exact Below.refl _ _ | refine Below.drew ?_ | refine Below.alloc ?_ (by first | omega | (simp only [World.size_alloc,World.size_setCell,World.size_drew];omega) | simp) _ | refine Below.setCell ?_ (by first | omega | simp) _ | assumption)))).below hB1
 have E0:w1.heap[w.heap.size]? = some (.cells #[.int .i64 au, .int .u32 id, .int .u32 nh, .slice (some ⟨q,0,none⟩) 1 qc] 25 (0,0)):=(hB1.block _ (by simp;omega)).trans ((Go.heap_alloc_old _ _ (by simp)).trans (Go.heap_alloc_new w _))
 have E1:w1.heap[w.heap.size+1]? = some (.cells #[.int .i64 0, .int .u32 0, .int .u32 0, .slice none 0 0] 25 (0,0)):=(hB1.block _ (by simp)).trans (by
  have:=Go.heap_alloc_new (w.alloc (.cells #[.int .i64 au, .int .u32 id, .int .u32 nh, .slice (some ⟨q,0,none⟩) 1 qc] 25)) (.cells #[.int .i64 0, .int .u32 0, .int .u32 0, .slice none 0 0] 25)
  simpa using this)
 have HB1:Below w.heap.size w w1:=Below.trans (by (repeat (first | exact Below.refl _ _ | refine Below.drew ?_ | refine Below.alloc ?_ (by first | omega | (simp only [World.size_alloc,World.size_setCell,World.size_drew];omega) | simp) _ | refine Below.setCell ?_ (by first | omega | simp) _ | assumption))) (hB1.mono (by simp <;> omega))
 have F0:(w1.setCell ⟨w.heap.size,3,none⟩ (.slice (some ⟨q',0,none⟩) 1 c')).heap[w.heap.size]? = some (.cells #[.int .i64 au, .int .u32 id, .int .u32 nh, .slice (some ⟨q',0,none⟩) 1 c'] 25 (0,0)):=by
  rw [set_blk E0]
  rfl
 have F1:(w1.setCell ⟨w.heap.size,3,none⟩ (.slice (some ⟨q',0,none⟩) 1 c')).heap[w.heap.size+1]? = _:=(set_oth (by omega) 3 _).trans E1
 have FQ:(w1.setCell ⟨w.heap.size,3,none⟩ (.slice (some ⟨q',0,none⟩) 1 c')).heap[q']? = _:=(set_oth (by omega) 3 _).trans hH
 have FB:Below w.heap.size w (w1.setCell ⟨w.heap.size,3,none⟩ (.slice (some ⟨q',0,none⟩) 1 c')):=HB1.setCell (Nat.le_refl _) _
 have hl1:=H0.out.r1.lt
 have hl2:=H0.out.r2.lt
 have FR1:RuBlk (w1.setCell ⟨w.heap.size,3,none⟩ (.slice (some ⟨q',0,none⟩) 1 c')) g1:=hR1.r1.keep (set_oth (by omega) 3 _)
 have FR2:RuBlk (w1.setCell ⟨w.heap.size,3,none⟩ (.slice (some ⟨q',0,none⟩) 1 c')) g2:=hR1.r2.keep (set_oth (by omega) 3 _)
 have Fc:∀ (j:Nat) (u:Value),(peC 100 hd lm 100 wt (.slice (some ⟨g1,0,none⟩) 1 1) (.slice (some ⟨g2,0,none⟩) 1 1))[j]? = some u→(w1.setCell ⟨w.heap.size,3,none⟩ (.slice (some ⟨q',0,none⟩) 1 c')).cell? ⟨q',j,none⟩=some u:=fun j u hu=>(World.cell?_setCell_other _ _ _ _ (by simp <;> omega)).trans (hc j u hu)
 clear x0 x1 E0 E1 hH hc hB1 hs1 hR1 HB1 HC
 generalize (w1.setCell ⟨w.heap.size,3,none⟩ (.slice (some ⟨q',0,none⟩) 1 c'))=w2 at F0 F1 FQ FB FR1 FR2 Fc ⊢
 have HB2:Hid (Below w.heap.size w w2):=FB
 have HR1:Hid (RuBlk w2 g1):=FR1
 have HR2:Hid (RuBlk w2 g2):=FR2
 have HQ2:Hid (w2.heap[q']? = some (.cells cur' 69 (0,0))):=FQ
 have HC2:Hid (∀ (j:Nat) (u:Value),(peC 100 hd lm 100 wt (.slice (some ⟨g1,0,none⟩) 1 1) (.slice (some ⟨g2,0,none⟩) 1 1))[j]? = some u→w2.cell? ⟨q',j,none⟩=some u):=Fc
 have HF0:Hid (w2.heap[w.heap.size]? = _):=F0
 have HF1:Hid (w2.heap[w.heap.size+1]? = _):=F1
 have y3:=cell_blk F0 3
 have v5:=Fc 5 _ rfl
 have v6:=Fc 6 _ rfl
 have hlw:w.heap.size < w2.heap.size:=(Array.getElem?_eq_some_iff.1 F0).1
 have hlw1:w.heap.size+1 < w2.heap.size:=(Array.getElem?_eq_some_iff.1 F1).1
 have hlq:q' < w2.heap.size:=(Array.getElem?_eq_some_iff.1 FQ).1
 simp at y3
 clear F0 F1 FQ FB FR1 FR2 Fc
 refine wp_loop_rounds 2 ?_
 rw [rounds_succ]
 go_upto_region 7 with (go_at_call 67;go_loud (refine (cloneRule_one HR1.out).mono ?_);go_loud (rintro e w3 ⟨a1,c1,rfl,ha1,hP1,hB3⟩);go_loud (have q5:=(hB3.cell (p:=⟨q',5,none⟩) hlq).trans v5);go_loud (have q6:=(hB3.cell (p:=⟨q',6,none⟩) hlq).trans v6);go_loud (have m5:=(hB3.frozen (p:=⟨q',5,none⟩) hlq).trans (frozen_blk HQ2.out 5));clear y3 v5 v6)
 have hs3:=hB3.size
 have e5:∀ b,b≠q'→(w3.setCell ⟨q',5,none⟩ (.slice (some ⟨a1,0,none⟩) 1 c1)).heap[b]? = w3.heap[b]?:=fun b hb=>set_oth hb.symm 5 _
 have hz3:(w3.setCell ⟨q',5,none⟩ (.slice (some ⟨a1,0,none⟩) 1 c1)).heap.size=w3.heap.size:=by simp
 have hRg2:RuBlk (w3.setCell ⟨q',5,none⟩ (.slice (some ⟨a1,0,none⟩) 1 c1)) g2:=HR2.out.keep ((e5 g2 (by omega)).trans (hB3.block _ (by omega)))
 have v6:(w3.setCell ⟨q',5,none⟩ (.slice (some ⟨a1,0,none⟩) 1 c1)).cell? ⟨q',6,none⟩=_:=(World.cell?_setCell_other _ _ _ _ (by simp)).trans q6
 have HQ3:(w3.setCell ⟨q',5,none⟩ (.slice (some ⟨a1,0,none⟩) 1 c1)).heap[q']? = some (.cells (cur'.setIfInBounds 5 (.slice (some ⟨a1,0,none⟩) 1 c1)) 69 (0,0)):=set_blk ((hB3.block _ hlq).trans HQ2.out) 5 _
 have HHQ3:Hid _:=HQ3
 have HRg2:Hid _:=hRg2
 have HE5:Hid (∀ b,b≠q'→_):=e5
 have HP1:Hid (PlBlk w3 a1):=hP1
 have HB3:Hid (Below _ _ w3):=hB3
 clear q5 q6 m5 HQ3 hRg2 e5 hP1 hB3
 generalize hw:(w3.setCell ⟨q',5,none⟩ (.slice (some ⟨a1,0,none⟩) 1 c1))=wB at HHQ3 HRg2 HE5 v6 hz3 ⊢
 have HW:Hid (_=wB):=hw
 have hlqB:q' < wB.heap.size:=by omega
 clear hw
 go_wp2_with (go_at_call 67;go_loud (refine (cloneRule_one HRg2.out).mono ?_);go_loud (rintro e w4 ⟨a2,c2,rfl,ha2,hP2,hB4⟩);go_loud (have q6:=(hB4.cell (p:=⟨q',6,none⟩) hlqB).trans v6);go_loud (have m6:=(hB4.frozen (p:=⟨q',6,none⟩) hlqB).trans (frozen_blk HHQ3.out 6));clear v6)
 have hs4:=hB4.size
 have E0:(w4.setCell ⟨q',6,none⟩ (.slice (some ⟨a2,0,none⟩) 1 c2)).heap[w.heap.size]? = _:=(set_oth (by omega) 6 _).trans ((hB4.block _ (by omega)).trans ((HE5.out _ (by omega)).trans ((HB3.out.block _ hlw).trans HF0.out)))
 have E1:(w4.setCell ⟨q',6,none⟩ (.slice (some ⟨a2,0,none⟩) 1 c2)).heap[w.heap.size+1]? = _:=(set_oth (by omega) 6 _).trans ((hB4.block _ (by omega)).trans ((HE5.out _ (by omega)).trans ((HB3.out.block _ hlw1).trans HF1.out)))
 have hcur:w2.heap[q']? = _:=HQ2.out
 have HRow:PcRow (w4.setCell ⟨q',6,none⟩ (.slice (some ⟨a2,0,none⟩) 1 c2)) (w.heap.size+2) q' a1 c1 a2 c2 hd lm wt:=by
  refine ⟨⟨_,set_blk ((hB4.block _ (by omega)).trans HHQ3.out) 6 _,fun j u hu=>?_⟩,HP1.out.keep ((set_oth (by omega) 6 _).trans ((hB4.block _ (by obtain ⟨_,_,_,k,_⟩:=HP1.out;have:=(Array.getElem?_eq_some_iff.1 k).1;omega)).trans (HE5.out _ (by omega)))),hP2.keep (set_oth (by omega) 6 _),by omega,by omega,by omega⟩
  have hj:j < 7:=(List.getElem?_eq_some_iff.1 hu).1
  have hc:=fun j u h=>by simpa [cell_of_row _ _ _ _ _ _ hcur] using HC2.out j u h
  have c6:=hc 6 _ rfl
  have hsz6:=(Array.getElem?_eq_some_iff.1 c6).1
  obtain rfl | rfl | rfl | rfl | rfl | rfl | rfl:j=0∨j=1∨j=2∨j=3∨j=4∨j=5∨j=6:=by omega
  ·simp [peC] at hu;subst hu;rw [Array.getElem?_setIfInBounds_ne (by omega),Array.getElem?_setIfInBounds_ne (by omega)];exact hc 0 _ rfl
  ·simp [peC] at hu;subst hu;rw [Array.getElem?_setIfInBounds_ne (by omega),Array.getElem?_setIfInBounds_ne (by omega)];exact hc 1 _ rfl
  ·simp [peC] at hu;subst hu;rw [Array.getElem?_setIfInBounds_ne (by omega),Array.getElem?_setIfInBounds_ne (by omega)];exact hc 2 _ rfl
  ·simp [peC] at hu;subst hu;rw [Array.getElem?_setIfInBounds_ne (by omega),Array.getElem?_setIfInBounds_ne (by omega)];exact hc 3 _ rfl
  ·simp [peC] at hu;subst hu;rw [Array.getElem?_setIfInBounds_ne (by omega),Array.getElem?_setIfInBounds_ne (by omega)];exact hc 4 _ rfl
  ·simp [peC] at hu;subst hu;rw [Array.getElem?_setIfInBounds_ne (by omega),Array.getElem?_setIfInBounds_self_of_lt (by omega)]
  ·simp [peC] at hu;subst hu;rw [Array.getElem?_setIfInBounds_self_of_lt (by simp;omega)]
 have hB5:Below w.heap.size w wB:=HW.out▸(HB2.out.trans (HB3.out.mono (by omega))).setCell (by show w.heap.size≤q';omega) _
 have HBf:Below w.heap.size w (w4.setCell ⟨q',6,none⟩ (.slice (some ⟨a2,0,none⟩) 1 c2)):=(hB5.trans (hB4.mono (by omega))).setCell (by show w.heap.size≤q';omega) _
 clear q6 m6 HE5 HHQ3 HRg2 HP1 HB3 HW hB5 hB4 hP2 hcur HF0 HF1 HQ2 HC2 HB2 HR1 HR2
 generalize (w4.setCell ⟨q',6,none⟩ (.slice (some ⟨a2,0,none⟩) 1 c2))=w5 at E0 E1 HRow HBf ⊢
 have y0:=cell_blk E0 0;have y1:=cell_blk E0 1;have y2:=cell_blk E0 2;have y3:=cell_blk E0 3
 have x0:=cell_blk E1 0;have x1:=cell_blk E1 1;have x2:=cell_blk E1 2;have x3:=cell_blk E1 3
 have z0:=frozen_blk E1 0;have z1:=frozen_blk E1 1;have z2:=frozen_blk E1 2;have z3:=frozen_blk E1 3
 simp at y0 y1 y2 y3 x0 x1 x2 x3
 have HRowh:Hid (PcRow w5 _ _ _ _ _ _ _ _ _):=HRow
 have HBfh:Hid (Below w.heap.size w w5):=HBf
 clear E0 E1 HRow HBf
 rw [rounds_succ]
 go_wp2_with fail
 have HF:Below w.heap.size w ((((w5.setCell ⟨w.heap.size+1,0,none⟩ (.int .i64 au)).setCell ⟨w.heap.size+1,1,none⟩ (.int .u32 id)).setCell ⟨w.heap.size+1,2,none⟩ (.int .u32 nh)).setCell ⟨w.heap.size+1,3,none⟩ (.slice (some ⟨q',0,none⟩) 1 c')):=(((HBfh.out.setCell (Nat.le_succ _) _).setCell (Nat.le_succ _) _).setCell (Nat.le_succ _) _).setCell (Nat.le_succ _) _
 have hk:∀ b,w.heap.size+2≤b→((((w5.setCell ⟨w.heap.size+1,0,none⟩ (.int .i64 au)).setCell ⟨w.heap.size+1,1,none⟩ (.int .u32 id)).setCell ⟨w.heap.size+1,2,none⟩ (.int .u32 nh)).setCell ⟨w.heap.size+1,3,none⟩ (.slice (some ⟨q',0,none⟩) 1 c')).heap[b]? = w5.heap[b]?:=fun b hb=>by
  rw [set_oth (by omega) 3 _,set_oth (by omega) 2 _,set_oth (by omega) 1 _,set_oth (by omega) 0 _]
 have HR:=HRowh.out
 obtain ⟨cur5,k1,k2⟩:=HR.row
 have HP:PcRow ((((w5.setCell ⟨w.heap.size+1,0,none⟩ (.int .i64 au)).setCell ⟨w.heap.size+1,1,none⟩ (.int .u32 id)).setCell ⟨w.heap.size+1,2,none⟩ (.int .u32 nh)).setCell ⟨w.heap.size+1,3,none⟩ (.slice (some ⟨q',0,none⟩) 1 c')) w.heap.size q' a1 c1 a2 c2 hd lm wt :=
  ⟨⟨cur5,(hk q' HR.b0).trans k1,k2⟩,HR.r1.keep (hk a1 HR.b1),HR.r2.keep (hk a2 HR.b2),by have:=HR.b0;omega,by have:=HR.b1;omega,by have:=HR.b2;omega⟩
 have HPh:Hid (PcRow _ w.heap.size q' a1 c1 a2 c2 hd lm wt):=HP
 have HFh:Hid (Below _ _ _):=HF
 clear HP HF HRowh HBfh HR k1 k2 hk
 exact bodyPost_ret (v:=.agg #[.int .i64 au, .int .u32 id, .int .u32 nh, .slice (some ⟨q',0,none⟩) 1 c']) (by simp [results,Tryz.results40,go_sem, *]) rfl ⟨q',c',a1,c1,a2,c2,rfl,HPh.out,HFh.out⟩
end Go.Proofs.YtjnkcibpkkjniaaGreat
namespace Go.Proofs.YtjnkcibpkkjniaaGreat
open Go Go.RowKit
open Go.Proofs.YtjnkcibpkkjniaaGreat.Pool (okOps topB wp_region_lb)
open Go.Proofs.YtjnkcibpkkjniaaGreat.Sim (PlBlk)
set_option maxHeartbeats 1000000
set_option maxRecDepth 20000
theorem el88Q:∃ i z,ElI 100 i z 14 160∧∀ u∈z.cells.toList,Pl u:=by
 obtain ⟨i,z,h⟩:∃ i z,ElI 100 i z 14 160:=elI (by kernel_rfl)
 refine ⟨i,z,h,?_⟩
 have hk:((Tryz.prog.info? 100).bind fun i=>i.zero.map (·.cells))=some #[.int .i64 0, .int .u32 0, .int .i64 0, .int .i64 0, .int .i64 0, .int .i64 0, .int .i64 0, .slice none 0 0, .slice none 0 0, .int .i64 0, .int .i64 0, .int .i64 0, .int .i64 0, .slice none 0 0]:=by kernel_rfl
 rw [h.info] at hk
 simp only [Option.bind_some,h.zero,Option.map_some,Option.some.injEq] at hk
 rw [hk]
 intro u hu
 simp at hu
 rcases hu with rfl | rfl | rfl | rfl | rfl | rfl
 all_goals first | exact Pl.int _ _ | exact Pl.slice0 _ _
def nwV (sp cb B:Nat) (au id:Int) (p:Pz):Nat→Value→World→Prop
 | 0,v,_=>v=.pointer (some ⟨sp,0,none⟩)
 | 1,v,_=>v=.pointer (some ⟨sp,0,none⟩)
 | 2,v,_=>v=.pointer (some ⟨sp,0,none⟩)
 | 3,v,_=>v=.pointer (some ⟨sp,1,none⟩)
 | 4,v,_=>v=.slice none 0 0
 | 5,v,_=>v=.pointer (some ⟨cb,0,none⟩)
 | 6,v,_=>v=.int .i64 au
 | 7,v,_=>v=.pointer (some ⟨cb,1,none⟩)
 | 8,v,_=>v=.int .u32 id
 | 9,v,_=>v=.agg p.cells
 | 10,v,_=>v=.agg (sessA au id p 0 0 0 0 (.slice none 0 0))
 | 11,v,w=>∃ nb,v=.slice (some ⟨nb,0,none⟩) 1 1∧B≤nb∧w.heap[nb]? = some (.cells (sessA au id p 0 0 0 0 (.slice none 0 0)) 100 (0,0))
 | 12,v,w=>∃ (xb xc:Nat) (Z:List Value),v=.slice (some ⟨xb,0,none⟩) 1 xc∧B≤xb∧w.heap[xb]? = some (.cells (sessA au id p 0 0 0 0 (.slice none 0 0)++Z.toArray) 100 (0,0))∧∀ u∈Z,Pl u
 | 13,v,_=>v=.pointer (some ⟨sp,0,none⟩)
 | 14,v,_=>v=.pointer (some ⟨sp,1,none⟩)
 | _,_,_=>True
theorem nwV_mono {sp cb B:Nat} {au id:Int} {p:Pz} (w w':World) (i:Nat) (u:Value) (hB:Below w.heap.size w w') (h:nwV sp cb B au id p i u w):nwV sp cb B au id p i u w':=by
 unfold nwV at h ⊢
 split at h
 iterate 11 exact h
 ·obtain ⟨nb,h1,h2,h3⟩:=h;exact ⟨nb,h1,h2,(hB.block _ (Array.getElem?_eq_some_iff.1 h3).1).trans h3⟩
 ·obtain ⟨xb,xc,Z,h1,h2,h3,h4⟩:=h;exact ⟨xb,xc,Z,h1,h2,(hB.block _ (Array.getElem?_eq_some_iff.1 h3).1).trans h3,h4⟩
 ·exact h
 ·exact h
 ·trivial
noncomputable def nwOps:Array Oper:=((Tryz.f20.body).bind (opsOf 8)).getD #[]
theorem nw_ok:okOps nwOps [1,3,5,7,18,19,20] 42=true:=by kernel_rfl
theorem nw_top:topB nwOps=true:=by kernel_rfl
theorem nw_size:nwOps.size=16:=by kernel_rfl
theorem nw_hop {Q:Exit→Act→World→Prop} {sp cb pb B:Nat} {au id:Int} {p:Pz} {w0:World} (hB0:B≤w0.heap.size) (hsp:sp < w0.heap.size) (hcb:cb < w0.heap.size) (hpb:pb < w0.heap.size) (s1:w0.cell? ⟨sp,1,none⟩=some (.slice none 0 0)) (c0:w0.cell? ⟨cb,0,none⟩=some (.int .i64 au)) (c1:w0.cell? ⟨cb,1,none⟩=some (.int .u32 id))
  (d0:w0.cell? ⟨pb,0,none⟩=some (.int .i64 p.au)) (d1:w0.cell? ⟨pb,1,none⟩=some (.int .i64 p.hold)) (d2:w0.cell? ⟨pb,2,none⟩=some (.int .i64 p.lim)) (d3:w0.cell? ⟨pb,3,none⟩=some (.int .i64 p.pref)) (d4:w0.cell? ⟨pb,4,none⟩=some (.int .i64 p.wait)) (d5:w0.cell? ⟨pb,5,none⟩=some (.slice p.ia p.il p.ic)) (d6:w0.cell? ⟨pb,6,none⟩=some (.slice p.ea p.el p.ec))
  (i:Nat) (o:Oper) (a:Act) (w:World) (hi:i < 15) (ho:nwOps[i]? = some o) (f1:a.tmps[1]? = some (.pointer (some ⟨cb,0,none⟩))) (f5:a.tmps[5]? = some (.pointer (some ⟨sp,0,none⟩))) (f7:a.tmps[7]? = some (.pointer (some ⟨pb,0,none⟩)))
  (hdep:∀ (j:Nat) (o':Oper) (d:Nat),nwOps[j]? = some o'→o'.dst=some d→(∃ e∈o.after,e.on=j∧Region.binds .any e=true)→∃ v,a.tmps[d]? = some v∧nwV sp cb B au id p j v w) (hs:Below w0.heap.size w0 w)
  (K:Act→World→Prop) (hK:∀ v w',nwV sp cb B au id p i v w'→Below w.heap.size w w'→K (a.put o.dst v) w'):o.wp Tryz.prog a w K Q:=by
 have a0:=(hs.cell (p:=⟨sp,1,none⟩) hsp).trans s1
 have a1:=(hs.cell (p:=⟨cb,0,none⟩) hcb).trans c0
 have a2:=(hs.cell (p:=⟨cb,1,none⟩) hcb).trans c1
 have b0:=(hs.cell (p:=⟨pb,0,none⟩) hpb).trans d0
 have b1:=(hs.cell (p:=⟨pb,1,none⟩) hpb).trans d1
 have b2:=(hs.cell (p:=⟨pb,2,none⟩) hpb).trans d2
 have b3:=(hs.cell (p:=⟨pb,3,none⟩) hpb).trans d3
 have b4:=(hs.cell (p:=⟨pb,4,none⟩) hpb).trans d4
 have b5:=(hs.cell (p:=⟨pb,5,none⟩) hpb).trans d5
 have b6:=(hs.cell (p:=⟨pb,6,none⟩) hpb).trans d6
 have hsz:=hs.size
 clear s1 c0 c1 d0 d1 d2 d3 d4 d5 d6
 obtain rfl | rfl | rfl | rfl | rfl | rfl | rfl | rfl | rfl | rfl | rfl | rfl | rfl | rfl | rfl:i=0∨i=1∨i=2∨i=3∨i=4∨i=5∨i=6∨i=7∨i=8∨i=9∨i=10∨i=11∨i=12∨i=13∨i=14:=by omega
 all_goals
  simp only [nwOps,Tryz.f20,opsOf,Option.bind_some] at ho
  simp [opsOf] at ho
  subst ho
 ·unfold Oper.wp execOp
  simp only [Act.eval,Array.getD_eq_getD_getElem?,f5,Option.getD_some]
  go_simp
  exact hK _ _ rfl (Below.refl _ _)
 ·unfold Oper.wp execOp
  simp only [Act.eval,Array.getD_eq_getD_getElem?,f5,Option.getD_some]
  go_simp
  exact hK _ _ rfl (Below.refl _ _)
 ·obtain ⟨u0,h0,p0⟩:=hdep 1 _ _ rfl rfl ⟨⟨1, .data⟩,by simp,rfl,rfl⟩
  simp only [nwV] at p0
  try subst p0
  unfold Oper.wp execOp
  simp only [Act.eval,Array.getD_eq_getD_getElem?,h0,Option.getD_some]
  go_simp
  exact hK _ _ rfl (Below.refl _ _)
 ·obtain ⟨u0,h0,p0⟩:=hdep 2 _ _ rfl rfl ⟨⟨2, .data⟩,by simp,rfl,rfl⟩
  simp only [nwV] at p0
  try subst p0
  unfold Oper.wp execOp
  simp only [Act.eval,Array.getD_eq_getD_getElem?,h0,Option.getD_some]
  go_simp
  exact hK _ _ rfl (Below.refl _ _)
 ·obtain ⟨u0,h0,p0⟩:=hdep 3 _ _ rfl rfl ⟨⟨3, .data⟩,by simp,rfl,rfl⟩
  simp only [nwV] at p0
  try subst p0
  unfold Oper.wp execOp
  simp only [Act.eval,Array.getD_eq_getD_getElem?,h0,Option.getD_some]
  go_simp
  exact hK _ _ rfl (Below.refl _ _)
 ·unfold Oper.wp execOp
  simp only [Act.eval,Array.getD_eq_getD_getElem?,f1,Option.getD_some]
  go_simp
  exact hK _ _ rfl (Below.refl _ _)
 ·obtain ⟨u0,h0,p0⟩:=hdep 5 _ _ rfl rfl ⟨⟨5, .data⟩,by simp,rfl,rfl⟩
  simp only [nwV] at p0
  try subst p0
  unfold Oper.wp execOp
  simp only [Act.eval,Array.getD_eq_getD_getElem?,h0,Option.getD_some]
  go_simp
  exact hK _ _ rfl (Below.refl _ _)
 ·unfold Oper.wp execOp
  simp only [Act.eval,Array.getD_eq_getD_getElem?,f1,Option.getD_some]
  go_simp
  exact hK _ _ rfl (Below.refl _ _)
 ·obtain ⟨u0,h0,p0⟩:=hdep 7 _ _ rfl rfl ⟨⟨7, .data⟩,by simp,rfl,rfl⟩
  simp only [nwV] at p0
  try subst p0
  unfold Oper.wp execOp
  simp only [Act.eval,Array.getD_eq_getD_getElem?,h0,Option.getD_some]
  go_simp
  exact hK _ _ rfl (Below.refl _ _)
 ·unfold Oper.wp execOp
  simp only [Act.eval,Array.getD_eq_getD_getElem?,f7,Option.getD_some]
  go_simp
  exact hK _ _ rfl (Below.refl _ _)
 ·obtain ⟨u0,h0,p0⟩:=hdep 6 _ _ rfl rfl ⟨⟨6, .data⟩,by simp,rfl,rfl⟩
  simp only [nwV] at p0
  try subst p0
  obtain ⟨u1,h1,p1⟩:=hdep 8 _ _ rfl rfl ⟨⟨8, .data⟩,by simp,rfl,rfl⟩
  simp only [nwV] at p1
  try subst p1
  obtain ⟨u2,h2,p2⟩:=hdep 9 _ _ rfl rfl ⟨⟨9, .data⟩,by simp,rfl,rfl⟩
  simp only [nwV] at p2
  try subst p2
  unfold Oper.wp execOp
  simp only [Act.eval,Array.getD_eq_getD_getElem?,h0,h1,h2,Option.getD_some]
  go_simp
  refine (new_any_sess au id p w).mono ?_
  rintro e w1 ⟨rfl,hB⟩
  exact hK _ _ rfl hB
 ·obtain ⟨u0,h0,p0⟩:=hdep 10 _ _ rfl rfl ⟨⟨10, .data⟩,by simp,rfl,rfl⟩
  simp only [nwV] at p0
  try subst p0
  simp only [sessA] at h0
  unfold Oper.wp execOp
  simp only [Act.eval,Array.getD_eq_getD_getElem?,h0,Option.getD_some]
  go_simp
  exact hK _ _ ⟨w.heap.size,rfl,by omega,Go.heap_alloc_new w _⟩ ((Below.refl _ _).alloc (Nat.le_refl _) _)
 ·obtain ⟨u0,h0,p0⟩:=hdep 4 _ _ rfl rfl ⟨⟨4, .data⟩,by simp,rfl,rfl⟩
  simp only [nwV] at p0
  try subst p0
  obtain ⟨u1,h1,p1⟩:=hdep 11 _ _ rfl rfl ⟨⟨11, .data⟩,by simp,rfl,rfl⟩
  simp only [nwV] at p1
  try subst p1
  obtain ⟨nb,rfl,hnb,hblk⟩:=p1
  obtain ⟨i2,z2,hE,hZ⟩:=el88Q
  have hcc:∀ (j:Nat) (u:Value),(sessA au id p 0 0 0 0 (.slice none 0 0)).toList[j]? = some u→w.cell? ((⟨nb,0,none⟩:Addr).add j)=some u:=fun j u hu=>by
   rw [show (⟨nb,0,none⟩:Addr).add j=⟨nb,j,none⟩ from by simp [Addr.add_lit]]
   exact (cell_blk hblk j).trans (by simpa using hu)
  have hrun:=run_append_nil (P:=Tryz.prog) (w:=w) 89 89 100 i2 z2 Tryz.underlying89 hE.info hE.zero ⟨nb,0,none⟩ 1 1 (sessA au id p 0 0 0 0 (.slice none 0 0)).toList (by rw [hE.size];rfl) hcc (by decide) (by decide) (by rw [hE.bytes];decide)
  have hx0:a.eval (.tmp 28)=.slice none 0 0:=by simp [Act.eval,Array.getD_eq_getD_getElem?,h0]
  have hx1:a.eval (.tmp 35)=.slice (some ⟨nb,0,none⟩) 1 1:=by simp [Act.eval,Array.getD_eq_getD_getElem?,h1]
  unfold Oper.wp
  simp [execOp,resolve,invoke,builtin,hx0,hx1,hrun,Result.andThen]
  refine hK _ _ ⟨w.heap.size,_,(Builtin.zeroCells z2.cells (grownCap w 1 0 100 - 1)).toList,rfl,by omega,(Go.heap_alloc_new w.drew _).trans ?_,fun u hu=>hZ u (zeroCells_mem (by rw [hE.cells];decide) hu)⟩ ((Below.refl _ _).drew.alloc (Nat.le_refl _) _)
  simp
 ·obtain ⟨u0,h0,p0⟩:=hdep 0 _ _ rfl rfl ⟨⟨0, .data⟩,by simp,rfl,rfl⟩
  simp only [nwV] at p0
  try subst p0
  unfold Oper.wp execOp
  simp only [Act.eval,Array.getD_eq_getD_getElem?,h0,Option.getD_some]
  go_simp
  exact hK _ _ rfl (Below.refl _ _)
 ·obtain ⟨u0,h0,p0⟩:=hdep 13 _ _ rfl rfl ⟨⟨13, .data⟩,by simp,rfl,rfl⟩
  simp only [nwV] at p0
  try subst p0
  unfold Oper.wp execOp
  simp only [Act.eval,Array.getD_eq_getD_getElem?,h0,Option.getD_some]
  go_simp
  exact hK _ _ rfl (Below.refl _ _)
theorem nw_last {Q:Exit→Act→World→Prop} {sp cb B:Nat} {au id:Int} {p:Pz} {w0:World} (hsp:sp < w0.heap.size) (s1:w0.cell? ⟨sp,1,none⟩=some (.slice none 0 0)) (m1:w0.frozen? ⟨sp,1,none⟩=false)
  (o:Oper) (a:Act) (w:World) (ho:nwOps[15]? = some o)
  (hdep:∀ (j:Nat) (o':Oper) (d:Nat),nwOps[j]? = some o'→o'.dst=some d→(∃ e∈o.after,e.on=j∧Region.binds .any e=true)→∃ v,a.tmps[d]? = some v∧nwV sp cb B au id p j v w) (hs:Below w0.heap.size w0 w)
  (K:Act→World→Prop) (hK:∀ v w' w2 xb xc (Z:List Value),Below w0.heap.size w0 w2→w'=w2.setCell ⟨sp,1,none⟩ (.slice (some ⟨xb,0,none⟩) 1 xc)→B≤xb→w2.heap[xb]? = some (.cells (sessA au id p 0 0 0 0 (.slice none 0 0)++Z.toArray) 100 (0,0))→(∀ u∈Z,Pl u)→K (a.put o.dst v) w'):o.wp Tryz.prog a w K Q:=by
 have a0:=(hs.cell (p:=⟨sp,1,none⟩) hsp).trans s1
 have a1:=(hs.frozen (p:=⟨sp,1,none⟩) hsp).trans m1
 clear s1 m1
 simp only [nwOps,Tryz.f20,opsOf,Option.bind_some] at ho
 simp [opsOf] at ho
 subst ho
 obtain ⟨u0,h0,p0⟩:=hdep 14 _ _ rfl rfl ⟨⟨14, .data⟩,by simp,rfl,rfl⟩
 simp only [nwV] at p0
 try subst p0
 obtain ⟨u1,h1,p1⟩:=hdep 12 _ _ rfl rfl ⟨⟨12, .data⟩,by simp,rfl,rfl⟩
 simp only [nwV] at p1
 try subst p1
 obtain ⟨xb,xc,Z,rfl,hxb,hblk,hpl⟩:=p1
 unfold Oper.wp execOp
 simp only [Act.eval,Array.getD_eq_getD_getElem?,h0,h1,Option.getD_some]
 go_simp
 exact hK undef _ w xb xc Z hs rfl hxb hblk hpl
end Go.Proofs.YtjnkcibpkkjniaaGreat
namespace Go.Proofs.YtjnkcibpkkjniaaGreat
open Go Go.RowKit
open Go.Proofs.YtjnkcibpkkjniaaGreat.Pool (okOps topB wp_region_lb)
open Go.Proofs.YtjnkcibpkkjniaaGreat.Sim (PlBlk Sess Named3)
set_option maxHeartbeats 1000000
set_option maxRecDepth 20000
def rl0:Rl:=⟨true,0,0,0,32⟩
theorem RuBlk.rs {w:World} {g:Nat} (h:RuBlk w g):RsAt w (.slice (some ⟨g,0,none⟩) 1 1) 1 fun _=>rl0:=by
 refine ⟨⟨_,_,rfl,Nat.le_refl _,by decide,fun _=>⟨g,0,rfl,fun i hi k u hu=>?_⟩⟩,fun i hi=>⟨by show (0:Int)≤0;decide,by show (0:Int) < 4294967296;decide⟩⟩
 obtain rfl:i=0:=by omega
 have:=cell_blk h k
 simp only [Nat.zero_mul,Nat.zero_add]
 exact this.trans (by simpa [ruC,rl0,Rl.cells] using hu)
def pr0 (hd lm wt:Int) (g1 g2:Nat):Pr:=⟨100,hd,lm,100,wt, .slice (some ⟨g1,0,none⟩) 1 1,1,fun _=>rl0, .slice (some ⟨g2,0,none⟩) 1 1,1,fun _=>rl0⟩
theorem PeRow.ps {w:World} {B q qc g1 g2:Nat} {hd lm wt:Int} (h:PeRow w B q qc g1 g2 hd lm wt):PsAt w (.slice (some ⟨q,0,none⟩) 1 qc) 1 fun _=>pr0 hd lm wt g1 g2:=by
 refine ⟨⟨_,_,rfl,h.c1,h.c2,fun _=>⟨q,0,rfl,fun i hi k u hu=>?_⟩⟩,fun i hi=>⟨h.r1.rs,h.r2.rs⟩⟩
 obtain rfl:i=0:=by omega
 simp only [Nat.zero_mul,Nat.zero_add]
 exact h.cell k u hu
theorem pr0_ok {hd lm wt:Int} {g1 g2:Nat} (h1:3≤hd) (h2:hd≤65535) (h3:0≤lm) (h4:0≤wt) (h5:wt≤1000):peerB (pr0 hd lm wt g1 g2)=true:=by
 simp [peerB,pr0,betB,holdB,fltB,allB,ruleB,rl0,h1,h2,h3,h4,h5]
theorem check_one {w:World} {B q qc g1 g2:Nat} {hd lm wt:Int} (h:PeRow w B q qc g1 g2 hd lm wt) (h1:3≤hd) (h2:hd≤65535) (h3:0≤lm) (h4:0≤wt) (h5:wt≤1000) :
  Calls Tryz.prog 39 #[.agg #[.int .i64 65000, .int .u32 200, .int .u32 168430090, .slice (some ⟨q,0,none⟩) 1 qc]] w fun e w'=>e=.returned (.agg #[.int .i64 0, .int .i64 0])∧Below w.heap.size w w':=by
 have hf:faultOf 65000 200 1 (fun _=>pr0 hd lm wt g1 g2)=(0,0):=by
  simp [faultOf,spkB,betB,firstBad,pr0_ok h1 h2 h3 h4 h5]
 have:=check_any 65000 200 168430090 _ 1 qc _ w h.ps
 rw [hf] at this
 exact this
theorem arr42 {C:Array Value} (h:C.size=42):∃ c0 c1 c2 c3 c4 c5 c6 c7 c8 c9 c10 c11 c12 c13 c14 c15 c16 c17 c18 c19 c20 c21 c22 c23 c24 c25 c26 c27 c28 c29 c30 c31 c32 c33 c34 c35 c36 c37 c38 c39 c40 c41,C=#[c0,c1,c2,c3,c4,c5,c6,c7,c8,c9,c10,c11,c12,c13,c14,c15,c16,c17,c18,c19,c20,c21,c22,c23,c24,c25,c26,c27,c28,c29,c30,c31,c32,c33,c34,c35,c36,c37,c38,c39,c40,c41]:=by
 obtain ⟨l⟩:=C
 match l,h with
 | c0::c1::c2::c3::c4::c5::c6::c7::c8::c9::c10::c11::c12::c13::c14::c15::c16::c17::c18::c19::c20::c21::c22::c23::c24::c25::c26::c27::c28::c29::c30::c31::c32::c33::c34::c35::c36::c37::c38::c39::c40::c41::[],_=>exact ⟨_,_,_,_,_,_,_,_,_,_,_,_,_,_,_,_,_,_,_,_,_,_,_,_,_,_,_,_,_,_,_,_,_,_,_,_,_,_,_,_,_,_,rfl⟩
theorem field_cfg (au id nh:Int) (ao:Option Addr) (n cap:Nat) (w:World) :
  Sem.run Tryz.prog (Instr.field 25 (.agg #[.int .i64 au, .int .u32 id, .int .u32 nh, .slice ao n cap]) 3) w=.ok (.slice ao n cap) w:=by
 simp [Instr.field,part,isAgg,asAgg,go_sem]
theorem new_one {w:World} {B q qc g1 g2:Nat} {hd lm wt:Int} (h:PeRow w B q qc g1 g2 hd lm wt) (h1:3≤hd) (h2:hd≤65535) (h3:0≤lm) (h4:0≤wt) (h5:wt≤1000) :
  Calls Tryz.prog 20 #[.agg #[.int .i64 65000, .int .u32 200, .int .u32 168430090, .slice (some ⟨q,0,none⟩) 1 qc]] w fun e w'=>∃ sp,e=.returned (.tuple #[.pointer (some ⟨sp,0,none⟩), .agg #[.int .i64 0, .int .i64 0]])∧∃ (xb xc:Nat) (Z:List Value) (p:Pz),w'.heap[sp]? = some (.cells #[.int .i64 0, .slice (some ⟨xb,0,none⟩) 1 xc] 91 (0,0))∧Sess w' xb Z 65000 200 p 0 0 0 0 none 0 0∧p.au=100∧p.hold=hd∧sp≠xb∧¬ Named3 p none sp∧(w.heap.size≤sp∧w.heap.size≤xb∧∀ b,Named3 p none b→w.heap.size≤b)∧Below w.heap.size w w':=by
 have HCk:Hid (∀ w',Below w.heap.size w w'→Calls Tryz.prog 39 #[.agg #[.int .i64 65000, .int .u32 200, .int .u32 168430090, .slice (some ⟨q,0,none⟩) 1 qc]] w' fun e w''=>e=.returned (.agg #[.int .i64 0, .int .i64 0])∧Below w'.heap.size w' w''):=fun w' hB=>check_one (h.below hB) h1 h2 h3 h4 h5
 have HCp:Hid (∀ w',Below w.heap.size w w'→Calls Tryz.prog 40 #[.agg #[.int .i64 65000, .int .u32 200, .int .u32 168430090, .slice (some ⟨q,0,none⟩) 1 qc]] w' fun e w''=>∃ q' qc' a1 c1 a2 c2,e=.returned (.agg #[.int .i64 65000, .int .u32 200, .int .u32 168430090, .slice (some ⟨q',0,none⟩) 1 qc'])∧PcRow w'' w'.heap.size q' a1 c1 a2 c2 hd lm wt∧Below w'.heap.size w' w''):=fun w' hB=>copy_one (h.below hB) _ _ _
 clear h
 go_enter Tryz.func20,Tryz.ntmps20
 go_wp2_with (go_at_call 39;go_loud (refine (HCk.out _ (by (repeat (first | exact Below.refl _ _ | refine Below.drew ?_ | refine Below.alloc ?_ (by first | omega | (simp only [World.size_alloc,World.size_setCell,World.size_drew];omega) | simp) _ | refine Below.setCell ?_ (by first | omega | simp) _ | assumption)))).mono ?_);go_loud (rintro e w1 ⟨rfl,hB1⟩);go_loud (have y0:=hB1.cell (p:=⟨w.heap.size,0,none⟩) (by simp;omega));go_loud (have y1:=hB1.cell (p:=⟨w.heap.size,1,none⟩) (by simp;omega));go_loud (have y2:=hB1.cell (p:=⟨w.heap.size,2,none⟩) (by simp;omega));go_loud (have y3:=hB1.cell (p:=⟨w.heap.size,3,none⟩) (by simp;omega));go_loud (have hlt:=hB1.size);simp at y0 y1 y2 y3 hlt;go_loud (have hlt0:w.heap.size < w1.heap.size:=by omega);go_loud (have hlt1:w.heap.size+1 < w1.heap.size:=by omega))
 have k0:w1.heap[w.heap.size]? = some (.cells #[.int .i64 65000, .int .u32 200, .int .u32 168430090, .slice (some ⟨q,0,none⟩) 1 qc] 25 (0,0)):=(hB1.block _ (by simp;omega)).trans ((Go.heap_alloc_old _ _ (by simp)).trans (Go.heap_alloc_new w _))
 have k1:w1.heap[w.heap.size+1]? = some (.cells #[.int .i64 0, .int .i64 0] 50 (0,0)):=(hB1.block _ (by simp)).trans (by
  have:=Go.heap_alloc_new (w.alloc (.cells #[.int .i64 65000, .int .u32 200, .int .u32 168430090, .slice (some ⟨q,0,none⟩) 1 qc] 25)) (.cells #[.int .i64 0, .int .i64 0] 50)
  simpa using this)
 have hBw1:Below w.heap.size w w1:=Below.trans (by (repeat (first | exact Below.refl _ _ | refine Below.drew ?_ | refine Below.alloc ?_ (by first | omega | (simp only [World.size_alloc,World.size_setCell,World.size_drew];omega) | simp) _ | refine Below.setCell ?_ (by first | omega | simp) _ | assumption))) (hB1.mono (by simp <;> omega))
 have hWB:Below w.heap.size w ((w1.alloc (.cells #[.int .i64 0, .int .i64 0] 50)).alloc (.cells #[.int .i64 0, .slice none 0 0] 91)):=(hBw1.alloc (by omega) _).alloc (by simp <;> omega) _
 have e0:((w1.alloc (.cells #[.int .i64 0, .int .i64 0] 50)).alloc (.cells #[.int .i64 0, .slice none 0 0] 91)).heap[w.heap.size]? = _:=(Go.heap_alloc_old _ _ (by simp;omega)).trans ((Go.heap_alloc_old _ _ hlt0).trans k0)
 have e1:((w1.alloc (.cells #[.int .i64 0, .int .i64 0] 50)).alloc (.cells #[.int .i64 0, .slice none 0 0] 91)).heap[w.heap.size+1]? = _:=(Go.heap_alloc_old _ _ (by simp;omega)).trans ((Go.heap_alloc_old _ _ hlt1).trans k1)
 have e2:((w1.alloc (.cells #[.int .i64 0, .int .i64 0] 50)).alloc (.cells #[.int .i64 0, .slice none 0 0] 91)).heap[w1.heap.size+1]? = some (.cells #[.int .i64 0, .slice none 0 0] 91 (0,0)):=by
  have:=Go.heap_alloc_new (w1.alloc (.cells #[.int .i64 0, .int .i64 0] 50)) (.cells #[.int .i64 0, .slice none 0 0] 91)
  simpa using this
 have hWz:((w1.alloc (.cells #[.int .i64 0, .int .i64 0] 50)).alloc (.cells #[.int .i64 0, .slice none 0 0] 91)).heap.size=w1.heap.size+2:=by simp
 clear y0 y1 y2 y3 k0 k1 hB1 HCk hBw1
 generalize ((w1.alloc (.cells #[.int .i64 0, .int .i64 0] 50)).alloc (.cells #[.int .i64 0, .slice none 0 0] 91))=W at hWB e0 e1 e2 hWz ⊢
 refine (HCp.out W hWB).mono ?_
 rintro e w2 ⟨q',qc',a1,c1,a2,c2,rfl,hPc,hB2⟩
 have hs2:=hB2.size
 have hfield:=fun wx=>field_cfg 65000 200 168430090 (some ⟨q',0,none⟩) 1 qc' wx
 have E0:=(hB2.block _ (by omega)).trans e0
 have E1:=(hB2.block _ (by omega)).trans e1
 have E2:=(hB2.block _ (by omega)).trans e2
 obtain ⟨cur,hq,hqc⟩:=hPc.row
 have d0:=(cell_blk hq 0).trans (hqc 0 _ rfl)
 have d1:=(cell_blk hq 1).trans (hqc 1 _ rfl)
 have d2:=(cell_blk hq 2).trans (hqc 2 _ rfl)
 have d3:=(cell_blk hq 3).trans (hqc 3 _ rfl)
 have d4:=(cell_blk hq 4).trans (hqc 4 _ rfl)
 have d5:=(cell_blk hq 5).trans (hqc 5 _ rfl)
 have d6:=(cell_blk hq 6).trans (hqc 6 _ rfl)
 have HE0:Hid (w2.heap[w.heap.size]? = _):=E0
 have HE1:Hid (w2.heap[w.heap.size+1]? = _):=E1
 have HE2:Hid (w2.heap[w1.heap.size+1]? = _):=E2
 have HB2:Hid (Below w.heap.size w w2):=hWB.trans (hB2.mono (by omega))
 have HPc:Hid (PcRow w2 W.heap.size q' a1 c1 a2 c2 hd lm wt):=hPc
 clear E0 E1 E2 e0 e1 e2 hB2 hPc hq hqc hWB HCp
 go_wp2_with fail
 refine wp_loop_rounds 2 ?_
 rw [rounds_succ]
 go_wp2_with fail
 have g0:=(Go.heap_alloc_old w2 (.cells #[.int .i64 100, .int .i64 hd, .int .i64 lm, .int .i64 100, .int .i64 wt, .slice (some ⟨a1,0,none⟩) 1 c1, .slice (some ⟨a2,0,none⟩) 1 c2] 69) (r:=w.heap.size) (by omega)).trans HE0.out
 have g1:=(Go.heap_alloc_old w2 (.cells #[.int .i64 100, .int .i64 hd, .int .i64 lm, .int .i64 100, .int .i64 wt, .slice (some ⟨a1,0,none⟩) 1 c1, .slice (some ⟨a2,0,none⟩) 1 c2] 69) (r:=w.heap.size+1) (by omega)).trans HE1.out
 have g2:=(Go.heap_alloc_old w2 (.cells #[.int .i64 100, .int .i64 hd, .int .i64 lm, .int .i64 100, .int .i64 wt, .slice (some ⟨a1,0,none⟩) 1 c1, .slice (some ⟨a2,0,none⟩) 1 c2] 69) (r:=w1.heap.size+1) (by omega)).trans HE2.out
 have g3:=Go.heap_alloc_new w2 (.cells #[.int .i64 100, .int .i64 hd, .int .i64 lm, .int .i64 100, .int .i64 wt, .slice (some ⟨a1,0,none⟩) 1 c1, .slice (some ⟨a2,0,none⟩) 1 c2] 69)
 have hz:(w2.alloc (.cells #[.int .i64 100, .int .i64 hd, .int .i64 lm, .int .i64 100, .int .i64 wt, .slice (some ⟨a1,0,none⟩) 1 c1, .slice (some ⟨a2,0,none⟩) 1 c2] 69)).heap.size=w2.heap.size+1:=by simp
 have hB3:Below w.heap.size w (w2.alloc (.cells #[.int .i64 100, .int .i64 hd, .int .i64 lm, .int .i64 100, .int .i64 wt, .slice (some ⟨a1,0,none⟩) 1 c1, .slice (some ⟨a2,0,none⟩) 1 c2] 69)):=HB2.out.alloc (by omega) _
 have r1:PlBlk (w2.alloc (.cells #[.int .i64 100, .int .i64 hd, .int .i64 lm, .int .i64 100, .int .i64 wt, .slice (some ⟨a1,0,none⟩) 1 c1, .slice (some ⟨a2,0,none⟩) 1 c2] 69)) a1:=HPc.out.r1.keep (Go.heap_alloc_old _ _ (by obtain ⟨_,_,_,k,_⟩:=HPc.out.r1;exact (Array.getElem?_eq_some_iff.1 k).1))
 have r2:PlBlk (w2.alloc (.cells #[.int .i64 100, .int .i64 hd, .int .i64 lm, .int .i64 100, .int .i64 wt, .slice (some ⟨a1,0,none⟩) 1 c1, .slice (some ⟨a2,0,none⟩) 1 c2] 69)) a2:=HPc.out.r2.keep (Go.heap_alloc_old _ _ (by obtain ⟨_,_,_,k,_⟩:=HPc.out.r2;exact (Array.getElem?_eq_some_iff.1 k).1))
 have hla1:a1 < w2.heap.size:=by obtain ⟨_,_,_,k,_⟩:=HPc.out.r1;exact (Array.getElem?_eq_some_iff.1 k).1
 have hla2:a2 < w2.heap.size:=by obtain ⟨_,_,_,k,_⟩:=HPc.out.r2;exact (Array.getElem?_eq_some_iff.1 k).1
 have hba1:=HPc.out.b1
 have hba2:=HPc.out.b2
 clear d0 d1 d2 d3 d4 d5 d6
 generalize (w2.alloc (.cells #[.int .i64 100, .int .i64 hd, .int .i64 lm, .int .i64 100, .int .i64 wt, .slice (some ⟨a1,0,none⟩) 1 c1, .slice (some ⟨a2,0,none⟩) 1 c2] 69))=w3 at g0 g1 g2 g3 hz hB3 r1 r2 ⊢
 have c0:=cell_blk g0 0;have c1':=cell_blk g0 1
 have s1:=cell_blk g2 1;have m1:=frozen_blk g2 1
 have d0:=cell_blk g3 0;have d1:=cell_blk g3 1;have d2:=cell_blk g3 2;have d3:=cell_blk g3 3;have d4:=cell_blk g3 4;have d5:=cell_blk g3 5;have d6:=cell_blk g3 6
 simp at c0 c1' s1 d0 d1 d2 d3 d4 d5 d6
 refine wp_region_lb (D:=_) (ops:=nwOps) (val:=nwV (w1.heap.size+1) w.heap.size (w2.heap.size+1) 65000 200 ⟨100,hd,lm,100,wt,some ⟨a1,0,none⟩,1,c1,some ⟨a2,0,none⟩,1,c2⟩) (fix:=[(1, .pointer (some ⟨w.heap.size,0,none⟩)),(3, .pointer (some ⟨w.heap.size+1,0,none⟩)),(5, .pointer (some ⟨w1.heap.size+1,0,none⟩)),(7, .pointer (some ⟨w2.heap.size,0,none⟩)),(18, .slice (some ⟨q',0,none⟩) 1 qc'),(19, .int .i64 1),(20, .int .i64 0)]) (T:=42) (w0:=w3) (Post:=fun (_:Act) (w':World)=>∃ (wz:World) (xb xc:Nat) (Z:List Value),Below w3.heap.size w3 wz∧w'=wz.setCell ⟨w1.heap.size+1,1,none⟩ (.slice (some ⟨xb,0,none⟩) 1 xc)∧w2.heap.size+1≤xb∧wz.heap[xb]? = some (.cells (sessA 65000 200 ⟨100,hd,lm,100,wt,some ⟨a1,0,none⟩,1,c1,some ⟨a2,0,none⟩,1,c2⟩ 0 0 0 0 (.slice none 0 0)++Z.toArray) 100 (0,0))∧∀ u∈Z,Pl u) (n:=15) (by kernel_rfl) nw_ok nw_top nw_size nwV_mono
  (fun i o a wx hi ho hfx hdep hs K hK=>nw_hop (by omega) (by omega) (by omega) (by omega) s1 c0 c1' d0 d1 d2 d3 d4 d5 d6 i o a wx hi ho (hfx (1, .pointer (some ⟨w.heap.size,0,none⟩)) (by simp)) (hfx (5, .pointer (some ⟨w1.heap.size+1,0,none⟩)) (by simp)) (hfx (7, .pointer (some ⟨w2.heap.size,0,none⟩)) (by simp)) hdep hs K hK)
  (fun o a wx ho hfx hdep hs K hK=>nw_last (by omega) s1 m1 o a wx ho hdep hs K fun v w' wz xb xc Z j1 j2 j3 j4 j5=>hK v w' ⟨wz,xb,xc,Z,j1,j2,j3,j4,j5⟩) (fun a wx hdf hsz hfx hP=>?_) rfl rfl ?_ ?_
 rotate_left
 ·intro x hx
  simp at hx
  rcases hx with rfl | rfl | rfl | rfl | rfl | rfl | rfl <;> rfl
 ·exact ⟨rfl,rfl,rfl,Nat.le_refl _,fun _ _=>rfl⟩
 obtain ⟨wz,xb,xc,Z,hBz,rfl,hxb,hblk,hpl⟩:=hP
 have f3:a.tmps[3]? = some (.pointer (some ⟨w.heap.size+1,0,none⟩)):=hfx (3, .pointer (some ⟨w.heap.size+1,0,none⟩)) (by simp)
 have f5:a.tmps[5]? = some (.pointer (some ⟨w1.heap.size+1,0,none⟩)):=hfx (5, .pointer (some ⟨w1.heap.size+1,0,none⟩)) (by simp)
 have f19:a.tmps[19]? = some (.int .i64 1):=hfx (19, .int .i64 1) (by simp)
 have f20:a.tmps[20]? = some (.int .i64 0):=hfx (20, .int .i64 0) (by simp)
 obtain ⟨tm,df⟩:=a
 simp only at hdf hsz f3 f5 f19 f20
 subst hdf
 obtain ⟨k0,k1,k2,k3,k4,k5,k6,k7,k8,k9,k10,k11,k12,k13,k14,k15,k16,k17,k18,k19,k20,k21,k22,k23,k24,k25,k26,k27,k28,k29,k30,k31,k32,k33,k34,k35,k36,k37,k38,k39,k40,k41,rfl⟩:=arr42 hsz
 simp only [List.getElem?_toArray,List.getElem?_cons_succ,List.getElem?_cons_zero,Option.some.injEq] at f3 f5 f19 f20
 subst f3 f5 f19 f20
 have hk:∀ b,b≠w1.heap.size+1→(wz.setCell ⟨w1.heap.size+1,1,none⟩ (.slice (some ⟨xb,0,none⟩) 1 xc)).heap[b]? = wz.heap[b]?:=fun b hb=>set_oth hb.symm 1 _
 have F1:(wz.setCell ⟨w1.heap.size+1,1,none⟩ (.slice (some ⟨xb,0,none⟩) 1 xc)).heap[w.heap.size+1]? = some (.cells #[.int .i64 0, .int .i64 0] 50 (0,0)):=(hk _ (by omega)).trans ((hBz.block _ (by omega)).trans g1)
 have F2:(wz.setCell ⟨w1.heap.size+1,1,none⟩ (.slice (some ⟨xb,0,none⟩) 1 xc)).heap[w1.heap.size+1]? = some (.cells #[.int .i64 0, .slice (some ⟨xb,0,none⟩) 1 xc] 91 (0,0)):=by
  rw [set_blk ((hBz.block _ (by omega)).trans g2)]
  rfl
 have FS:Sess (wz.setCell ⟨w1.heap.size+1,1,none⟩ (.slice (some ⟨xb,0,none⟩) 1 xc)) xb Z 65000 200 ⟨100,hd,lm,100,wt,some ⟨a1,0,none⟩,1,c1,some ⟨a2,0,none⟩,1,c2⟩ 0 0 0 0 none 0 0:=by
  refine ⟨(hk _ (by omega)).trans hblk,hpl,fun b hb=>?_⟩
  rcases hb with ⟨ad,e,rfl⟩ | ⟨ad,e,rfl⟩ | ⟨ad,e,rfl⟩
  ·cases e;exact ⟨by show a1≠xb;omega,r1.keep ((hk a1 (by omega)).trans (hBz.block _ (by omega)))⟩
  ·cases e;exact ⟨by show a2≠xb;omega,r2.keep ((hk a2 (by omega)).trans (hBz.block _ (by omega)))⟩
  ·cases e
 have FB:Below w.heap.size w (wz.setCell ⟨w1.heap.size+1,1,none⟩ (.slice (some ⟨xb,0,none⟩) 1 xc)):=(hB3.trans (hBz.mono (by omega))).setCell (by show w.heap.size≤w1.heap.size+1;omega) _
 have HX2:∀ b,Named3 ⟨100,hd,lm,100,wt,some ⟨a1,0,none⟩,1,c1,some ⟨a2,0,none⟩,1,c2⟩ none b→w1.heap.size+2≤b:=fun b hb=>by
  rcases hb with ⟨ad,e,e2⟩ | ⟨ad,e,e2⟩ | ⟨ad,e,e2⟩
  ·cases e;have:a1=b:=e2;omega
  ·cases e;have:a2=b:=e2;omega
  ·cases e
 have HX:Hid (w1.heap.size+1≠xb∧¬ Named3 ⟨100,hd,lm,100,wt,some ⟨a1,0,none⟩,1,c1,some ⟨a2,0,none⟩,1,c2⟩ none (w1.heap.size+1)∧(w.heap.size≤w1.heap.size+1∧w.heap.size≤xb∧∀ b,Named3 ⟨100,hd,lm,100,wt,some ⟨a1,0,none⟩,1,c1,some ⟨a2,0,none⟩,1,c2⟩ none b→w.heap.size≤b)):=by
  refine ⟨by omega,fun hb=>?_,by omega,by omega,fun b hb=>?_⟩
  ·have:=HX2 _ hb;omega
  ·have:=HX2 _ hb;omega
 clear HX2
 clear s1 m1 c0 c1' d0 d1 d2 d3 d4 d5 d6 g0 g1 g2 g3 hBz hblk r1 r2 hk hfx hB3
 generalize (wz.setCell ⟨w1.heap.size+1,1,none⟩ (.slice (some ⟨xb,0,none⟩) 1 xc))=wf at F1 F2 FS FB ⊢
 have HF2:Hid (wf.heap[w1.heap.size+1]? = _):=F2
 have HFS:Hid (Sess wf _ _ _ _ _ _ _ _ _ _ _ _):=FS
 have HFB:Hid (Below _ _ wf):=FB
 have x0:=cell_blk F1 0;have x1:=cell_blk F1 1
 have z0:=frozen_blk F1 0;have z1:=frozen_blk F1 1
 simp at x0 x1
 have hne:w1.heap.size+1≠w.heap.size+1:=by omega
 have HN1:Hid (∀ b,b≠w.heap.size+1→((wf.setCell ⟨w.heap.size+1,0,none⟩ (.int .i64 0)).setCell ⟨w.heap.size+1,1,none⟩ (.int .i64 0)).heap[b]? = wf.heap[b]?):=fun b hb=>by
  rw [set_oth hb.symm 1 _,set_oth hb.symm 0 _]
 have HFl:Hid (xb≠w.heap.size+1∧a1≠w.heap.size+1∧a2≠w.heap.size+1):=⟨by omega,by omega,by omega⟩
 clear F1 F2 FS FB hne
 go_wp2_with fail
 rw [rounds_succ]
 go_wp2_with fail
 have HG1:Hid (((wf.setCell ⟨w.heap.size+1,0,none⟩ (.int .i64 0)).setCell ⟨w.heap.size+1,1,none⟩ (.int .i64 0)).heap[w1.heap.size+1]? = _):=(HN1.out _ (by omega)).trans HF2.out
 have HG2:Hid (Sess ((wf.setCell ⟨w.heap.size+1,0,none⟩ (.int .i64 0)).setCell ⟨w.heap.size+1,1,none⟩ (.int .i64 0)) _ _ _ _ _ _ _ _ _ _ _ _):=HFS.out.keep fun b hb=>HN1.out b (by
  rcases hb with rfl | ⟨ad,e,rfl⟩ | ⟨ad,e,rfl⟩ | ⟨ad,e,rfl⟩
  ·exact HFl.out.1
  ·cases e;exact HFl.out.2.1
  ·cases e;exact HFl.out.2.2
  ·cases e)
 have HG3:Hid (Below w.heap.size w ((wf.setCell ⟨w.heap.size+1,0,none⟩ (.int .i64 0)).setCell ⟨w.heap.size+1,1,none⟩ (.int .i64 0))):=(HFB.out.setCell (Nat.le_succ _) _).setCell (Nat.le_succ _) _
 exact bodyPost_ret (v:=.tuple #[.pointer (some ⟨w1.heap.size+1,0,none⟩), .agg #[.int .i64 0, .int .i64 0]]) (by simp [results,Tryz.results20,go_sem,x0,x1]) rfl ⟨_,rfl,xb,xc,Z,_,HG1.out,HG2.out,rfl,rfl,HX.out.1,HX.out.2.1,HX.out.2.2,HG3.out⟩
end Go.Proofs.YtjnkcibpkkjniaaGreat
