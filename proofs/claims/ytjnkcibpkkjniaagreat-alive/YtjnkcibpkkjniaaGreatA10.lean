import Derived.Test.YtjnkcibpkkjniaaGreatA07
import Derived.Test.YtjnkcibpkkjniaaGreatA09
import Derived.Deep.QuietTactic
import Derived.Test.YtjnkcibpkkjniaaGreatA08
import Derived.BigQuiet
import Derived.Defers
import Derived.Recover
import Derived.Test.YtjnkcibpkkjniaaGreatA05
import Derived.Test.YtjnkcibpkkjniaaGreatA06
import Derived.Test.YtjnkcibpkkjniaaGreatA04
import Derived.Conc.Beside
import Derived.Conc.CrowdTrace
set_option linter.unusedVariables false
set_option linter.unusedSimpArgs false
set_option linter.unusedSectionVars false
namespace Go.Proofs.YtjnkcibpkkjniaaGreat
end Go.Proofs.YtjnkcibpkkjniaaGreat
namespace Go.Proofs.YtjnkcibpkkjniaaGreat
open Go.RowKit
set_option maxHeartbeats 800000
set_option maxRecDepth 8000
def fourL (n:Int):List Int:=[n / 16777216 % 256,n / 65536 % 256,n / 256 % 256,n % 256]
theorem k_4:∀ n,(fourL n).length=4:=fun _=>rfl
theorem notif_any (c s:Int) (d:List Int) (hd:d.length≤60000) (w:World) :
  Calls Tryz.prog 141 #[.agg #[.int .u8 c, .int .u8 s, .string (strOfNums d)]] w fun e w'=>e=.returned (.string (strOfNums (msgL 3 (c::s::d))))∧Below w.heap.size w w':=by
 have kc:=conv2
 have ks:=S_append
 have kz:=strOfNums_size
 go_enter Tryz.func141,Tryz.ntmps141
 go_wp2_with (go_at_call 154;refine (assemble_any _ _ (by simp;omega) _).mono ?_;rintro e w' ⟨rfl,hB⟩)
 go_ret
 exact ⟨rfl,Below.trans (by (repeat (first | exact Below.refl _ _ | refine Below.drew ?_ | refine Below.alloc ?_ (by first | omega | (simp only [World.size_alloc,World.size_setCell,World.size_drew];omega) | simp) _ | refine Below.setCell ?_ (by first | omega | simp) _ | assumption))) (hB.mono (by simp only [World.size_alloc,World.size_drew];omega))⟩
end Go.Proofs.YtjnkcibpkkjniaaGreat
namespace Go.Proofs.YtjnkcibpkkjniaaGreat
open Go.RowKit
set_option maxHeartbeats 800000
structure SN (w:World) (sb so:Nat) (st hold heard spoke:Int):Prop where
 st:w.cell? ⟨sb,so+9,none⟩=some (.int .i64 st)
 hold:w.cell? ⟨sb,so+10,none⟩=some (.int .i64 hold)
 heard:w.cell? ⟨sb,so+11,none⟩=some (.int .i64 heard)
 spoke:w.cell? ⟨sb,so+12,none⟩=some (.int .i64 spoke)
def Sane (n:Int):Prop:=-2305843009213693952≤n∧n≤2305843009213693952
theorem Sane.sub {a b:Int} (h:Sane a) (k:Sane b):wrap64 (a - b)=a - b:=by
 obtain ⟨h1,h2⟩:=h
 obtain ⟨k1,k2⟩:=k
 unfold wrap64;omega
def silentB (st hold heard now:Int):Bool:=st != 0 && (hold != 0 && decide (hold≤now - heard))
theorem silent_any (w:World) (sb so:Nat) (st hold heard spoke now:Int) (h:SN w sb so st hold heard spoke) (hn:Sane now) (hh:Sane heard) :
  Calls Tryz.prog 143 #[.pointer (some ⟨sb,so,none⟩), .int .i64 now] w fun e w'=>e=.returned (.bool (silentB st hold heard now))∧∃ m,w'=w.drewN m:=by
 obtain ⟨c1,c2,c3,c4⟩:=h
 have hw:=hn.sub hh
 clear hn hh
 by_cases h1:(st != 0)=true
 ·by_cases h2:(hold != 0)=true
  ·have he:silentB st hold heard now=decide (hold≤now - heard):=by simp [silentB,h1,h2]
   rw [he]
   clear he
   go_enter Tryz.func143,Tryz.ntmps143
   go_wp2_with fail
   go_quiet (fail)
   go_wp2_with fail
   go_ret
   exact ⟨rfl,_,rfl⟩
  ·have h2':(hold != 0)=false:=by simpa using h2
   have he:silentB st hold heard now=false:=by simp [silentB,h2']
   rw [he]
   clear he h2
   go_enter Tryz.func143,Tryz.ntmps143
   go_wp2_with fail
   go_quiet (fail)
   go_wp2_with fail
   go_ret
   exact ⟨rfl,_,rfl⟩
 ·have h1':(st != 0)=false:=by simpa using h1
  have he:silentB st hold heard now=false:=by simp [silentB,h1']
  rw [he]
  clear he h1
  go_enter Tryz.func143,Tryz.ntmps143
  go_wp2_with fail
  go_quiet (fail)
  go_wp2_with fail
  go_ret
  exact ⟨rfl,_,rfl⟩
def owesB (st hold spoke now:Int):Bool:=(st == 2 || st == 3) && (hold != 0 && decide (hold / 3≤now - spoke))
theorem owes_any (w:World) (sb so:Nat) (st hold heard spoke now:Int) (h:SN w sb so st hold heard spoke) (hn:Sane now) (hh:Sane spoke) (hold0:0≤hold∧hold≤100000) :
  Calls Tryz.prog 145 #[.pointer (some ⟨sb,so,none⟩), .int .i64 now] w fun e w'=>e=.returned (.bool (owesB st hold spoke now))∧∃ m,w'=w.drewN m:=by
 obtain ⟨c1,c2,c3,c4⟩:=h
 have hw:=hn.sub hh
 obtain ⟨hold0,hold1⟩:=hold0
 have hq:wrap64 (hold.tdiv 3)=hold / 3:=by
  rw [Int.tdiv_eq_ediv_of_nonneg hold0]
  unfold wrap64;omega
 clear hn hh
 by_cases h1:(st == 2 || st == 3)=true
 ·have hg:st=2∨st=3:=by simpa using h1
  by_cases h2:(hold != 0)=true
  ·have he:owesB st hold spoke now=decide (hold / 3≤now - spoke):=by simp [owesB,h1,h2]
   rw [he]
   clear he h1
   rcases hg with rfl | rfl
   ·go_enter Tryz.func145,Tryz.ntmps145
    go_wp2_with fail
    go_quiet (fail)
    go_wp2_with fail
    go_ret
    exact ⟨rfl,_,rfl⟩
   ·go_enter Tryz.func145,Tryz.ntmps145
    go_wp2_with fail
    go_quiet (fail)
    go_wp2_with fail
    go_ret
    exact ⟨rfl,_,rfl⟩
  ·have h2':(hold != 0)=false:=by simpa using h2
   have he:owesB st hold spoke now=false:=by simp [owesB,h2']
   rw [he]
   clear he h1 h2
   rcases hg with rfl | rfl
   ·go_enter Tryz.func145,Tryz.ntmps145
    go_wp2_with fail
    go_quiet (fail)
    go_wp2_with fail
    go_ret
    exact ⟨rfl,_,rfl⟩
   ·go_enter Tryz.func145,Tryz.ntmps145
    go_wp2_with fail
    go_quiet (fail)
    go_wp2_with fail
    go_ret
    exact ⟨rfl,_,rfl⟩
 ·have he:owesB st hold spoke now=false:=by simp only [owesB,Bool.not_eq_true] at h1 ⊢;rw [h1];rfl
  rw [he]
  have g2:(st == 2)=false:=by simp at h1 ⊢;exact h1.1
  have g3:(st == 3)=false:=by simp at h1 ⊢;exact h1.2
  clear he h1
  go_enter Tryz.func145,Tryz.ntmps145
  go_wp2_with fail
  go_quiet (fail)
  go_wp2_with fail
  go_ret
  exact ⟨rfl,_,rfl⟩
end Go.Proofs.YtjnkcibpkkjniaaGreat
namespace Go.Proofs.YtjnkcibpkkjniaaGreat
open Go Go.RowKit
set_option maxHeartbeats 1600000
set_option maxRecDepth 20000
theorem TS.facts {w:World} {base tb sb:Nat} {now:Int} {sv:Value} {sent:List Int} {cl ov:Bool} {S:Array Value} (h:TS w base tb sb now sv sent cl ov S) :
  (w.cell? ⟨tb,0,none⟩=some (.pointer (some ⟨sb,0,none⟩))∧w.cell? ⟨tb,1,none⟩=some (.int .i64 now)∧w.cell? ⟨tb,2,none⟩=some sv∧w.cell? ⟨tb,3,none⟩=some (.bool cl)∧w.cell? ⟨tb,4,none⟩=some (.bool ov)) ∧
   w.frozen? ⟨tb,2,none⟩=false∧w.frozen? ⟨tb,3,none⟩=false∧w.frozen? ⟨tb,4,none⟩=false :=
 ⟨⟨cell_blk h.t 0,cell_blk h.t 1,cell_blk h.t 2,cell_blk h.t 3,cell_blk h.t 4⟩,frozen_blk h.t 2,frozen_blk h.t 3,frozen_blk h.t 4⟩
theorem TS.idled {w w':World} {base tb sb:Nat} {now:Int} {sv:Value} {sent:List Int} {cl ov:Bool} {S S':Array Value} (h:TS w base tb sb now sv sent cl ov S) (h1:w'.heap[sb]? = some (.cells S' 100 (0,0))) (h2:w'.os=w.os) (h3:w.heap.size≤w'.heap.size) (h4:∀ b,b < w.heap.size→b≠sb→w'.heap[b]? = w.heap[b]?) :
  TS w' base tb sb now sv sent cl ov S'∧Rest base tb sb w w':=by
 have l:=h.lt
 refine ⟨⟨(h4 tb (by omega) h.ne).trans h.t,h1,own_keep h.own fun k hk=>?_,⟨l.1,l.2.1,by omega⟩,h.ne⟩,⟨h2,h3,fun b k1 k2 k3=>h4 b (by omega) k3⟩⟩
 have:=World.ownsRow.lt h.own k hk
 exact h4 k this.2 (by omega)
theorem end_any {w:World} {base tb sb:Nat} {now:Int} {sv:Value} {sent:List Int} {cl ov:Bool} {au id:Int} {p:Pz} {st hold heard spoke:Int} {pa:Option Addr} {pl pc:Nat} (h:TS w base tb sb now sv sent cl ov (sessA au id p st hold heard spoke (.slice pa pl pc))) :
  Calls Tryz.prog 149 #[.pointer (some ⟨tb,0,none⟩)] w fun e w'=>(∃ v,e=.returned v)∧TS w' base tb sb now sv sent cl true (sessA au id p 0 0 0 0 (.slice none 0 0))∧Rest base tb sb w w':=by
 obtain ⟨⟨c0,c1,c2,c3,c4⟩,z2,z3,z4⟩:=h.facts
 have H0:Hid (TS w base tb sb now sv sent cl ov (sessA au id p st hold heard spoke (.slice pa pl pc))):=h
 have hne:=h.ne
 have HI:Hid (Calls Tryz.prog 158 _ w _):=idle_any h.s
 clear h
 go_enter Tryz.func149,Tryz.ntmps149
 go_wp2_with (go_at_call 158;refine HI.out.mono ?_;rintro e w1 ⟨⟨v,rfl⟩,g1,g2,g3,g4⟩;obtain ⟨hT,hR⟩:=H0.out.idled g1 g2 g3 g4;obtain ⟨⟨d0,d1,d2,d3,d4⟩,y2,y3,y4⟩:=hT.facts)
 have hE:=hT.setT (i:=4) (v:=.bool true) (cl':=cl) (ov':=true) rfl hT.own
 exact bodyPost_end (v:=.tuple #[]) (by simp [results,Tryz.results149,go_sem]) rfl ⟨⟨_,rfl⟩,hE.1,hR.trans hE.2⟩
theorem close_any {w:World} {base tb sb:Nat} {now:Int} {sv:Value} {sent:List Int} {cl ov:Bool} {au id:Int} {p:Pz} {st hold heard spoke:Int} {pa:Option Addr} {pl pc:Nat} (h:TS w base tb sb now sv sent cl ov (sessA au id p st hold heard spoke (.slice pa pl pc))) :
  Calls Tryz.prog 142 #[.pointer (some ⟨tb,0,none⟩)] w fun e w'=>(∃ v,e=.returned v)∧TS w' base tb sb now sv sent true true (sessA au id p 0 0 0 0 (.slice none 0 0))∧Rest base tb sb w w':=by
 obtain ⟨⟨c0,c1,c2,c3,c4⟩,z2,z3,z4⟩:=h.facts
 have hT:=h.setT (i:=3) (v:=.bool true) (cl':=true) (ov':=ov) rfl h.own
 have HE:Hid (Calls Tryz.prog 149 _ _ _):=end_any hT.1
 have HR:Hid (Rest base tb sb w (w.setCell ⟨tb,3,none⟩ (.bool true))):=hT.2
 clear h hT
 go_enter Tryz.func142,Tryz.ntmps142
 go_wp2_with (go_at_call 149;refine HE.out.mono ?_;rintro e w1 ⟨⟨v,rfl⟩,g1,g2⟩)
 exact bodyPost_end (v:=.tuple #[]) (by simp [results,Tryz.results142,go_sem]) rfl ⟨⟨_,rfl⟩,g1,HR.out.trans g2⟩
theorem silence_any (w:World):Calls Tryz.prog 144 #[] w fun e w'=>e=.returned (.agg #[.int .u8 4, .int .u8 0, .string (strOfNums [])])∧Below w.heap.size w w':=by
 go_enter Tryz.func144,Tryz.ntmps144
 go_wp2
 exact bodyPost_ret (v:=.agg #[.int .u8 4, .int .u8 0, .string (strOfNums [])]) (by simp [results,Tryz.results144,go_sem];try rfl) rfl ⟨rfl,by (repeat (first | exact Below.refl _ _ | refine Below.drew ?_ | refine Below.alloc ?_ (by first | omega | (simp only [World.size_alloc,World.size_setCell,World.size_drew];omega) | simp) _ | refine Below.setCell ?_ (by first | omega | simp) _ | assumption))⟩
end Go.Proofs.YtjnkcibpkkjniaaGreat
namespace Go.Proofs.YtjnkcibpkkjniaaGreat
open Go Go.RowKit
set_option maxHeartbeats 1600000
set_option maxRecDepth 20000
theorem Bytes.app {xs ys:List Int} (h:Bytes xs) (k:Bytes ys):Bytes (xs++ys):=fun x hx=>by
 rcases List.mem_append.1 hx with e | e
 ·exact h x e
 ·exact k x e
theorem Bytes.cons {x:Int} {xs:List Int} (h:0≤x∧x < 256) (k:Bytes xs):Bytes (x::xs):=fun y hy=>by
 rcases List.mem_cons.1 hy with rfl | e
 ·exact h
 ·exact k y e
theorem Bytes.nil:Bytes []:=fun x hx=>by cases hx
theorem twoL_bytes (n:Int):Bytes (twoL n):=Bytes.cons (by omega) (Bytes.cons (by omega) Bytes.nil)
theorem mark_bytes:Bytes mark:=by
 intro x hx
 simp [mark] at hx
 omega
theorem msgL_bytes {k:Int} {b:List Int} (hk:0≤k∧k < 256) (hb:Bytes b):Bytes (msgL k b):=mark_bytes.app ((twoL_bytes _).app (Bytes.cons hk hb))
theorem refuse_any {w:World} {base tb sb:Nat} {now:Int} {sv:Value} {sent:List Int} {cl ov:Bool} {au id:Int} {p:Pz} {st hold heard spoke:Int} {pa:Option Addr} {pl pc:Nat} (h:TS w base tb sb now sv sent cl ov (sessA au id p st hold heard spoke (.slice pa pl pc)))
  {c s:Int} {d:List Int} (hc:0≤c∧c < 256) (hs:0≤s∧s < 256) (hd:Bytes d) (hl:sent.length+d.length≤50000) :
  Calls Tryz.prog 117 #[.pointer (some ⟨tb,0,none⟩), .agg #[.int .u8 c, .int .u8 s, .string (strOfNums d)]] w fun e w'=>(∃ v,e=.returned v)∧∃ sv',TS w' base tb sb now sv' (sent++msgL 3 (c::s::d)) true true (sessA au id p 0 0 0 0 (.slice none 0 0))∧Rest base tb sb w w':=by
 have l:=h.lt
 have H0:Hid (TS w base tb sb now sv sent cl ov (sessA au id p st hold heard spoke (.slice pa pl pc))):=h
 have Hb:Hid (Bytes (msgL 3 (c::s::d))):=msgL_bytes (by omega) (Bytes.cons hc (Bytes.cons hs hd))
 have Hd:Hid (d.length≤60000):=by show _≤_;omega
 have Hn:Hid (sent.length+(msgL 3 (c::s::d)).length≤1000000):=by show _≤_;rw [msgL_len];simp;omega
 have Hlt:Hid (base≤w.heap.size):=l.2.2
 clear h l hc hs hd hl
 go_enter Tryz.func117,Tryz.ntmps117
 go_wp2_with (first
  | (go_at_call 141;go_loud (refine (notif_any c s d Hd.out _).mono ?_);go_loud (rintro e w1 ⟨rfl,hB⟩);go_loud (have hB1:Below w.heap.size w w1:=Below.trans (by (repeat (first | exact Below.refl _ _ | refine Below.drew ?_ | refine Below.alloc ?_ (by first | omega | (simp only [World.size_alloc,World.size_setCell,World.size_drew];omega) | simp) _ | refine Below.setCell ?_ (by first | omega | simp) _ | assumption))) (hB.mono (by simp)));go_loud (have H1:Hid (TS w1 base tb sb now sv sent cl ov (sessA au id p st hold heard spoke (.slice pa pl pc))):=H0.out.below hB1);go_loud (have HR1:Hid (Rest base tb sb w w1):=Rest.below hB1 Hlt.out);clear hB hB1)
  | (go_at_call 140;go_loud (refine (send_any (u:=.int .i64 spoke) H1.out rfl rfl Hb.out Hn.out).mono ?_);go_loud (rintro e w2 ⟨⟨v2,rfl⟩,sv2,hT2,hR2⟩);go_loud (have H2:Hid (TS w2 base tb sb now sv2 _ cl ov _):=hT2);go_loud (have HR2:Hid (Rest base tb sb w1 w2):=hR2);clear hT2 hR2)
  | (go_at_call 142;go_loud (refine (close_any (spoke:=now) (st:=st) (hold:=hold) (heard:=heard) (au:=au) (id:=id) (p:=p) (pa:=pa) (pl:=pl) (pc:=pc) H2.out).mono ?_);go_loud (rintro e w3 ⟨⟨v3,rfl⟩,hT3,hR3⟩)))
 exact bodyPost_end (v:=.tuple #[]) (by simp [results,Tryz.results117,go_sem]) rfl ⟨⟨_,rfl⟩,_,hT3,HR1.out.trans (HR2.out.trans hR3)⟩
end Go.Proofs.YtjnkcibpkkjniaaGreat
namespace Go.Proofs.YtjnkcibpkkjniaaGreat
open Go Go.RowKit
set_option maxHeartbeats 1600000
set_option maxRecDepth 20000
theorem SN.of {w:World} {sb:Nat} {au id:Int} {p:Pz} {st hold heard spoke:Int} {pv:Value} (h:w.heap[sb]? = some (.cells (sessA au id p st hold heard spoke pv) 100 (0,0))) (n:Nat):SN (w.drewN n) sb 0 st hold heard spoke:=by
 have e:∀ i,(w.drewN n).cell? ⟨sb,i,none⟩=(sessA au id p st hold heard spoke pv)[i]?:=fun i=>(cell_blk (w:=w.drewN n) (by first | exact h | (simp;exact h)) i)
 exact ⟨e 9,e 10,e 11,e 12⟩
theorem TS.drewN {w:World} {base tb sb:Nat} {now:Int} {sv:Value} {sent:List Int} {cl ov:Bool} {S:Array Value} (h:TS w base tb sb now sv sent cl ov S) (n:Nat):TS (w.drewN n) base tb sb now sv sent cl ov S∧Rest base tb sb w (w.drewN n):=⟨⟨h.t,h.s,h.own,h.lt,h.ne⟩,⟨rfl,Nat.le_refl _,fun _ _ _ _=>rfl⟩⟩
theorem silent_at {b:Bool} {w:World} {sb:Nat} {st hold heard spoke now:Int} (h:∀ n,SN (w.drewN n) sb 0 st hold heard spoke) (hn:Sane now) (hh:Sane heard) (hb:silentB st hold heard now=b) (n:Nat) :
  Calls Tryz.prog 143 #[.pointer (some ⟨sb,0,none⟩), .int .i64 now] (w.drewN n) fun e w'=>e=.returned (.bool b)∧∃ m,w'=(w.drewN n).drewN m:=by
 have:=silent_any _ _ _ _ _ _ _ _ (h n) hn hh
 rw [hb] at this
 exact this
theorem owes_at {b:Bool} {w:World} {sb:Nat} {st hold heard spoke now:Int} (h:∀ n,SN (w.drewN n) sb 0 st hold heard spoke) (hn:Sane now) (hh:Sane spoke) (ho:0≤hold∧hold≤100000) (hb:owesB st hold spoke now=b) (n:Nat) :
  Calls Tryz.prog 145 #[.pointer (some ⟨sb,0,none⟩), .int .i64 now] (w.drewN n) fun e w'=>e=.returned (.bool b)∧∃ m,w'=(w.drewN n).drewN m:=by
 have:=owes_any _ _ _ _ _ _ _ _ (h n) hn hh ho
 rw [hb] at this
 exact this
section
variable {w:World} {base tb sb:Nat} {now:Int} {sv:Value} {sent:List Int} {cl ov:Bool} {au id:Int} {p:Pz} {st hold heard spoke:Int} {pa:Option Addr} {pl pc:Nat}
theorem watch_silent (h:TS w base tb sb now sv sent cl ov (sessA au id p st hold heard spoke (.slice pa pl pc))) (hn:Sane now) (hh:Sane heard) (hb:silentB st hold heard now=true) (hl:sent.length≤50000) :
  Calls Tryz.prog 118 #[.pointer (some ⟨tb,0,none⟩)] w fun e w'=>(∃ v,e=.returned v)∧∃ sv',TS w' base tb sb now sv' (sent++msgL 3 [4,0]) true true (sessA au id p 0 0 0 0 (.slice none 0 0))∧Rest base tb sb w w':=by
 obtain ⟨⟨c0,c1,c2,c3,c4⟩,z2,z3,z4⟩:=h.facts
 have HS:Hid (∀ n,SN (w.drewN n) sb 0 st hold heard spoke):=fun n=>SN.of h.s n
 have H0:Hid (TS w base tb sb now sv sent cl ov (sessA au id p st hold heard spoke (.slice pa pl pc))):=h
 have Hl:Hid (sent.length+([]:List Int).length≤50000):=hl
 have Hlt:Hid (base≤w.heap.size):=h.lt.2.2
 clear h hl
 go_enter Tryz.func118,Tryz.ntmps118
 go_wp2_with fail
 go_quiet ((go_at_call 143;exact Calls.quiet_of (silent_at HS.out hn hh hb _)))
 go_wp2_with (first
  | (go_at_call 144;go_loud (refine (silence_any _).mono ?_);go_loud (rintro e w1 ⟨rfl,hB⟩);go_loud (have H1:Hid (TS w1 base tb sb now sv sent cl ov (sessA au id p st hold heard spoke (.slice pa pl pc))):=TS.below (H0.out.drewN nq).1 hB);go_loud (have HR1:Hid (Rest base tb sb w w1):=(H0.out.drewN nq).2.trans (Rest.below hB Hlt.out));clear hB)
  | (go_at_call 117;go_loud (refine (refuse_any H1.out (by omega) (by omega) Bytes.nil Hl.out).mono ?_);go_loud (rintro e w2 ⟨⟨v2,rfl⟩,sv2,hT2,hR2⟩)))
 exact bodyPost_end (v:=.tuple #[]) (by simp [results,Tryz.results118,go_sem]) rfl ⟨⟨_,rfl⟩,_,hT2,HR1.out.trans hR2⟩
theorem watch_owes (h:TS w base tb sb now sv sent cl ov (sessA au id p st hold heard spoke (.slice pa pl pc))) (hn:Sane now) (hh:Sane heard) (hsp:Sane spoke) (hho:0≤hold∧hold≤100000) (hb:silentB st hold heard now=false) (hb2:owesB st hold spoke now=true) (hl:sent.length≤50000) :
  Calls Tryz.prog 118 #[.pointer (some ⟨tb,0,none⟩)] w fun e w'=>(∃ v,e=.returned v)∧∃ sv',TS w' base tb sb now sv' (sent++msgL 4 []) cl ov (sessA au id p st hold heard now (.slice pa pl pc))∧Rest base tb sb w w':=by
 obtain ⟨⟨c0,c1,c2,c3,c4⟩,z2,z3,z4⟩:=h.facts
 have HS:Hid (∀ n,SN (w.drewN n) sb 0 st hold heard spoke):=fun n=>SN.of h.s n
 have H0:Hid (TS w base tb sb now sv sent cl ov (sessA au id p st hold heard spoke (.slice pa pl pc))):=h
 have Hl:Hid (sent.length+(msgL 4 []).length≤1000000):=by show _≤_;rw [msgL_len];simp;omega
 have Hb:Hid (Bytes (msgL 4 [])):=msgL_bytes (by omega) Bytes.nil
 have Hlt:Hid (base≤w.heap.size):=h.lt.2.2
 have Ho:Hid (0≤hold∧hold≤100000):=hho
 clear h hl hho
 go_enter Tryz.func118,Tryz.ntmps118
 go_wp2_with fail
 go_quiet ((go_at_call 143;exact Calls.quiet_of (silent_at HS.out hn hh hb _)))
 go_wp2_with fail
 have hd:=H0.out.drewN nq
 have Hlt2:Hid (base≤(w.drewN nq).heap.size):=Hlt.out
 generalize w.drewN nq=w1 at hd Hlt2 ⊢
 obtain ⟨hT1,hR1⟩:=hd
 obtain ⟨⟨d0,d1,d2,d3,d4⟩,y2,y3,y4⟩:=hT1.facts
 have HS2:Hid (∀ n,SN (w1.drewN n) sb 0 st hold heard spoke):=fun n=>SN.of hT1.s n
 have H1:Hid (TS w1 base tb sb now sv sent cl ov (sessA au id p st hold heard spoke (.slice pa pl pc))):=hT1
 have HR1:Hid (Rest base tb sb w w1):=hR1
 clear hT1 hR1
 go_quiet ((go_at_call 145;exact Calls.quiet_of (owes_at HS2.out hn hsp Ho.out hb2 _)))
 go_wp2_with (first
  | (go_at_call 146;go_loud (refine (keepalive_any _).mono ?_);go_loud (rintro e w2 ⟨rfl,hB⟩);go_loud (have H2:Hid (TS w2 base tb sb now sv sent cl ov (sessA au id p st hold heard spoke (.slice pa pl pc))):=TS.below (H1.out.drewN nq).1 hB);go_loud (have HR2:Hid (Rest base tb sb w1 w2):=(H1.out.drewN nq).2.trans (Rest.below hB Hlt2.out));clear hB)
  | (go_at_call 140;go_loud (refine (send_any (u:=.int .i64 spoke) H2.out rfl rfl Hb.out Hl.out).mono ?_);go_loud (rintro e w3 ⟨⟨v2,rfl⟩,sv2,hT3,hR3⟩)))
 exact bodyPost_end (v:=.tuple #[]) (by simp [results,Tryz.results118,go_sem]) rfl ⟨⟨_,rfl⟩,_,hT3,HR1.out.trans (HR2.out.trans hR3)⟩
theorem watch_none (h:TS w base tb sb now sv sent cl ov (sessA au id p st hold heard spoke (.slice pa pl pc))) (hn:Sane now) (hh:Sane heard) (hsp:Sane spoke) (hho:0≤hold∧hold≤100000) (hb:silentB st hold heard now=false) (hb2:owesB st hold spoke now=false) :
  Calls Tryz.prog 118 #[.pointer (some ⟨tb,0,none⟩)] w fun e w'=>(∃ v,e=.returned v)∧TS w' base tb sb now sv sent cl ov (sessA au id p st hold heard spoke (.slice pa pl pc))∧Rest base tb sb w w':=by
 obtain ⟨⟨c0,c1,c2,c3,c4⟩,z2,z3,z4⟩:=h.facts
 have HS:Hid (∀ n,SN (w.drewN n) sb 0 st hold heard spoke):=fun n=>SN.of h.s n
 have H0:Hid (TS w base tb sb now sv sent cl ov (sessA au id p st hold heard spoke (.slice pa pl pc))):=h
 have Ho:Hid (0≤hold∧hold≤100000):=hho
 clear h hho
 go_enter Tryz.func118,Tryz.ntmps118
 go_wp2_with fail
 go_quiet ((go_at_call 143;exact Calls.quiet_of (silent_at HS.out hn hh hb _)))
 go_wp2_with fail
 have hd:=H0.out.drewN nq
 generalize w.drewN nq=w1 at hd ⊢
 obtain ⟨hT1,hR1⟩:=hd
 obtain ⟨⟨d0,d1,d2,d3,d4⟩,y2,y3,y4⟩:=hT1.facts
 have HS2:Hid (∀ n,SN (w1.drewN n) sb 0 st hold heard spoke):=fun n=>SN.of hT1.s n
 have H1:Hid (TS w1 base tb sb now sv sent cl ov (sessA au id p st hold heard spoke (.slice pa pl pc))):=hT1
 have HR1:Hid (Rest base tb sb w w1):=hR1
 clear hT1 hR1
 go_quiet ((go_at_call 145;exact Calls.quiet_of (owes_at HS2.out hn hsp Ho.out hb2 _)))
 go_wp2_with fail
 exact bodyPost_end (v:=.tuple #[]) (by simp [results,Tryz.results118,go_sem]) rfl ⟨⟨_,rfl⟩,(H1.out.drewN nq).1,HR1.out.trans (H1.out.drewN nq).2⟩
end
end Go.Proofs.YtjnkcibpkkjniaaGreat
namespace Go.Proofs.YtjnkcibpkkjniaaGreat
open Go Go.RowKit
set_option maxHeartbeats 1600000
set_option maxRecDepth 20000
theorem catch_idle (p:Addr) (w:World) :
  CallsD Tryz.prog 116 #[.pointer (some p)] .returning w fun e u' w'=>e=.returned (.tuple #[])∧u'=.returning∧w'=w:=by
 refine callsD_of_wpS Tryz.func116 rfl fun c₀ cs hu=>?_
 apply wpS_seq
 apply wpS_region
 simp [wpOpsS,go_sem,recoverD,hu,Tryz.ntmps116,Exit.thenS]
 refine wpS_of_wp ?_
 have e:(#[Value.pointer (some p)]++(Array.replicate 12 undef).setIfInBounds 3 Value.nilIface:Array Value)=#[.pointer (some p),undef,undef,undef, .nilIface,undef,undef,undef,undef,undef,undef,undef,undef]:=by rfl
 rw [e]
 clear e
 go_wp2_with fail
 cases c₀
 simp_all [bodyPostS,results,Tryz.results116]
theorem work_nil {w:World} {tb:Nat} {Pw:World→Prop} {ao:Option Addr} {cp:Nat} (HW:∀ w1,Below w.heap.size w w1→Calls Tryz.prog 118 #[.pointer (some ⟨tb,0,none⟩)] w1 fun e w'=>(∃ v,e=.returned v)∧Pw w') :
  Calls Tryz.prog 79 #[.pointer (some ⟨tb,0,none⟩), .slice ao 0 cp] w fun e w'=>(∃ v,e=.returned v)∧Pw w':=by
 have hmf:∀ (fn:Fn) (first cap:Array Value) (w:World),(Instr.makeFunc fn first cap).run Tryz.prog w=.ok (.func fn first cap) w:=fun _ _ _ _=>rfl
 have HW':Hid (∀ w1,Below w.heap.size w w1→Calls Tryz.prog 118 #[.pointer (some ⟨tb,0,none⟩)] w1 fun e w'=>(∃ v,e=.returned v)∧Pw w'):=HW
 clear HW
 go_enter_defers Tryz.func79,Tryz.ntmps79
 go_wp2_with (go_at_call 118;go_loud (refine (HW'.out _ (by (repeat (first | exact Below.refl _ _ | refine Below.drew ?_ | refine Below.alloc ?_ (by first | omega | (simp only [World.size_alloc,World.size_setCell,World.size_drew];omega) | simp) _ | refine Below.setCell ?_ (by first | omega | simp) _ | assumption)))).mono ?_);go_loud (rintro e w1 ⟨⟨v,rfl⟩,hP⟩))
 go_loop [4] (fun i=>i=.int .i64 0) (fun _=>0)
 case atStart=>rfl
 case round =>
  subst hrel
  go_wp2_with fail
  refine leaves_cons (f:=116) (args:=#[.pointer (some ⟨w.heap.size,0,none⟩)]) (by simp) (by simp [go_sem]) ?_
  refine (catch_idle ⟨w.heap.size,0,none⟩ _).mono ?_
  rintro e u' w'' ⟨rfl,rfl,rfl⟩
  simp [Leaves,settle,results,Tryz.results79,go_sem,hP]
structure Turned (w0 w:World) (sb:Nat) (S:Array Value) (sent:List Int) (cl:Bool) (v:Value):Prop where
 s:w.heap[sb]? = some (.cells S 100 (0,0))
 v:∃ sv,v=.agg #[sv, .bool cl]∧w.ownsRow w0.heap.size 5 1 sv sent.length (cellsOf sent)
 os:w.os=w0.os
 size:w0.heap.size≤w.heap.size
 heap:∀ b,b < w0.heap.size→b≠sb→w.heap[b]? = w0.heap[b]?
theorem own_mono {w:World} {base base':Nat} {e:TypeId} {size:Nat} {v:Value} {n:Nat} {xs:List Value} (h:w.ownsRow base e size v n xs) (hb:base'≤base):w.ownsRow base' e size v n xs:=by
 refine ⟨h.1,?_⟩
 rcases h.2 with k | ⟨g,c,cur,k1,k2,k3⟩
 ·exact .inl k
 ·exact .inr ⟨g,c,cur,k1,by omega,k3⟩
theorem turned_of {w w2 w':World} {sb:Nat} {now:Int} {S1:Array Value} {sent:List Int} {cl ov:Bool} {ao:Option Addr} {cp:Nat} (h2:w2.heap.size=w.heap.size+2) (hos:w2.os=w.os) (hO:∀ b,b < w.heap.size→w2.heap[b]? = w.heap[b]?) (hlt:sb < w.heap.size)
  (hT:TS w' (w.heap.size+2) (w.heap.size+1) sb now (.slice ao sent.length cp) sent cl ov S1) (hR:Rest (w.heap.size+2) (w.heap.size+1) sb w2 w') (a b:Value) :
  Turned w ((w'.setCell ⟨w.heap.size,0,none⟩ a).setCell ⟨w.heap.size,1,none⟩ b) sb S1 sent cl (.agg #[.slice ao sent.length cp, .bool cl]):=by
 have hs2:=hR.size
 refine ⟨?_,⟨_,rfl,own_mono (own_keep hT.own fun k hk=>?_) (by omega)⟩,hR.os.trans hos,?_,fun x hx hne=>?_⟩
 ·rw [set_oth (by omega),set_oth (by omega)];exact hT.s
 ·have:=(World.ownsRow.lt hT.own k hk).1
  rw [set_oth (by omega),set_oth (by omega)]
 ·simp [World.setCell];omega
 ·rw [set_oth (by omega),set_oth (by omega),hR.heap x (by omega) (by omega) hne];exact hO x hx
theorem turn_nil {w:World} {sb:Nat} {now:Int} {S0 S1:Array Value} {sent:List Int} {cl ov:Bool} {ao:Option Addr} {cp:Nat} (hs:w.heap[sb]? = some (.cells S0 100 (0,0)))
  (HW:∀ w1 base tb,TS w1 base tb sb now (.slice none 0 0) [] false false S0→Calls Tryz.prog 118 #[.pointer (some ⟨tb,0,none⟩)] w1 fun e w'=>(∃ v,e=.returned v)∧∃ sv',TS w' base tb sb now sv' sent cl ov S1∧Rest base tb sb w1 w') :
  Calls Tryz.prog 60 #[.pointer (some ⟨sb,0,none⟩), .int .i64 now, .slice ao 0 cp] w fun e w'=>∃ v,e=.returned v∧Turned w w' sb S1 sent cl v:=by
 have hlt:sb < w.heap.size:=(Array.getElem?_eq_some_iff.1 hs).1
 have h2:(((w.alloc (.cells #[.slice none 0 0, .bool false] 140)).alloc (.cells #[.pointer (some ⟨sb,0,none⟩), .int .i64 now, .slice none 0 0, .bool false, .bool false] 171)).heap.size)=w.heap.size+2:=by simp
 have hA:∀ o p:Obj,((w.alloc o).alloc p).heap[w.heap.size]? = some o:=fun o p=>by
  rw [Go.heap_alloc_old _ _ (by simp)];exact Go.heap_alloc_new w o
 have hB:∀ o p:Obj,((w.alloc o).alloc p).heap[w.heap.size+1]? = some p:=fun o p=>by
  have:=Go.heap_alloc_new (w.alloc o) p
  rw [World.size_alloc] at this
  exact this
 have hO:∀ (o p:Obj) b,b < w.heap.size→((w.alloc o).alloc p).heap[b]? = w.heap[b]?:=fun o p b hb=>by
  rw [Go.heap_alloc_old _ _ (by rw [World.size_alloc];omega),Go.heap_alloc_old _ _ hb]
 have hT:TS ((w.alloc (.cells #[.slice none 0 0, .bool false] 140)).alloc (.cells #[.pointer (some ⟨sb,0,none⟩), .int .i64 now, .slice none 0 0, .bool false, .bool false] 171)) (w.heap.size+2) (w.heap.size+1) sb now (.slice none 0 0) [] false false S0 :=
  ⟨hB _ _,(hO _ _ sb hlt).trans hs,World.ownsRow_nil _ _ _ _,⟨by omega,by omega,by rw [h2];exact Nat.le_refl _⟩,by omega⟩
 have hW:=work_nil (ao:=ao) (cp:=cp) (Pw:=fun w'=>∃ sv',TS w' (w.heap.size+2) (w.heap.size+1) sb now sv' sent cl ov S1∧Rest (w.heap.size+2) (w.heap.size+1) sb ((w.alloc (.cells #[.slice none 0 0, .bool false] 140)).alloc (.cells #[.pointer (some ⟨sb,0,none⟩), .int .i64 now, .slice none 0 0, .bool false, .bool false] 171)) w') (fun w1 hb=>by
  refine (HW w1 (w.heap.size+2) (w.heap.size+1) (hT.below hb)).mono ?_
  rintro e w' ⟨hv,sv',k1,k2⟩
  exact ⟨hv,sv',k1,(Rest.below hb (by rw [h2];exact Nat.le_refl _)).trans k2⟩)
 have HH:Hid (Calls Tryz.prog 79 _ _ _):=hW
 have HA:Hid (((w.alloc (.cells #[.slice none 0 0, .bool false] 140)).alloc (.cells #[.pointer (some ⟨sb,0,none⟩), .int .i64 now, .slice none 0 0, .bool false, .bool false] 171)).heap[w.heap.size]? = _):=hA _ _
 have HO:Hid _:=hO
 have Hs:Hid _:=hs
 clear HW hW hT hA hB hO h2 hs
 go_enter Tryz.func60,Tryz.ntmps60
 go_wp2_with (go_at_call 79;go_loud (refine HH.out.mono ?_);go_loud (rintro e w' ⟨⟨v,rfl⟩,sv',hT',hR'⟩);go_loud (obtain ⟨⟨d0,d1,d2,d3,d4⟩,y2,y3,y4⟩:=hT'.facts);go_loud (obtain ⟨ao',cp',rfl,_⟩:=own_slice hT'.own);go_loud (have hq:=(hR'.heap w.heap.size (by omega) (by omega) (by omega)).trans HA.out);go_loud (have q0:=cell_blk hq 0);go_loud (have q1:=cell_blk hq 1);go_loud (have p0:=frozen_blk hq 0);go_loud (have p1:=frozen_blk hq 1);simp at q0 q1)
 have hE0:=fun h2 hos hO=>turned_of h2 hos hO hlt hT' hR' (.slice ao' sent.length cp') (.bool cl)
 have hE:=hE0 (by simp) rfl (fun b hb=>HO.out _ _ b hb)
 exact bodyPost_ret (v:=.agg #[.slice ao' sent.length cp', .bool cl]) (by simp [results,Tryz.results60,go_sem,q0,q1]) rfl ⟨_,rfl,hE⟩
end Go.Proofs.YtjnkcibpkkjniaaGreat
namespace Go.Proofs.YtjnkcibpkkjniaaGreat.Sim
open Go Go.Proofs.YtjnkcibpkkjniaaGreat
section
variable [Scope] {ρ:Ren}
theorem VR.int_ {k:IntKind} {n:Int} {v:Value} (h:VR ρ (.int k n) v):v=.int k n:=by cases h;rfl
theorem VR.bool_ {b:Bool} {v:Value} (h:VR ρ (.bool b) v):v=.bool b:=by cases h;rfl
theorem VR.slice_ {a:Option Addr} {l c:Nat} {v:Value} (h:VR ρ (.slice a l c) v):∃ a',v=.slice a' l c:=by cases h <;> exact ⟨_,rfl⟩
theorem arr14 {C:Array Value} (h:C.size=14):∃ c0 c1 c2 c3 c4 c5 c6 c7 c8 c9 c10 c11 c12 c13,C=#[c0,c1,c2,c3,c4,c5,c6,c7,c8,c9,c10,c11,c12,c13]:=by
 obtain ⟨l⟩:=C
 match l,h with
 | [c0,c1,c2,c3,c4,c5,c6,c7,c8,c9,c10,c11,c12,c13],_=>exact ⟨_,_,_,_,_,_,_,_,_,_,_,_,_,_,rfl⟩
theorem HR.cellW {w w':World} (h:HR ρ w w') {g:Nat} {pl:Place} (hg:ρ g=some pl) (hp:pl.part=none) {i:Nat} {v:Value} (hc:w.cell? ⟨g,i,none⟩=some v):∃ v',w'.cell? ⟨pl.block,i,none⟩=some v'∧VR ρ v v':=by
 obtain ⟨o,o',h1,h2,h3⟩:=h.obj g pl hg
 unfold ObjR at h3
 rw [hp] at h3
 cases h3 with
 | @cells c C e fr hc' =>
  have e1:c[i]? = some v:=by simpa [World.cell?,h1] using hc
  obtain ⟨v',hv'⟩:=get_of_size hc'.size e1
  exact ⟨v',by simpa [World.cell?,h2] using hv',hc'.get i v v' e1 hv'⟩
 | map _ _=>simp [World.cell?,h1] at hc
 | number _=>simp [World.cell?,h1] at hc
end
def RowAt (w:World) (v:Value) (xs:List Int):Prop :=
 ∃ c,(xs=[]∧∃ ao,v=.slice ao 0 c)∨∃ g,v=.slice (some ⟨g,0,none⟩) xs.length c∧xs.length≤c∧∀ i (hi:i < xs.length),w.cell? ⟨g,i,none⟩=some (.int .u8 xs[i])
theorem RowAt.keep {w w':World} {v:Value} {xs:List Int} (h:RowAt w v xs) (k:∀ b v i,w.cell? ⟨b,i,none⟩=some v→w'.cell? ⟨b,i,none⟩=some v):RowAt w' v xs:=by
 obtain ⟨c,h | ⟨g,h1,h2,h3⟩⟩:=h
 ·exact ⟨c, .inl h⟩
 ·exact ⟨c, .inr ⟨g,h1,h2,fun i hi=>k _ _ _ (h3 i hi)⟩⟩
theorem RowAt.of {w:World} {base:Nat} {v:Value} {n:Nat} {xs:List Int} (h:w.ownsRow base 5 1 v n (cellsOf xs)) (hn:n=xs.length):RowAt w v xs:=by
 subst hn
 by_cases hx:xs=[]
 ·subst hx
  obtain ⟨ao,cap,rfl,_⟩:=own_slice h
  exact ⟨cap, .inl ⟨rfl,ao,rfl⟩⟩
 ·rcases h.2 with ⟨_,e⟩ | ⟨g,c,cur,k1,k2,k3,k4,k5,k6,k7⟩
  ·have:xs.length=0:=e
   exact absurd (List.eq_nil_of_length_eq_zero this) hx
  ·refine ⟨c, .inr ⟨g,k1,k4,fun i hi=>?_⟩⟩
   have:=h.cells (g:=g) (by rw [k1];rfl) i (.int .u8 xs[i]) (by simp [cellsOf,List.getElem?_eq_getElem hi])
   simpa [Addr.add_lit] using this
section
variable [Scope]
def Clo (w:World) (T:Nat→Prop):Prop:=∀ b,T b→∃ o,w.heap[b]? = some o∧OR (idOn T) o o
theorem Clo.named {w:World} {I:Nat→Prop} (hI:Clo w I) {A:Array Value} (hA:∀ (i:Nat) v b,A[i]? = some v→Nm v b→I b) {b:Nat} (h:Rch w A b):I b:=by
 induction h with
 | arg hv hn=>exact hA _ _ _ hv hn
 | cell _ hb hv hn ih =>
  obtain ⟨o,h1,h2⟩:=hI _ ih
  rw [hb] at h1;cases h1
  cases h2 with
  | cells hc=>obtain ⟨p,hp⟩:=hc.named hv hn;exact (idOn_of hp).1
 | num _ hb ih =>
  obtain ⟨o,h1,h2⟩:=hI _ ih
  rw [hb] at h1;cases h1
  cases h2 with
  | number ha=>obtain ⟨_,p,hp,_⟩:=ha;exact (idOn_of hp).1
 | key _ hb hv hn ih =>
  obtain ⟨o,h1,h2⟩:=hI _ ih
  rw [hb] at h1;cases h1
  cases h2 with
  | map _ hk =>
   obtain ⟨k1,k2,_⟩:=hk _ _ _ hv hv
   rcases hn with hn | hn
   ·obtain ⟨p,hp⟩:=VR.named hn k1;exact (idOn_of hp).1
   ·obtain ⟨p,hp⟩:=VR.named hn k2;exact (idOn_of hp).1
end
end Go.Proofs.YtjnkcibpkkjniaaGreat.Sim
namespace Go.Proofs.YtjnkcibpkkjniaaGreat.Sim
open Go Go.Proofs.YtjnkcibpkkjniaaGreat
section
variable [Scope] {ρ:Ren}
theorem VR.pl {v:Value} (h:Pl v):VR ρ v v:=by
 rcases h with ⟨k,n,rfl⟩ | ⟨s,rfl⟩ | ⟨b,rfl⟩ | ⟨l,c,rfl⟩
 ·exact .int k n
 ·exact .string s
 ·exact .bool b
 ·exact .slice0 l c
theorem VR.pl_ {v v':Value} (h:Pl v) (k:VR ρ v v'):v'=v:=by
 rcases h with ⟨k',n,rfl⟩ | ⟨s,rfl⟩ | ⟨b,rfl⟩ | ⟨l,c,rfl⟩
 ·exact VR.int_ k
 ·cases k;rfl
 ·exact VR.bool_ k
 ·cases k;rfl
end
def Named3 (p:Pz) (pa:Option Addr) (b:Nat):Prop:=(∃ ad,p.ia=some ad∧ad.block=b)∨(∃ ad,p.ea=some ad∧ad.block=b)∨∃ ad,pa=some ad∧ad.block=b
def PlBlk (w:World) (b:Nat):Prop:=∃ cur ty fr,w.heap[b]? = some (.cells cur ty fr)∧∀ u∈cur.toList,Pl u
theorem PlBlk.keep {w w':World} {b:Nat} (h:PlBlk w b) (e:w'.heap[b]? = w.heap[b]?):PlBlk w' b:=by
 obtain ⟨cur,ty,fr,h1,h2⟩:=h
 exact ⟨cur,ty,fr,e.trans h1,h2⟩
structure Sess (w:World) (xb:Nat) (Z:List Value) (au id:Int) (p:Pz) (st hold heard spoke:Int) (pa:Option Addr) (pl pc:Nat):Prop where
 blk:w.heap[xb]? = some (.cells (sessA au id p st hold heard spoke (.slice pa pl pc)++Z.toArray) 100 (0,0))
 spare:∀ u∈Z,Pl u
 rows:∀ b,Named3 p pa b→b≠xb∧PlBlk w b
theorem Sess.keep {w w':World} {xb:Nat} {Z:List Value} {au id:Int} {p:Pz} {st hold heard spoke:Int} {pa:Option Addr} {pl pc:Nat} (h:Sess w xb Z au id p st hold heard spoke pa pl pc) (k:∀ b,b=xb∨Named3 p pa b→w'.heap[b]? = w.heap[b]?):Sess w' xb Z au id p st hold heard spoke pa pl pc :=
 ⟨(k xb (.inl rfl)).trans h.blk,h.spare,fun b hb=>⟨(h.rows b hb).1,(h.rows b hb).2.keep (k b (.inr hb))⟩⟩
theorem sessA_size (au id:Int) (p:Pz) (st hold heard spoke:Int) (pv:Value):(sessA au id p st hold heard spoke pv).size=14:=rfl
section
variable [Scope]
theorem sessA_self {ρ:Ren} {au id:Int} {p:Pz} {st hold heard spoke:Int} {pa:Option Addr} {pl pc:Nat} (hb:Scope.base=0) (h:∀ ad,(p.ia=some ad∨p.ea=some ad∨pa=some ad)→ρ ad.block=some ⟨ad.block,none⟩):VsR ρ (sessA au id p st hold heard spoke (.slice pa pl pc)) (sessA au id p st hold heard spoke (.slice pa pl pc)):=by
 have hs:∀ (a:Option Addr) (l c:Nat),(∀ ad,a=some ad→ρ ad.block=some ⟨ad.block,none⟩)→VR ρ (.slice a l c) (.slice a l c):=fun a l c ha=>by
  cases a with
  | none=>exact .slice0 l c
  | some ad=>exact .slice l c ⟨by rw [hb];exact Nat.zero_le _,⟨ad.block,none⟩,ha ad rfl,rfl,by simp [Place.shift],rfl⟩
 have h7:=hs p.ia p.il p.ic fun ad e=>h ad (.inl e)
 have h8:=hs p.ea p.el p.ec fun ad e=>h ad (.inr (.inl e))
 have h13:=hs pa pl pc fun ad e=>h ad (.inr (.inr e))
 refine VsR.diag fun i v hv=>?_
 have hi:i < 14:=(Array.getElem?_eq_some_iff.1 hv).1
 obtain rfl | rfl | rfl | rfl | rfl | rfl | rfl | rfl | rfl | rfl | rfl | rfl | rfl | rfl:i=0∨i=1∨i=2∨i=3∨i=4∨i=5∨i=6∨i=7∨i=8∨i=9∨i=10∨i=11∨i=12∨i=13:=by omega
 all_goals
  simp [sessA] at hv
  subst hv
  first
   | exact .int _ _
   | exact h7
   | exact h8
   | exact h13
end
end Go.Proofs.YtjnkcibpkkjniaaGreat.Sim
namespace Go.Proofs.YtjnkcibpkkjniaaGreat.Sim
open Go Go.Proofs.YtjnkcibpkkjniaaGreat
section
variable [Scope] {ρ:Ren}
theorem sess_alike2 {au id:Int} {p:Pz} {st hold heard spoke:Int} {pa:Option Addr} {pl pc:Nat} {C:Array Value} (h:VsR ρ (sessA au id p st hold heard spoke (.slice pa pl pc)) C) :
  ∃ (p':Pz) (pa':Option Addr),C=sessA au id p' st hold heard spoke (.slice pa' pl pc)∧p'.au=p.au∧p'.hold=p.hold∧VR ρ (.slice p.ia p.il p.ic) (.slice p'.ia p.il p.ic)∧VR ρ (.slice p.ea p.el p.ec) (.slice p'.ea p.el p.ec)∧VR ρ (.slice pa pl pc) (.slice pa' pl pc):=by
 have hs:C.size=14:=h.size.symm
 obtain ⟨c0,c1,c2,c3,c4,c5,c6,c7,c8,c9,c10,c11,c12,c13,rfl⟩:=arr14 hs
 have g0:=VR.int_ (h.get 0 _ c0 rfl rfl)
 have g1:=VR.int_ (h.get 1 _ c1 rfl rfl)
 have g2:=VR.int_ (h.get 2 _ c2 rfl rfl)
 have g3:=VR.int_ (h.get 3 _ c3 rfl rfl)
 have g4:=VR.int_ (h.get 4 _ c4 rfl rfl)
 have g5:=VR.int_ (h.get 5 _ c5 rfl rfl)
 have g6:=VR.int_ (h.get 6 _ c6 rfl rfl)
 have r7:=h.get 7 _ c7 rfl rfl
 have r8:=h.get 8 _ c8 rfl rfl
 have r13:=h.get 13 _ c13 rfl rfl
 obtain ⟨a7,g7⟩:=VR.slice_ r7
 obtain ⟨a8,g8⟩:=VR.slice_ r8
 have g9:=VR.int_ (h.get 9 _ c9 rfl rfl)
 have g10:=VR.int_ (h.get 10 _ c10 rfl rfl)
 have g11:=VR.int_ (h.get 11 _ c11 rfl rfl)
 have g12:=VR.int_ (h.get 12 _ c12 rfl rfl)
 obtain ⟨a13,g13⟩:=VR.slice_ r13
 rw [g7] at r7
 rw [g8] at r8
 rw [g13] at r13
 exact ⟨{ p with ia:=a7,ea:=a8 },a13,by rw [g0,g1,g2,g3,g4,g5,g6,g7,g8,g9,g10,g11,g12,g13];rfl,rfl,rfl,r7,r8,r13⟩
theorem VsR.pl_eq {xs ys:Array Value} (h:VsR ρ xs ys) (hp:∀ u∈xs.toList,Pl u):ys=xs :=
 array_ext_of h.size fun i v v' a b=>VR.pl_ (hp v (by have:=Array.mem_of_getElem? a;simpa using this)) (h.get i v v' a b)
theorem slice_block {a a':Option Addr} {l c:Nat} {ad':Addr} (h:VR ρ (.slice a l c) (.slice a' l c)) (e:a'=some ad'):∃ ad q,a=some ad∧ρ ad.block=some q∧q.block=ad'.block:=by
 subst e
 cases h with
 | slice _ _ ha=>obtain ⟨_,q,h1,h2,_⟩:=ha;exact ⟨_,q,rfl,h1,h2.symm⟩
theorem PlBlk.over {w w':World} (h:HR ρ w w') {b:Nat} {q:Place} (hq:ρ b=some q) (hp:q.part=none) (hb:PlBlk w b):PlBlk w' q.block:=by
 obtain ⟨cur,ty,fr,h1,h2⟩:=hb
 obtain ⟨o,o',k1,k2,k3⟩:=h.obj b q hq
 rw [h1] at k1;cases k1
 unfold ObjR at k3
 rw [hp] at k3
 cases k3 with
 | cells hc =>
  rw [hc.pl_eq h2] at k2
  exact ⟨cur,ty,fr,k2,h2⟩
theorem Sess.core {w w':World} {xb:Nat} {Z:List Value} {au id:Int} {p:Pz} {st hold heard spoke:Int} {pa:Option Addr} {pl pc:Nat} {S':Array Value} (h:HR ρ w w') (hnp:∀ b q,b≠xb→ρ b=some q→q.part=none) (hxb:∃ q,ρ xb=some q∧q.block=xb)
  (hZ:∀ u∈Z,Pl u) (hrows:∀ b,Named3 p pa b→b≠xb∧PlBlk w b) (hv:VsR ρ (sessA au id p st hold heard spoke (.slice pa pl pc)) S') (hb:w'.heap[xb]? = some (.cells (S'++Z.toArray) 100 (0,0))) :
  ∃ (p':Pz) (pa':Option Addr),Sess w' xb Z au id p' st hold heard spoke pa' pl pc∧p'.au=p.au∧p'.hold=p.hold∧∀ b',Named3 p' pa' b'→∃ b q,Named3 p pa b∧ρ b=some q∧q.block=b':=by
 obtain ⟨p',pa',rfl,e1,e2,v7,v8,v13⟩:=sess_alike2 hv
 have hnm:∀ b',Named3 p' pa' b'→∃ b q,Named3 p pa b∧ρ b=some q∧q.block=b':=by
  rintro b' (⟨ad',k1,k2⟩ | ⟨ad',k1,k2⟩ | ⟨ad',k1,k2⟩)
  ·obtain ⟨ad,q,q1,q2,q3⟩:=slice_block v7 k1
   exact ⟨ad.block,q, .inl ⟨ad,q1,rfl⟩,q2,q3.trans k2⟩
  ·obtain ⟨ad,q,q1,q2,q3⟩:=slice_block v8 k1
   exact ⟨ad.block,q, .inr (.inl ⟨ad,q1,rfl⟩),q2,q3.trans k2⟩
  ·obtain ⟨ad,q,q1,q2,q3⟩:=slice_block v13 k1
   exact ⟨ad.block,q, .inr (.inr ⟨ad,q1,rfl⟩),q2,q3.trans k2⟩
 refine ⟨p',pa',⟨hb,hZ,fun b' hb'=>?_⟩,e1,e2,hnm⟩
 obtain ⟨b,q,q1,q2,rfl⟩:=hnm b' hb'
 obtain ⟨q3,q4⟩:=hrows b q1
 obtain ⟨qx,x1,x2⟩:=hxb
 exact ⟨fun e=>q3 (h.inj b xb q qx q2 x1 (e.trans x2.symm)),q4.over h q2 (hnp b q q3 q2)⟩
theorem Sess.over {w w':World} {xb:Nat} {Z:List Value} {au id:Int} {p:Pz} {st hold heard spoke:Int} {pa:Option Addr} {pl pc:Nat} (h:HR ρ w w') (hnp:∀ b q,ρ b=some q→q.part=none) (hxb:ρ xb=some ⟨xb,none⟩)
  (hs:Sess w xb Z au id p st hold heard spoke pa pl pc) :
  ∃ (p':Pz) (pa':Option Addr),Sess w' xb Z au id p' st hold heard spoke pa' pl pc∧p'.au=p.au∧p'.hold=p.hold∧∀ b',Named3 p' pa' b'→∃ b q,Named3 p pa b∧ρ b=some q∧q.block=b':=by
 obtain ⟨o,o',k1,k2,k3⟩:=h.obj xb _ hxb
 rw [hs.blk] at k1;cases k1
 have k3:OR ρ _ o':=k3
 cases k3 with
 | @cells _ C _ _ hc =>
  obtain ⟨l⟩:=C
  have hlen:l.length=14+Z.length:=by have:=hc.size;simp [sessA_size] at this;omega
  have hS:VsR ρ (sessA au id p st hold heard spoke (.slice pa pl pc)) (l.take 14).toArray:=by
   refine ⟨by simp [sessA_size];omega,fun i v v' a b=>?_⟩
   have hi:i < 14:=(Array.getElem?_eq_some_iff.1 a).1
   refine hc.get i v v' ?_ ?_
   ·rw [Array.getElem?_append_left (by rw [sessA_size];exact hi)];exact a
   ·simp only [List.getElem?_toArray] at b ⊢
    rw [List.getElem?_take_of_lt hi] at b
    exact b
  have hZ:l.drop 14=Z:=by
   apply List.ext_getElem?
   intro i
   rw [List.getElem?_drop]
   by_cases hi:i < Z.length
   ·have e1:(sessA au id p st hold heard spoke (.slice pa pl pc)++Z.toArray)[14+i]? = some Z[i]:=by
     rw [Array.getElem?_append_right (by rw [sessA_size];omega)]
     simp [sessA_size,List.getElem?_eq_getElem hi]
    have hl2:14+i < l.length:=by omega
    have:=hc.get (14+i) _ l[14+i] e1 (by simp [List.getElem?_eq_getElem hl2])
    rw [List.getElem?_eq_getElem hl2,List.getElem?_eq_getElem hi,VR.pl_ (hs.spare _ (List.getElem_mem hi)) this]
   ·rw [List.getElem?_eq_none (by omega),List.getElem?_eq_none (by omega)]
  refine Sess.core h (fun b q _ hq=>hnp b q hq) ⟨_,hxb,rfl⟩ hs.spare hs.rows hS ?_
  have e:(⟨l⟩:Array Value)=(l.take 14).toArray++Z.toArray:=by
   rw [←hZ]
   simp
  rw [←e]
  exact k2
theorem Sess.spread {ρ0:Ren} {wE w w':World} {xb:Nat} {Z:List Value} {S0:Array Value} {au id:Int} {p:Pz} {st hold heard spoke:Int} {pa:Option Addr} {pl pc:Nat} (h:HR ρ wE w') (hnp:∀ b q,b≠xb→ρ b=some q→q.part=none) (hxb:ρ xb=some ⟨xb,some ⟨0,14,100⟩⟩)
  (hk:Kept ρ0 w w') (hx0:ρ0 xb=some ⟨xb,some ⟨0,14,100⟩⟩) (hw:w.heap[xb]? = some (.cells (S0++Z.toArray) 100 (0,0))) (hS0:S0.size=14) (hZ:∀ u∈Z,Pl u)
  (hs:Sess wE xb [] au id p st hold heard spoke pa pl pc) :
  ∃ (p':Pz) (pa':Option Addr),Sess w' xb Z au id p' st hold heard spoke pa' pl pc∧p'.au=p.au∧p'.hold=p.hold∧∀ b',Named3 p' pa' b'→∃ b q,Named3 p pa b∧ρ b=some q∧q.block=b':=by
 obtain ⟨o,o',k1,k2,c,C,e1,e2,_,k3⟩:=h.obj xb _ hxb
 rw [hs.blk] at k1
 simp only [Option.some.injEq] at k1
 subst k1
 simp only [Obj.cells.injEq] at e1
 obtain ⟨rfl,_⟩:=e1
 subst e2
 obtain ⟨C0,E0,C1,q1,q2,q3,q4⟩:=hk.part xb _ 0 14 _ hx0 rfl
 rw [hw] at q1
 simp only [Option.some.injEq,Obj.cells.injEq] at q1
 obtain ⟨rfl,rfl,_⟩:=q1
 have k2:w'.heap[xb]? = _:=k2
 rw [q2] at k2
 simp only [Option.some.injEq,Obj.cells.injEq] at k2
 obtain ⟨rfl,_⟩:=k2
 obtain ⟨l⟩:=C1
 have hlen:l.length=14+Z.length:=by simp [hS0] at q3;omega
 have hS:VsR ρ (sessA au id p st hold heard spoke (.slice pa pl pc)) (l.take 14).toArray:=by
  refine ⟨by simp [sessA_size];omega,fun i v v' a b=>?_⟩
  have hi:i < 14:=(Array.getElem?_eq_some_iff.1 a).1
  obtain ⟨v2,r1,r2⟩:=k3.get i v (by simpa using a)
  simp only [List.getElem?_toArray] at b r1
  rw [List.getElem?_take_of_lt hi] at b
  rw [Nat.zero_add] at r1
  rw [r1] at b
  cases b
  exact r2
 have hZ2:l.drop 14=Z:=by
  apply List.ext_getElem?
  intro i
  rw [List.getElem?_drop]
  have:=q4 (14+i) (.inr (by omega))
  rw [Array.getElem?_append_right (by omega)] at this
  simp [hS0] at this
  exact this
 refine Sess.core h hnp ⟨_,hxb,rfl⟩ hZ hs.rows hS ?_
 have e:(⟨l⟩:Array Value)=(l.take 14).toArray++Z.toArray:=by
  rw [←hZ2]
  simp
 rw [←e]
 exact q2
end
end Go.Proofs.YtjnkcibpkkjniaaGreat.Sim
namespace Go.Proofs.YtjnkcibpkkjniaaGreat.Sim
open Go Go.Proofs.YtjnkcibpkkjniaaGreat
theorem base0:Tryz.prog.globals.size=0:=by kernel_rfl
theorem baseW:scopeW.base=0:=base0
structure InM (w:World) (m:Value) (E:Nat→Prop):Prop where
 rel:∀ (SC:Scope) (ρ:Ren),SC.base=0→(∀ b,E b→ρ b=some ⟨b,none⟩)→@VR SC ρ m m
 reach:∀ b,E b→Nm m b
 plain:∀ b,E b→PlBlk w b
theorem InM.nil_ (w:World):InM w (.slice none 0 0) (fun _=>False):=⟨fun SC ρ _ _=>@VR.slice0 SC ρ 0 0,fun _ h=>h.elim,fun _ h=>h.elim⟩
theorem InM.row {w:World} {g n c:Nat} (h:PlBlk w g):InM w (.slice (some ⟨g,0,none⟩) n c) (fun b=>b=g) :=
 ⟨fun SC ρ hb hE=>@VR.slice SC ρ _ _ n c ⟨by rw [hb];exact Nat.zero_le _,⟨g,none⟩,hE g rfl,rfl,by simp [Place.shift],rfl⟩,fun b e=>by subst e;exact .slice _ _ _,fun b e=>by subst e;exact h⟩
open Classical in
noncomputable def rho0 (xb:Nat) (N:Nat→Prop):Ren:=fun b=>if b=xb then some ⟨xb,some ⟨0,14,100⟩⟩ else if N b then some ⟨b,none⟩ else none
theorem rho0_x (xb:Nat) (N:Nat→Prop):rho0 xb N xb=some ⟨xb,some ⟨0,14,100⟩⟩:=by simp [rho0]
theorem rho0_n {xb:Nat} {N:Nat→Prop} {b:Nat} (h:b≠xb) (k:N b):rho0 xb N b=some ⟨b,none⟩:=by simp [rho0,h,k]
theorem rho0_of {xb:Nat} {N:Nat→Prop} {b:Nat} {q:Place} (h:rho0 xb N b=some q):(b=xb∧q=⟨xb,some ⟨0,14,100⟩⟩)∨(b≠xb∧N b∧q=⟨b,none⟩):=by
 unfold rho0 at h
 split at h
 ·rename_i e;cases h;exact .inl ⟨e,rfl⟩
 ·rename_i e
  split at h
  ·rename_i k;cases h;exact .inr ⟨e,k,rfl⟩
  ·cases h
theorem rho0_block {xb:Nat} {N:Nat→Prop} {b:Nat} {q:Place} (h:rho0 xb N b=some q):q.block=b:=by
 rcases rho0_of h with ⟨rfl,rfl⟩ | ⟨_,_,rfl⟩ <;> rfl
def small (w:World) (xb:Nat) (S:Array Value):World:={ w with heap:=w.heap.setIfInBounds xb (.cells S 100 (0,0)) }
theorem small_x {w:World} {xb:Nat} {S:Array Value} (h:xb < w.heap.size):(small w xb S).heap[xb]? = some (.cells S 100 (0,0)):=by
 show (w.heap.setIfInBounds xb _)[xb]? = _
 rw [Array.getElem?_setIfInBounds_self_of_lt h]
theorem small_o {w:World} {xb:Nat} {S:Array Value} {b:Nat} (h:b≠xb):(small w xb S).heap[b]? = w.heap[b]?:=by
 show (w.heap.setIfInBounds xb _)[b]? = _
 rw [Array.getElem?_setIfInBounds_ne (Ne.symm h)]
theorem small_size (w:World) (xb:Nat) (S:Array Value):(small w xb S).heap.size=w.heap.size:=by simp [small]
theorem hr_small {w:World} {xb:Nat} {Z:List Value} {au id:Int} {p:Pz} {st hold heard spoke:Int} {pa:Option Addr} {pl pc:Nat} (h:Sess w xb Z au id p st hold heard spoke pa pl pc) {E:Nat→Prop} (hE:∀ b,E b→b≠xb∧PlBlk w b) :
  @HR scopeW (rho0 xb fun b=>Named3 p pa b∨E b) (Sim.small w xb (sessA au id p st hold heard spoke (.slice pa pl pc))) w:=by
 refine @HR.mk scopeW _ _ _ (fun b q hq=>?_) (fun b b' q q' hq hq' e=>?_) (by rw [baseW];exact Nat.zero_le _) rfl (fun e=>by cases e)
 ·rcases rho0_of hq with ⟨rfl,rfl⟩ | ⟨hne,hN,rfl⟩
  ·refine ⟨_,_,small_x (Array.getElem?_eq_some_iff.1 h.blk).1,h.blk,_,_,rfl,rfl,Nat.dvd_zero _,?_⟩
   have hs:=@sessA_self scopeW (rho0 b fun b=>Named3 p pa b∨E b) au id p st hold heard spoke pa pl pc baseW (fun ad hd=>by
    have hn:Named3 p pa ad.block:=by
     rcases hd with e | e | e
     ·exact .inl ⟨ad,e,rfl⟩
     ·exact .inr (.inl ⟨ad,e,rfl⟩)
     ·exact .inr (.inr ⟨ad,e,rfl⟩)
    exact rho0_n (h.rows _ hn).1 (.inl hn))
   refine @PartR.mk scopeW _ _ _ _ _ rfl (by simp [sessA_size]) (fun i v hv=>⟨v,?_,@VsR.get scopeW _ _ _ hs i v v hv hv⟩)
   rw [Nat.zero_add,Array.getElem?_append_left (Array.getElem?_eq_some_iff.1 hv).1]
   exact hv
  ·have hp:PlBlk w b:=by
    rcases hN with hN | hN
    ·exact (h.rows b hN).2
    ·exact (hE b hN).2
   obtain ⟨cur,ty,fr,h1,h2⟩:=hp
   exact ⟨_,_,(small_o hne).trans h1,h1,@OR.cells scopeW _ _ _ _ _ (@VsR.diag scopeW _ _ fun i v hv=>@VR.pl scopeW _ _ (h2 v (by have:=Array.mem_of_getElem? hv;simpa using this)))⟩
 ·rw [rho0_block hq,rho0_block hq'] at e
  exact e
theorem RowAt.over2 [Scope] {ρ:Ren} {w w':World} (h:HR ρ w w') {v v':Value} {xs:List Int} (hw:∀ k q,v.ownBlock=some k→ρ k=some q→q.part=none) (hv:VR ρ v v') (hr:RowAt w v xs):RowAt w' v' xs:=by
 obtain ⟨c,⟨rfl,ao,rfl⟩ | ⟨g,rfl,h2,h3⟩⟩:=hr
 ·obtain ⟨a',rfl⟩:=VR.slice_ hv
  exact ⟨c, .inl ⟨rfl,a',rfl⟩⟩
 ·cases hv with
  | @slice a a' _ _ ha =>
   obtain ⟨_,p,hp,e1,e2,e3⟩:=ha
   have hpn:=hw g p rfl hp
   obtain ⟨b',o',s'⟩:=a'
   simp only at e1 e2 e3
   have hsh:p.shift=0:=by unfold Place.shift;rw [hpn]
   rw [hsh] at e2
   obtain rfl:b'=p.block:=e1
   obtain rfl:o'=0:=by simpa using e2
   subst e3
   refine ⟨c, .inr ⟨p.block,rfl,h2,fun i hi=>?_⟩⟩
   obtain ⟨u,k1,k2⟩:=h.cellW hp hpn (h3 i hi)
   rw [k1,VR.int_ k2]
def TurnR (xb:Nat) (Z:List Value) (au id A H st hold heard spoke:Int) (sent:List Int) (cl:Bool) (v:Value) (w:World):Prop :=
 ∃ (p:Pz) (pa:Option Addr) (pl pc:Nat),Sess w xb Z au id p st hold heard spoke pa pl pc∧p.au=A∧p.hold=H∧∃ sv,v=.agg #[sv, .bool cl]∧RowAt w sv sent∧(∃ a l c,sv=.slice a l c)∧∀ k,sv.ownBlock=some k→k≠xb
theorem great_turn {w:World} {xb:Nat} {Z:List Value} {au id:Int} {p:Pz} {st hold heard spoke:Int} {pa:Option Addr} {pl pc:Nat} (h:Sess w xb Z au id p st hold heard spoke pa pl pc) {m:Value} {E:Nat→Prop} (hM:InM w m E) (hE:∀ b,E b→b≠xb) {now A H st1 hold1 heard1 spoke1:Int} {sent:List Int} {cl:Bool}
  (hc:∀ T,Calls Tryz.prog 60 #[.pointer (some ⟨xb,0,none⟩), .int .i64 now,m] { Sim.small w xb (sessA au id p st hold heard spoke (.slice pa pl pc)) with tape:=T,drawn:=0 } fun e w'=>∃ v,e=.returned v∧TurnR xb [] au id A H st1 hold1 heard1 spoke1 sent cl v w') (w1:World) (e1:w1.heap=w.heap) (e2:w1.os=w.os) :
  Calls Tryz.prog 60 #[.pointer (some ⟨xb,0,none⟩), .int .i64 now,m] w1 fun e w'=>∃ v,e=.returned v∧TurnR xb Z au id A H st1 hold1 heard1 spoke1 sent cl v w'∧w'.os=w.os:=by
 have hh0:=hr_small h (E:=E) fun b hb=>⟨hE b hb,hM.plain b hb⟩
 have hh:@HR scopeW (rho0 xb fun b=>Named3 p pa b∨E b) (Sim.small w xb (sessA au id p st hold heard spoke (.slice pa pl pc))) w1:=by
  refine @HR.mk scopeW _ _ _ (fun b q hq=>?_) (@HR.inj scopeW _ _ _ hh0) (@HR.base scopeW _ _ _ hh0) (by rw [e2];exact @HR.os scopeW _ _ _ hh0) (fun e=>by cases e)
  rw [e1];exact @HR.obj scopeW _ _ _ hh0 b q hq
 have hargs:@VsR scopeW (rho0 xb fun b=>Named3 p pa b∨E b) #[.pointer (some ⟨xb,0,none⟩), .int .i64 now,m] #[.pointer (some ⟨xb,0,none⟩), .int .i64 now,m]:=by
  refine @VsR.diag scopeW _ _ fun i v hv=>?_
  match i,hv with
  | 0,hv=>simp at hv;subst hv;exact @VR.ptr scopeW _ _ _ ⟨by rw [baseW];exact Nat.zero_le _,_,rho0_x _ _,rfl,rfl,rfl⟩
  | 1,hv=>simp at hv;subst hv;exact @VR.int scopeW _ _ _
  | 2,hv=>simp at hv;subst hv;exact hM.rel scopeW _ baseW fun b hb=>rho0_n (hE b hb) (.inr hb)
  | i+3,hv=>simp at hv
 have hcalls:=@calls_alike scopeW Tryz.prog zerosW codesW _ _ (by show scopeW.ok _=true;kernel_rfl) _ _ hargs _ _ hh _ hc
 refine hcalls.mono ?_
 rintro e w' ⟨v,v',wE,ρ',rfl,⟨p1,pa1,pl1,pc1,hS,hA,hH,sv,rfl,hrow,hsl,hne⟩,hh2,hv,hg,hk⟩
 have hx:ρ' xb=some ⟨xb,some ⟨0,14,100⟩⟩:=hg.le _ _ (rho0_x _ _)
 have hnp:∀ b q,b≠xb→ρ' b=some q→q.part=none:=fun b q hb hq=>by
  rcases hg.new b q hq with k | k
  ·rcases rho0_of k with ⟨e,_⟩ | ⟨_,_,rfl⟩
   ·exact absurd e hb
   ·rfl
  ·exact k.1
 obtain ⟨p2,pa2,hS2,hA2,hH2,_⟩:=@Sess.spread scopeW ρ' _ wE w1 w' xb Z _ au id p1 st1 hold1 heard1 spoke1 pa1 pl1 pc1 hh2 hnp hx hk (rho0_x _ _) (by rw [e1];exact h.blk) (sessA_size _ _ _ _ _ _ _ _) h.spare hS
 cases hv with
 | @agg _ ys hs hget =>
  have h0:=hget 0 sv _ rfl (Array.getElem?_eq_getElem (by simp at hs;omega))
  have h1:=@VR.bool_ scopeW _ _ _ (hget 1 (.bool cl) _ rfl (Array.getElem?_eq_getElem (by simp at hs;omega)))
  obtain ⟨a,l,c,rfl⟩:=hsl
  obtain ⟨a',h2⟩:=@VR.slice_ scopeW _ _ _ _ _ h0
  have hys:ys=#[.slice a' l c, .bool cl]:=by
   apply Array.ext_getElem?
   intro i
   match i with
   | 0=>rw [Array.getElem?_eq_getElem (by simp at hs;omega),h2];rfl
   | 1=>rw [Array.getElem?_eq_getElem (by simp at hs;omega),h1];rfl
   | i+2=>rw [Array.getElem?_eq_none (by simp at hs;omega),Array.getElem?_eq_none (by simp)]
  subst hys
  have h0':@VR scopeW ρ' (.slice a l c) (.slice a' l c):=h0
  refine ⟨_,rfl,⟨p2,pa2,pl1,pc1,hS2,hA2.trans hA,hH2.trans hH,_,rfl,@RowAt.over2 scopeW _ _ _ hh2 _ _ _ (fun k q hk hq=>hnp k q (hne k hk) hq) h0' hrow,⟨a',l,c,rfl⟩,fun k hk e=>?_⟩,hk.os.trans e2⟩
  subst e
  cases a' with
  | none=>cases hk
  | some ad' =>
   obtain ⟨ad,q,q1,q2,q3⟩:=@slice_block scopeW _ _ _ _ _ _ h0' rfl
   subst q1
   have hb:ad'.block=k:=by simpa [Value.ownBlock] using hk
   exact hne ad.block rfl (@HR.inj scopeW _ _ _ hh2 ad.block k q _ q2 hx (q3.trans hb))
end Go.Proofs.YtjnkcibpkkjniaaGreat.Sim
namespace Go.Proofs.YtjnkcibpkkjniaaGreat.Pool
open Go.Conc Go.ConcN
structure PT (Sh Shun:Loc→Prop) (Own Rd:Nat→Loc→Prop) (K:Nat→Prop) (c:Nat) (t:Trace):Prop where
 sh:∀ i a,touchAt t i=some a→Sh a.loc→a.kind≠.plain∧(a.kind=.said→Knows t c i)
 own:∀ k,K k→∀ l,l.isMemory=true→Own k l→Perm t k l
 rd:∀ k,K k→∀ l,l.isMemory=true→Rd k l→PermW t k l
 free:∀ l,l.isMemory=true→¬ Sh l→¬ Shun l→(∀ k,K k→¬ Own k l∧¬ Rd k l)→Perm t 0 l
 mine:∀ l,l.isMemory=true→¬ Sh l→¬ Shun l→(∀ k,K k→¬ Own k l)→PermW t 0 l
 nr:∀ said,¬ Race said t
 over:∀ i g,t.g? i=some g→g≠0→t.counts i→K g∨∃ j,t.g? j=some 0∧HappensBefore t i j
 old:∀ (i:Nat) op x,t[i]? = some op→op.g≠0→¬ K op.g→op.act.touch? = some x→x.loc.isMemory=true→Knows t 0 i∨(Shun x.loc∧x.kind=.atomic)
structure Apart (Sh Shun:Loc→Prop) (Own Rd:Nat→Loc→Prop) (K:Nat→Prop):Prop where
 own:∀ k k' l,K k→K k'→Own k l→Own k' l→k=k'
 ownRd:∀ k k' l,K k→K k'→Own k l→¬ Rd k' l
 ownSh:∀ k l,K k→Own k l→¬ Sh l∧¬ Shun l
 rdSh:∀ k l,K k→Rd k l→¬ Sh l∧¬ Shun l
 zero:¬ K 0
 shMem:∀ l,Sh l→l.isMemory=true
section
variable (Sh Shun:Loc→Prop) (Own Rd:Nat→Loc→Prop) (K:Nat→Prop) (c:Nat)
def Ok0 (op:MemOp):Prop :=
 op.g=0∧∀ x,op.act.touch? = some x→x.loc.isMemory=true→(Sh x.loc∧x.kind≠.plain∧(x.kind=.said→c=0)) ∨
  (¬ Sh x.loc∧¬ Shun x.loc∧(∀ k,K k→¬ Own k x.loc)∧(x.write=true→∀ k,K k→¬ Rd k x.loc))
def OkK (k:Nat) (op:MemOp):Prop :=
 op.g=k∧∀ x,op.act.touch? = some x→x.loc.isMemory=true→(Sh x.loc∧x.kind≠.plain∧(x.kind=.said→c=k))∨Own k x.loc∨(Rd k x.loc∧x.write=false)
end
section
variable {Sh Shun:Loc→Prop} {Own Rd:Nat→Loc→Prop} {K:Nat→Prop} {c:Nat} {t u:Trace}
theorem over_app (h:∀ i g,t.g? i=some g→g≠0→t.counts i→K g∨∃ j,t.g? j=some 0∧HappensBefore t i j)
  (hu:∀ op∈u,op.g=0∨K op.g∨op.act.touch? = none):∀ i g,(t++u).g? i=some g→g≠0→(t++u).counts i→K g∨∃ j,(t++u).g? j=some 0∧HappensBefore (t++u) i j:=by
 intro i g hg hne hc
 obtain ⟨x,hx,hm⟩:=hc
 obtain ⟨op,hop,hox⟩:=touch_of hx
 rcases getElem?_append_cases hop with ⟨hi,hop'⟩ | ⟨_,hopu⟩
 ·rcases h i g (by simpa [Trace.g?,getElem?_append_old hi] using hg) hne ((counts_old hi).1 ⟨x,hx,hm⟩) with hk | ⟨j,hj,hb⟩
  ·exact .inl hk
  ·have hjl:j < t.size:=by
    unfold Trace.g? at hj
    obtain ⟨z,hz,_⟩:=Option.map_eq_some_iff.1 hj
    exact lt_size_of_getElem? hz
   exact .inr ⟨j,by simpa [Trace.g?,getElem?_append_old hjl] using hj,hb_app u hb⟩
 ·have hog:op.g=g:=by simpa [Trace.g?,hop] using hg
  rcases hu op hopu with h0 | h0 | h0
  ·exact absurd (hog.symm.trans h0) hne
  ·exact .inl (hog▸h0)
  ·rw [h0] at hox;cases hox
theorem PT.app0 (A:Apart Sh Shun Own Rd K) (h:PT Sh Shun Own Rd K c t) (hu:∀ op∈u,Ok0 Sh Shun Own Rd K c op):PT Sh Shun Own Rd K c (t++u):=by
 refine ⟨fun i a ha hs=>?_,fun k hk l hm hl=>(h.own k hk l hm hl).app fun op hop b hb e=>?_,fun k hk l hm hl=>(h.rd k hk l hm hl).app fun op hop b hb e hw=>?_,
  fun l hm hs hS hl=>(h.free l hm hs hS hl).app fun op hop _ _ _=>(hu op hop).1,fun l hm hs hS hl=>(h.mine l hm hs hS hl).app fun op hop _ _ _ _=>(hu op hop).1,fun said=>?_,?_,fun i op x hi hg hk hx hm=>?_⟩
 ·obtain ⟨x,hx,hxa⟩:=touch_of ha
  rcases getElem?_append_cases hx with ⟨hi,hx'⟩ | ⟨_,hxu⟩
  ·have:=h.sh i a (by rw [touchAt_of hx'];exact hxa) hs
   exact ⟨this.1,fun e=>(this.2 e).app u⟩
  ·rcases (hu x hxu).2 a hxa (A.shMem _ hs) with ⟨_,h1,h2⟩ | ⟨h1,_⟩
   ·refine ⟨h1,fun e=>?_⟩
    have:=knows_own hx
    rw [(hu x hxu).1] at this
    rw [h2 e];exact this
   ·exact absurd hs h1
 ·rcases (hu op hop).2 b hb (e▸hm) with ⟨hs,_⟩ | ⟨_,_,hn,_⟩
  ·exact absurd (e▸hs) (A.ownSh k l hk hl).1
  ·exact absurd (e▸hl) (hn k hk)
 ·rcases (hu op hop).2 b hb (e▸hm) with ⟨hs,_⟩ | ⟨_,_,_,hn⟩
  ·exact absurd (e▸hs) (A.rdSh k l hk hl).1
  ·exact absurd (e▸hl) (hn hw k hk)
 ·refine noRace_append (h.nr said) (fun op hop=>(hu op hop).1) (fun i a ha op hop b hb hc=>?_)
  obtain ⟨e1,e2,e3,e4⟩:=hc
  rcases (hu op hop).2 b hb (e1▸e2) with ⟨hs,h1,h2⟩ | ⟨hs,hS,hno,hnr⟩
  ·have:=h.sh i a ha (e1▸hs)
   rcases e4 with e4 | e4 | ⟨_,e4,e5⟩
   ·exact absurd e4 this.1
   ·exact absurd e4 h1
   ·have:=this.2 e4
    rw [h2 e5] at this
    exact this
  ·cases hbw:b.write with
   | true=>exact h.free b.loc (e1▸e2) hs hS (fun k hk=>⟨hno k hk,hnr hbw k hk⟩) i a ha e1
   | false=>exact h.mine b.loc (e1▸e2) hs hS hno i a ha e1 (e3.resolve_right (by simp [hbw]))
 ·exact over_app h.over fun op hop=>.inl (hu op hop).1
 ·rcases getElem?_append_cases hi with ⟨_,hi'⟩ | ⟨_,hiu⟩
  ·exact (h.old i op x hi' hg hk hx hm).imp (·.app u) id
  ·exact absurd (hu op hiu).1 hg
theorem PT.appK (A:Apart Sh Shun Own Rd K) (h:PT Sh Shun Own Rd K c t) {k:Nat} (kk:K k) (hu:∀ op∈u,OkK Sh Own Rd c k op):PT Sh Shun Own Rd K c (t++u):=by
 have k0:k≠0:=fun e=>A.zero (e▸kk)
 refine ⟨fun i a ha hs=>?_,fun k' hk l hm hl=>(h.own k' hk l hm hl).app fun op hop b hb e=>?_,fun k' hk l hm hl=>(h.rd k' hk l hm hl).app fun op hop b hb e hw=>?_,
  fun l hm hs hS hl=>(h.free l hm hs hS hl).app fun op hop b hb e=>?_,fun l hm hs hS hl=>(h.mine l hm hs hS hl).app fun op hop b hb e hw=>?_,fun said=>?_,?_,fun i op x hi hg hk hx hm=>?_⟩
 ·obtain ⟨x,hx,hxa⟩:=touch_of ha
  rcases getElem?_append_cases hx with ⟨hi,hx'⟩ | ⟨_,hxu⟩
  ·have:=h.sh i a (by rw [touchAt_of hx'];exact hxa) hs
   exact ⟨this.1,fun e=>(this.2 e).app u⟩
  ·rcases (hu x hxu).2 a hxa (A.shMem _ hs) with ⟨_,h1,h2⟩ | h1 | ⟨h1,_⟩
   ·refine ⟨h1,fun e=>?_⟩
    have:=knows_own hx
    rw [(hu x hxu).1] at this
    rw [h2 e];exact this
   ·exact absurd hs (A.ownSh k _ kk h1).1
   ·exact absurd hs (A.rdSh k _ kk h1).1
 ·rcases (hu op hop).2 b hb (e▸hm) with ⟨hs,_⟩ | ho | ⟨hr,_⟩
  ·exact absurd (e▸hs) (A.ownSh k' l hk hl).1
  ·rw [(hu op hop).1];exact A.own k k' l kk hk (e▸ho) hl
  ·exact absurd (e▸hr) (A.ownRd k' k l hk kk hl)
 ·rcases (hu op hop).2 b hb (e▸hm) with ⟨hs,_⟩ | ho | ⟨_,hr⟩
  ·exact absurd (e▸hs) (A.rdSh k' l hk hl).1
  ·exact absurd hl (A.ownRd k k' l kk hk (e▸ho))
  ·rw [hr] at hw;cases hw
 ·rcases (hu op hop).2 b hb (e▸hm) with ⟨hs',_⟩ | ho | ⟨hr,_⟩
  ·exact absurd (e▸hs') hs
  ·exact absurd (e▸ho) (hl k kk).1
  ·exact absurd (e▸hr) (hl k kk).2
 ·rcases (hu op hop).2 b hb (e▸hm) with ⟨hs',_⟩ | ho | ⟨_,hr⟩
  ·exact absurd (e▸hs') hs
  ·exact absurd (e▸ho) (hl k kk)
  ·rw [hr] at hw;cases hw
 ·refine noRace_append (h.nr said) (fun op hop=>(hu op hop).1) (fun i a ha op hop b hb hc=>?_)
  obtain ⟨e1,e2,e3,e4⟩:=hc
  rcases (hu op hop).2 b hb (e1▸e2) with ⟨hs,h1,h2⟩ | ho | ⟨hr,hbw⟩
  ·have:=h.sh i a ha (e1▸hs)
   rcases e4 with e4 | e4 | ⟨_,e4,e5⟩
   ·exact absurd e4 this.1
   ·exact absurd e4 h1
   ·have:=this.2 e4
    rw [h2 e5] at this
    exact this
  ·exact h.own k kk b.loc (e1▸e2) ho i a ha e1
  ·exact h.rd k kk b.loc (e1▸e2) hr i a ha e1 (e3.resolve_right (by simp [hbw]))
 ·exact over_app h.over fun op hop=>.inr (.inl ((hu op hop).1▸kk))
 ·rcases getElem?_append_cases hi with ⟨_,hi'⟩ | ⟨_,hiu⟩
  ·exact (h.old i op x hi' hg hk hx hm).imp (·.app u) id
  ·exact absurd ((hu op hiu).1▸kk) hk
theorem PT.appMute (h:PT Sh Shun Own Rd K c t) {g:Nat} (hu:∀ op∈u,op.g=g) (hn:∀ op∈u,op.act.touch? = none):PT Sh Shun Own Rd K c (t++u):=by
 have no:∀ {op b},op∈u→op.act.touch? = some b→False:=fun hop hb=>by rw [hn _ hop] at hb;cases hb
 refine ⟨fun i a ha hs=>?_,fun k' hk l hm hl=>(h.own k' hk l hm hl).app fun op hop b hb e=>(no hop hb).elim,fun k' hk l hm hl=>(h.rd k' hk l hm hl).app fun op hop b hb e hw=>(no hop hb).elim,
  fun l hm hs hS hl=>(h.free l hm hs hS hl).app fun op hop b hb e=>(no hop hb).elim,fun l hm hs hS hl=>(h.mine l hm hs hS hl).app fun op hop b hb e hw=>(no hop hb).elim,fun said=>noRace_append (h.nr said) hu (fun i a ha op hop b hb hc=>(no hop hb).elim),?_,fun i op x hi hg hk hx hm=>?_⟩
 ·obtain ⟨x,hx,hxa⟩:=touch_of ha
  rcases getElem?_append_cases hx with ⟨hi,hx'⟩ | ⟨_,hxu⟩
  ·have:=h.sh i a (by rw [touchAt_of hx'];exact hxa) hs
   exact ⟨this.1,fun e=>(this.2 e).app u⟩
  ·exact (no hxu hxa).elim
 ·exact over_app h.over fun op hop=>.inr (.inr (hn op hop))
 ·rcases getElem?_append_cases hi with ⟨_,hi'⟩ | ⟨_,hiu⟩
  ·exact (h.old i op x hi' hg hk hx hm).imp (·.app u) id
  ·exact (no hiu hx).elim
theorem PT.grow {Own':Nat→Loc→Prop} (h:PT Sh Shun Own Rd K c t) (hm:∀ k l,K k→Own k l→Own' k l) (hn:∀ k l,K k→Own' k l→Own k l∨∀ i a,touchAt t i=some a→a.loc≠l):PT Sh Shun Own' Rd K c t:=by
 refine ⟨h.sh,fun k hk l hl ho i a ha e=>?_,h.rd,fun l hl hs hS hf=>h.free l hl hs hS fun k hk=>⟨fun ho=>(hf k hk).1 (hm k l hk ho),(hf k hk).2⟩,fun l hl hs hS hf=>h.mine l hl hs hS fun k hk ho=>hf k hk (hm k l hk ho),h.nr,h.over,h.old⟩
 rcases hn k l hk ho with h1 | h1
 ·exact h.own k hk l hl h1 i a ha e
 ·exact absurd e (h1 i a ha)
theorem PT.congr {Own' Rd':Nat→Loc→Prop} (h:PT Sh Shun Own Rd K c t) (ho:∀ k,K k→Own' k=Own k) (hr:∀ k,K k→Rd' k=Rd k):PT Sh Shun Own' Rd' K c t :=
 ⟨h.sh,fun k hk=>by rw [ho k hk];exact h.own k hk,fun k hk=>by rw [hr k hk];exact h.rd k hk,fun l hl hs hS hf=>h.free l hl hs hS fun k hk=>by rw [←ho k hk,←hr k hk];exact hf k hk,
  fun l hl hs hS hf=>h.mine l hl hs hS fun k hk=>by rw [←ho k hk];exact hf k hk,h.nr,h.over,h.old⟩
theorem PT.fork (A:Apart Sh Shun Own Rd K) (h:PT Sh Shun Own Rd K c t) {k:Nat} (k0:k≠0) (hk:¬ K k) {x y:MemOp} (hx:x.g=0∧x.act=.go k) (hy:y.g=k∧y.act=.start) (h0:Deaf t 0=0) (hdk:Deaf t k=0)
  (ho:∀ l,l.isMemory=true→Own k l→¬ Sh l∧¬ Shun l∧∀ k',K k'→¬ Own k' l∧¬ Rd k' l) (hr:∀ l,l.isMemory=true→Rd k l→¬ Sh l∧¬ Shun l∧∀ k',K k'→¬ Own k' l)
  {c':Nat} (hc:c'=c∨(c=0∧c'=k)):PT Sh Shun Own Rd (fun i=>K i∨i=k) c' (t++#[x,y]):=by
 have hnt:∀ op∈#[x,y],∀ b,op.act.touch? = some b→False:=by
  intro op hop b hb
  simp only [List.mem_toArray,List.mem_cons,List.not_mem_nil,or_false] at hop
  rcases hop with rfl | rfl
  ·rw [hx.2] at hb;cases hb
  ·rw [hy.2] at hb;cases hb
 have old:∀ {i:Nat} {a:Touch},touchAt (t++#[x,y]) i=some a→touchAt t i=some a:=by
  intro i a ha
  obtain ⟨z,hz,hza⟩:=touch_of ha
  rcases getElem?_append_cases hz with ⟨_,hz'⟩ | ⟨_,hzu⟩
  ·rw [touchAt_of hz'];exact hza
  ·exact (hnt z hzu a hza).elim
 refine ⟨fun i a ha hs=>?_,fun k' hk' l hm hl=>?_,fun k' hk' l hm hl=>?_,
  fun l hm hs hS hl=>(h.free l hm hs hS fun k' hk'=>hl k' (.inl hk')).app fun op hop b hb _=>(hnt op hop b hb).elim,fun l hm hs hS hl=>(h.mine l hm hs hS fun k' hk'=>hl k' (.inl hk')).app fun op hop b hb _ _=>(hnt op hop b hb).elim,fun said=>?_,?_,fun i op x' hi hg hk' hx' hm=>?_⟩
 ·have:=h.sh i a (old ha) hs
  refine ⟨this.1,fun e=>?_⟩
  rcases hc with rfl | ⟨rfl,rfl⟩
  ·exact (this.2 e).app _
  ·exact fork_knows hx hy h0 hdk (this.2 e)
 ·rcases hk' with hk' | rfl
  ·exact (h.own k' hk' l hm hl).app fun op hop b hb _=>(hnt op hop b hb).elim
  ·obtain ⟨h1,h2,h3⟩:=ho l hm hl
   exact fun i a ha e=>fork_knows hx hy h0 hdk (h.free l hm h1 h2 h3 i a (old ha) e)
 ·rcases hk' with hk' | rfl
  ·exact (h.rd k' hk' l hm hl).app fun op hop b hb _ _=>(hnt op hop b hb).elim
  ·obtain ⟨h1,h2,h3⟩:=hr l hm hl
   exact fun i a ha e hw=>fork_knows hx hy h0 hdk (h.mine l hm h1 h2 h3 i a (old ha) e hw)
 ·have e:t++#[x,y]=(t++#[x])++#[y]:=by apply Array.ext';simp
  rw [e]
  refine noRace_append (g:=k) (noRace_append (g:=0) (h.nr said) (fun op hop=>by simp at hop;rw [hop];exact hx.1) (fun i a _ op hop b hb _=>(hnt op (by simp at hop ⊢;exact .inl hop) b hb).elim))
   (fun op hop=>by simp at hop;rw [hop];exact hy.1) (fun i a _ op hop b hb _=>(hnt op (by simp at hop ⊢;exact .inr hop) b hb).elim)
 ·refine over_app (fun i g h1 h2 h3=>(h.over i g h1 h2 h3).imp .inl id) fun op hop=>.inr (.inr ?_)
  cases hb:op.act.touch? with
  | none=>rfl
  | some b=>exact (hnt op hop b hb).elim
 ·rcases getElem?_append_cases hi with ⟨_,hi'⟩ | ⟨_,hiu⟩
  ·exact (h.old i op x' hi' hg (fun e=>hk' (.inl e)) hx' hm).imp (·.app _) id
  ·exact (hnt op hiu x' hx').elim
theorem PT.start {B:Nat} (h:Past Shun B t) (hs:∀ i a,touchAt t i=some a→¬ Sh a.loc):PT Sh Shun Own Rd (fun _=>False) c t:=by
 have kn:∀ l,l.isMemory=true→¬ Shun l→Perm t 0 l:=fun l hm hS i a ha e=>(h.known i a ha (e▸hm)).resolve_right fun x=>hS (e▸x.1)
 exact ⟨fun i a ha hx=>absurd hx (hs i a ha),fun k hk=>hk.elim,fun k hk=>hk.elim,fun l hm _ hS _=>kn l hm hS,fun l hm _ hS _=>.of (kn l hm hS),h.clean,fun i g h1 h2 h3=>.inr (h.over i g h1 h2 h3),
  fun i op x hi hg _ hx hm=>h.known i x (by rw [touchAt_of hi];exact hx) hm⟩
theorem PT.past {B:Nat} (h:PT Sh Shun Own Rd K c t) (hd:Deaf t 0=0) (hl:∀ op∈t,op.act.low B)
  (hk:∀ (i:Nat) op x,t[i]? = some op→op.g≠0→K op.g→op.act.touch? = some x→x.loc.isMemory=true→Knows t 0 i∨(Sh x.loc∧x.kind=.atomic))
  (hc:∀ i g,t.g? i=some g→K g→t.counts i→∃ j,t.g? j=some 0∧HappensBefore t i j):Past (fun l=>Shun l∨Sh l) B t:=by
 refine ⟨h.nr,fun i a ha hm=>?_,fun i g hg hne hcn=>?_,hd,hl⟩
 ·obtain ⟨x,hx,hxa⟩:=touch_of ha
  by_cases h0:x.g=0
  ·have:=knows_own hx
   rw [h0] at this
   exact .inl this
  ·by_cases hK:K x.g
   ·exact (hk i x a hx h0 hK hxa hm).imp id fun y=>⟨.inr y.1,y.2⟩
   ·exact (h.old i x a hx h0 hK hxa hm).imp id fun y=>⟨.inl y.1,y.2⟩
 ·rcases h.over i g hg hne hcn with h1 | h1
  ·exact hc i g hg h1 hcn
  ·exact h1
end
end Go.Proofs.YtjnkcibpkkjniaaGreat.Pool
