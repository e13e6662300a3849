import Derived.Test.YtjnkcibpkkjniaaGreatRows
import Derived.WalkKit
import Derived.WalkSpells
import Derived.WalkLawsBesides
import Derived.BigQuiet
import Derived.RegionTactic
import Derived.BigRegion
import Derived.Deep.RegionWith
import Derived.Laws.BytesArg
import Derived.Deep.QuietTactic
import Derived.OwnWalk
import Derived.KernelRfl
set_option linter.unusedVariables false
set_option linter.unusedSimpArgs false
set_option linter.unusedSectionVars false
namespace Go.Proofs.YtjnkcibpkkjniaaGreat
open Go.RowKit
theorem conv2 (w:World) (b c:Nat) (x y:Int) (h0:w.cell? ⟨b,0,none⟩=some (.int .u8 x)) (h1:w.cell? ⟨b,1,none⟩=some (.int .u8 y)):(convert 86 9 (.slice (some ⟨b,0,none⟩) 2 c)).run Tryz.prog w=.ok (.string (strOfNums [x,y])) w :=
 run_convert_bytes_arg w 86 5 Tryz.underlying86 Tryz.underlying5 b 0 2 c [x,y] rfl (fun i hi=>by
  match i,hi with
  | 0,_=>exact h0
  | 1,_=>exact h1) 9 Tryz.underlying9
theorem conv1 (w:World) (b c:Nat) (x:Int) (h0:w.cell? ⟨b,0,none⟩=some (.int .u8 x)):(convert 86 9 (.slice (some ⟨b,0,none⟩) 1 c)).run Tryz.prog w=.ok (.string (strOfNums [x])) w :=
 run_convert_bytes_arg w 86 5 Tryz.underlying86 Tryz.underlying5 b 0 1 c [x] rfl (fun i hi=>by
  match i,hi with
  | 0,_=>exact h0) 9 Tryz.underlying9
theorem conv4 (w:World) (b c:Nat) (x y z u:Int) (h0:w.cell? ⟨b,0,none⟩=some (.int .u8 x)) (h1:w.cell? ⟨b,1,none⟩=some (.int .u8 y)) (h2:w.cell? ⟨b,2,none⟩=some (.int .u8 z)) (h3:w.cell? ⟨b,3,none⟩=some (.int .u8 u)):(convert 86 9 (.slice (some ⟨b,0,none⟩) 4 c)).run Tryz.prog w=.ok (.string (strOfNums [x,y,z,u])) w :=
 run_convert_bytes_arg w 86 5 Tryz.underlying86 Tryz.underlying5 b 0 4 c [x,y,z,u] rfl (fun i hi=>by
  match i,hi with
  | 0,_=>exact h0
  | 1,_=>exact h1
  | 2,_=>exact h2
  | 3,_=>exact h3) 9 Tryz.underlying9
theorem conv5 (w:World) (b c:Nat) (x y z u v:Int) (h0:w.cell? ⟨b,0,none⟩=some (.int .u8 x)) (h1:w.cell? ⟨b,1,none⟩=some (.int .u8 y)) (h2:w.cell? ⟨b,2,none⟩=some (.int .u8 z)) (h3:w.cell? ⟨b,3,none⟩=some (.int .u8 u)) (h4:w.cell? ⟨b,4,none⟩=some (.int .u8 v)):(convert 86 9 (.slice (some ⟨b,0,none⟩) 5 c)).run Tryz.prog w=.ok (.string (strOfNums [x,y,z,u,v])) w :=
 run_convert_bytes_arg w 86 5 Tryz.underlying86 Tryz.underlying5 b 0 5 c [x,y,z,u,v] rfl (fun i hi=>by
  match i,hi with
  | 0,_=>exact h0
  | 1,_=>exact h1
  | 2,_=>exact h2
  | 3,_=>exact h3
  | 4,_=>exact h4) 9 Tryz.underlying9
def twoL (n:Int):List Int:=[n / 256 % 256,n % 256]
def mark:List Int:=[255,255,255,255,255,255,255,255,255,255,255,255,255,255,255,255]
def msgL (kind:Int) (body:List Int):List Int:=mark++(twoL (19+(body.length:Int))++kind::body)
def pickN (c n:Int):Int:=if c < 0 then (-(c+1)) % n else c % n
theorem S_append (xs ys:List Int):strOfNums xs++strOfNums ys=strOfNums (xs++ys):=by
 simp [strOfNums,ByteArray.append_eq,ByteArray.append,ByteArray.ext_iff]
theorem S_mark:(⟨#[255,255,255,255,255,255,255,255,255,255,255,255,255,255,255,255]⟩:ByteArray)=strOfNums mark:=by decide
section
set_option maxHeartbeats 400000
theorem two_any (n:Int) (w:World) :
  Calls Tryz.prog 164 #[.int .i64 n] w fun e w'=>e=.returned (.string (strOfNums (twoL n)))∧Below w.heap.size w w':=by
 have kc:=conv2
 go_enter Tryz.func164,Tryz.ntmps164
 go_wp2
 go_ret
 exact ⟨rfl,(Below.refl _ _).alloc (Nat.le_refl _) _⟩
theorem two_ex (n:Int) (w:World) :
  Calls Tryz.prog 164 #[.int .i64 n] w fun e w'=>e=.returned (.string (strOfNums (twoL n)))∧w'=w.alloc (.cells #[.int .u8 (n / 256 % 256), .int .u8 (n % 256)] 5):=by
 have kc:=conv2
 go_enter Tryz.func164,Tryz.ntmps164
 go_wp2
 go_ret
 exact ⟨rfl,rfl⟩
theorem ktwo_ex (n:Int) (w:World) :
  Calls Tryz.prog 32 #[.int .i64 n] w fun e w'=>e=.returned (.string (strOfNums (twoL n)))∧w'=w.alloc (.cells #[.int .u8 (n / 256 % 256), .int .u8 (n % 256)] 5):=by
 have kc:=conv2
 go_enter Tryz.func32,Tryz.ntmps32
 go_wp2
 go_ret
 exact ⟨rfl,rfl⟩
theorem pick_any (c n:Int) (hc:-9223372036854775808≤c∧c≤9223372036854775807) (hn:0 < n∧n≤9223372036854775807) (w:World) :
  Calls Tryz.prog 13 #[.int .i64 c, .int .i64 n] w fun e w'=>e=.returned (.int .i64 (pickN c n))∧w'=w:=by
 obtain ⟨hc1,hc2⟩:=hc
 obtain ⟨hn1,hn2⟩:=hn
 go_enter Tryz.func13,Tryz.ntmps13
 go_wp2
 ·go_ret
  refine ⟨?_,rfl⟩
  have h:c < 0:=by assumption
  have e:pickN c n=-((c+1).tmod n):=by
   unfold pickN
   rw [if_pos h,←Int.neg_tmod,Int.tmod_eq_emod_of_nonneg (by omega)]
  rw [e]
  rfl
 ·go_ret
  refine ⟨?_,rfl⟩
  have h:0≤c:=by assumption
  have e:pickN c n=c % n:=by
   unfold pickN
   rw [if_neg (by omega)]
  rw [e]
  rfl
theorem four_any (n:Int) (w:World) :
  Calls Tryz.prog 165 #[.int .u32 n] w fun e w'=>e=.returned (.string (strOfNums [n / 16777216 % 256,n / 65536 % 256,n / 256 % 256,n % 256]))∧Below w.heap.size w w':=by
 have kc:=conv4
 go_enter Tryz.func165,Tryz.ntmps165
 go_wp2
 go_ret
 exact ⟨rfl,(Below.refl _ _).alloc (Nat.le_refl _) _⟩
theorem mark_take (k:Nat) (h:k < 16):strOfNums (List.replicate k 255)++(⟨#[255]⟩:ByteArray)=strOfNums (List.replicate (k+1) 255):=by
 rw [show (⟨#[255]⟩:ByteArray)=strOfNums [255] from rfl,S_append,←List.replicate_succ']
theorem marker_any (w:World) :
  Calls Tryz.prog 31 #[] w fun e w'=>e=.returned (.string (strOfNums mark))∧w'=w:=by
 go_enter Tryz.func31,Tryz.ntmps31
 go_wp2_with fail
 go_loop [1,2] (fun s i=>∃ k:Nat,k≤16∧i=.int .i64 k∧s=.string (strOfNums (List.replicate k 255))) (fun _ i=>16 - (intOf i).toNat)
 case atStart=>exact ⟨0,by omega,rfl,rfl⟩
 case round =>
  obtain ⟨k,hk,rfl,rfl⟩:=hrel
  by_cases hlt:k < 16
  ·have hl:=mark_take k hlt
   have hs:¬ 9223372036854775807 < (strOfNums (List.replicate k 255)).size+1:=by rw [strOfNums_size];simp;omega
   go_wp2_with fail
   go_round
   case rel=>exact ⟨k+1,by omega,by go_num,rfl⟩
   case measure=>simp [intOf];omega
  ·have hk:k=16:=by omega
   subst hk
   go_wp2_with fail
   go_ret
   exact ⟨rfl,rfl⟩
theorem msg_join1:(⟨#[255,255,255,255,255,255,255,255,255,255,255,255,255,255,255,255]⟩:ByteArray)=strOfNums mark:=S_mark
theorem assemble_any (kind:Int) (b:List Int) (hb:b.length≤65535) (w:World) :
  Calls Tryz.prog 154 #[.int .u8 kind, .string (strOfNums b)] w fun e w'=>e=.returned (.string (strOfNums (msgL kind b)))∧Below w.heap.size w w':=by
 have kc:=conv1
 have ks:=S_append
 have kz:=strOfNums_size
 have km:=msg_join1
 have k2:∀ n,(twoL n).length=2:=fun _=>rfl
 have k16:mark.length=16:=rfl
 have ka:∀ xs ys:List Int,(xs++ys).length=xs.length+ys.length:=fun _ _=>List.length_append
 go_enter Tryz.func154,Tryz.ntmps154
 go_wp2_with fail
 go_region_with (go_at_call 164;go_loud (refine (two_ex _ _).mono ?_);go_loud (rintro e w' ⟨rfl,rfl⟩))
 all_goals (go_wp2_with fail;go_ret;exact ⟨rfl,by (repeat (first | exact Below.refl _ _ | refine Below.drew ?_ | refine Below.alloc ?_ (by first | omega | (simp only [World.size_alloc,World.size_setCell,World.size_drew];omega) | simp) _ | refine Below.setCell ?_ (by first | omega | simp) _ | assumption))⟩)
end
end Go.Proofs.YtjnkcibpkkjniaaGreat
namespace Go.Proofs.YtjnkcibpkkjniaaGreat
open Go.RowKit
def AllQ (Q:Value→Prop) (w:World) (v:Value):Prop:=∀ g cur ty fr,v.ownBlock=some g→w.heap[g]? = some (.cells cur ty fr)→∀ u∈cur.toList,Q u
theorem AllQ.nil (Q:Value→Prop) (w:World):AllQ Q w (.slice none 0 0):=fun g _ _ _ h=>by cases h
theorem AllQ.keep {Q:Value→Prop} {w w':World} {v:Value} (h:AllQ Q w v) (k:∀ g,v.ownBlock=some g→w'.heap[g]? = w.heap[g]?):AllQ Q w' v:=fun g cur ty fr h1 h2=>h g cur ty fr h1 ((k g h1).symm.trans h2)
theorem zeroCells_mem {z:Array Value} {n:Nat} (hz:0 < z.size) {u:Value} (h:u∈(Builtin.zeroCells z n).toList):u∈z.toList:=by
 unfold Builtin.zeroCells at h
 simp only [Array.toList_map,List.mem_map] at h
 obtain ⟨i,_,rfl⟩:=h
 have hi:i % z.size < z.size:=Nat.mod_lt _ hz
 rw [getElem!_pos z (i % z.size) hi]
 exact Array.getElem_mem_toList hi
def Pl (v:Value):Prop:=(∃ k n,v=.int k n)∨(∃ s,v=.string s)∨(∃ b,v=.bool b)∨∃ l c,v=.slice none l c
theorem Pl.int (k:IntKind) (n:Int):Pl (.int k n):=.inl ⟨_,_,rfl⟩
theorem Pl.string (s:ByteArray):Pl (.string s):=.inr (.inl ⟨_,rfl⟩)
theorem Pl.bool (b:Bool):Pl (.bool b):=.inr (.inr (.inl ⟨_,rfl⟩))
theorem Pl.slice0 (l c:Nat):Pl (.slice none l c):=.inr (.inr (.inr ⟨_,_,rfl⟩))
end Go.Proofs.YtjnkcibpkkjniaaGreat
namespace Go.Proofs.YtjnkcibpkkjniaaGreat
open Go Go.RowKit
def cellsOf (xs:List Int):List Value:=xs.map (Value.int .u8)
def Bytes (xs:List Int):Prop:=∀ x∈xs,0≤x∧x < 256
theorem byte_back {x:Int} (h:0≤x∧x < 256):((UInt8.ofNat x.toNat).toNat:Int)=x:=by
 have:(UInt8.ofNat x.toNat).toNat=x.toNat:=by
  simp [UInt8.toNat_ofNat]
  omega
 rw [this];omega
theorem S_cells {xs:List Int} (h:Bytes xs):((strOfNums xs).data.map fun b=>Value.int .u8 (b.toNat:Int))=(cellsOf xs).toArray:=by
 unfold strOfNums cellsOf
 apply Array.ext'
 simp only [Array.toList_map,List.map_map]
 refine List.map_congr_left fun x hx=>?_
 simp only [Function.comp]
 rw [byte_back (h x hx)]
theorem S_extract (xs:List Int):(strOfNums xs).extract 0 (strOfNums xs).size=strOfNums xs:=by
 simp [ByteArray.ext_iff,strOfNums,ByteArray.size,ByteArray.extract,ByteArray.copySlice]
 exact List.take_of_length_le (by simp)
section
variable {P:Program} (w:World)
theorem run_firstCells_string {xs:List Int} (h:Bytes xs) (size n:Nat) (hn:n=xs.length):(Builtin.firstCells size n (.string (strOfNums xs))).run P w=.ok (cellsOf xs).toArray w:=by
 subst hn
 have e:(strOfNums xs).extract 0 xs.length=strOfNums xs:=by
  have:=S_extract xs
  rw [strOfNums_size] at this
  exact this
 simp [Builtin.firstCells,e,S_cells h]
theorem one_bytes (xs:List Int):∀ u∈cellsOf xs,u.oneCell'=true:=by
 intro u hu
 obtain ⟨x,_,rfl⟩:=List.mem_map.1 hu
 rfl
theorem cellsOf_len (xs:List Int):(cellsOf xs).length=xs.length:=by simp [cellsOf]
theorem cellsOf_append (xs ys:List Int):cellsOf xs++cellsOf ys=cellsOf (xs++ys):=by simp [cellsOf]
theorem run_append_own_string_all (Q:Value→Prop) (base:Nat) (t u ty e:TypeId) (i:TypeInfo) (z:Value) (ht:P.underlying t=some (.slice e)) (hu:P.underlying u=some .string) (hi:P.info? e=some i) (hz:i.zero=some z)
  (hsize:i.size=1) (hby:i.bytes=1) (hzs:z.cells.size=1)
  (v:Value) (n:Nat) (xs:List Value) (hown:w.ownsRow base e 1 v n xs) {s:List Int} (hs:Bytes s) (h63:n+s.length≤140737488355328) (hbase:base≤w.heap.size) (hQz:∀ u∈z.cells.toList,Q u) (hQs:∀ u∈cellsOf s,Q u) (hQv:AllQ Q w v) :
  ∃ v' w',(Builtin.append_ #[t,u] ty #[v, .string (strOfNums s)]).run P w=.ok v' w'∧w'.ownsRow base e 1 v' (n+s.length) (xs++cellsOf s)∧w.grownBy w' v.ownBlock∧(v'.ownBlock=v.ownBlock∨v'.ownBlock=some w.heap.size)∧AllQ Q w' v':=by
 have hml:140737488355328≤maxLen:=by decide
 have hsmall:n+s.length≤9223372036854775807:=by omega
 have hlc:=cellsOf_len s
 have hlen:(xs++cellsOf s).length=(n+s.length) * 1:=by rw [List.length_append,hown.1,hlc];omega
 have grown:∀ (old:Nat),old < n+s.length→∀ (row:Option Nat),
   (w.drew.alloc (.cells (xs.toArray++(cellsOf s).toArray++Builtin.zeroCells z.cells (grownCap w (n+s.length) old e - (n+s.length))) e)).ownsRow base e 1
    (.slice (some ⟨w.heap.size,0,none⟩) (n+s.length) (grownCap w (n+s.length) old e)) (n+s.length) (xs++cellsOf s) ∧
   w.grownBy (w.drew.alloc (.cells (xs.toArray++(cellsOf s).toArray++Builtin.zeroCells z.cells (grownCap w (n+s.length) old e - (n+s.length))) e)) row:=by
  intro old ho row
  have hge:=grownCap_ge w (n+s.length) old e
  have hcm:grownCap w (n+s.length) old e≤maxLen:=grownCap_le_maxLen w (n+s.length) old e (by omega)
  refine ⟨⟨hlen, .inr ⟨w.heap.size,_,_,rfl,hbase,heap_alloc_new w.drew _,hge,hcm,?_,?_⟩⟩,⟨rfl,rfl,rfl,by simp,fun k hk _=>Go.heap_alloc_old w.drew _ hk⟩⟩
  ·have:=hown.1
   simp only [Array.size_append,List.size_toArray,size_zeroCells,hzs,hlc]
   omega
  ·simp only [Array.toList_append,List.append_assoc]
   rw [←List.append_assoc,←hlen]
   exact List.take_left
 have grownQ:∀ (X:List Value) (n1:Nat) (c:Nat),(∀ u∈X,Q u)→AllQ Q (w.drew.alloc (.cells (X.toArray++(cellsOf s).toArray++Builtin.zeroCells z.cells n1) e)) (.slice (some ⟨w.heap.size,0,none⟩) (n+s.length) c):=by
  intro X n1 c hX k cur ty fr e1 e2 u hu
  cases e1
  have e3:=(heap_alloc_new w.drew _).symm.trans e2
  cases e3
  simp only [Array.toList_append,List.mem_append] at hu
  rcases hu with (hu | hu) | hu
  ·exact hX u hu
  ·exact hQs u hu
  ·exact hQz u (zeroCells_mem (by omega) hu)
 have hf:∀ w':World,(Builtin.firstCells 1 s.length (.string (strOfNums s))).run P w'=.ok (cellsOf s).toArray w':=fun w'=>run_firstCells_string w' hs 1 s.length rfl
 have hz0:=strOfNums_size s
 rcases hown.2 with ⟨rfl,rfl⟩ | ⟨g,cap,cur,rfl,hbg,hg,hnc,hcm,hcs,htake⟩
 ·have hx:xs=[]:=List.eq_nil_of_length_eq_zero (by simpa using hown.1)
  subst hx
  by_cases hm:s=[]
  ·subst hm
   refine ⟨.slice none 0 0,w,?_,World.ownsRow_nil w base e 1,⟨rfl,rfl,rfl,Nat.le_refl _,fun _ _ _=>rfl⟩, .inl rfl,AllQ.nil _ _⟩
   have h0:(strOfNums []).size=0:=rfl
   simp [Builtin.append_,run_underlying ht,run_underlying hu,sizeOf,typeInfo,hi,Builtin.lenOf,Builtin.firstCells,h0]
  ·have hpos:0 < s.length:=List.length_pos_iff.2 hm
   have hr:=run_append_nil_string (P:=P) w t u ty e i z ht hu hi hz (strOfNums s) (by omega) (by omega) (by rw [hby,hz0];omega)
   rw [S_cells hs,hz0] at hr
   have hgr:=grown 0 (by omega) (Value.ownBlock (.slice none 0 0))
   have hq2:=grownQ [] (grownCap w (0+s.length) 0 e - (0+s.length)) (grownCap w (0+s.length) 0 e) (fun u h=>by cases h)
   simp only [Nat.zero_add,List.nil_append,Array.empty_append] at hgr hq2 ⊢
   exact ⟨_,_,hr,hgr.1,hgr.2, .inr rfl,hq2⟩
 ·by_cases hroom:n+s.length≤cap
  ·have hfit:n * 1+(cellsOf s).length≤cur.size:=by rw [hlc,hcs];omega
   have hst:=run_storeCells_at P g (n * 1) e (cellsOf s) 0 cur w hg (by simpa using hfit) (one_bytes s)
   simp only [Nat.add_zero] at hst
   have hr:(Builtin.append_ #[t,u] ty #[.slice (some ⟨g,0,none⟩) n cap, .string (strOfNums s)]).run P w=.ok (.slice (some ⟨g,0,none⟩) (n+s.length) cap) (w.setRow g (cur.toList.take (n * 1)++cellsOf s++cur.toList.drop (n * 1+(cellsOf s).length)).toArray):=by
    simp [Builtin.append_,run_underlying ht,run_underlying hu,sizeOf,typeInfo,hi,hsize,Builtin.lenOf,hz0,hroom,hf,Addr.add_lit]
    simp at hst
    simp [hst]
   refine ⟨_,_,hr,⟨hlen, .inr ⟨g,cap,_,rfl,hbg,setRow_heap w g cur _ e _ hg,hroom,hcm,?_,?_⟩⟩,⟨rfl,rfl,rfl,by simp,fun k _ hk=>setRow_other w g k _ (fun e=>hk (by simp [Value.ownBlock,e]))⟩, .inl rfl,?_⟩
   ·simp only [List.size_toArray,List.length_append,List.length_take,List.length_drop,Array.length_toList]
    omega
   ·rw [htake,←hlen]
    exact List.take_left
   ·have hq:=hQv g cur e (0,0) rfl hg
    intro k cur' ty' fr e1 e2 u hu
    cases e1
    rw [setRow_heap w g cur _ e _ hg] at e2
    cases e2
    simp only [List.mem_append] at hu
    rcases hu with (hu | hu) | hu
    ·exact hq u (List.mem_of_mem_take hu)
    ·exact hQs u hu
    ·exact hq u (List.mem_of_mem_drop hu)
  ·have holds:∀ j u,xs[j]? = some u→w.cell? ((⟨g,0,none⟩:Addr).add j)=some u:=hown.cells (g:=g) rfl
   have hn:¬ (n+s.length≤cap):=hroom
   have h63':¬ (9223372036854775807 < ((n:Int)+(s.length:Int))):=by omega
   have hfit:=growslice_fits (need:=n+s.length) (old:=cap) (bytes:=1) (by omega) (by omega)
   have h48':¬ (281474976710656 < Builtin.nextslicecap (n+s.length) cap * i.bytes):=by rw [hby];omega
   have hfo:=run_firstCells_some (P:=P) w.drew i.size n ⟨g,0,none⟩ n cap xs (by rw [hsize];exact hown.1) (by simpa using holds)
   rw [hsize] at hfo
   have hr:(Builtin.append_ #[t,u] ty #[.slice (some ⟨g,0,none⟩) n cap, .string (strOfNums s)]).run P w=.ok (.slice (some ⟨w.heap.size,0,none⟩) (n+s.length) (grownCap w (n+s.length) cap e))
     (w.drew.alloc (.cells (xs.toArray++(cellsOf s).toArray++Builtin.zeroCells z.cells (grownCap w (n+s.length) cap e - (n+s.length))) e)):=by
    simp [Builtin.append_,run_underlying ht,run_underlying hu,sizeOf,typeInfo,zeroValue,hi,hz,hsize,Builtin.lenOf,hz0,hn,h63',h48',Question.forced,hf,hfo,newRow,grownCap]
    congr 2
    apply Array.ext'
    simp [List.append_assoc]
   have hgr:=grown cap (by omega) (Value.ownBlock (.slice (some ⟨g,0,none⟩) n cap))
   exact ⟨_,_,hr,hgr.1,hgr.2, .inr rfl,grownQ xs _ _ (fun u h=>by rw [←htake] at h;exact hQv g cur e (0,0) rfl hg u (List.mem_of_mem_take h))⟩
theorem run_append_own_string (base:Nat) (t u ty e:TypeId) (i:TypeInfo) (z:Value) (ht:P.underlying t=some (.slice e)) (hu:P.underlying u=some .string) (hi:P.info? e=some i) (hz:i.zero=some z)
  (hsize:i.size=1) (hby:i.bytes=1) (hzs:z.cells.size=1)
  (v:Value) (n:Nat) (xs:List Value) (hown:w.ownsRow base e 1 v n xs) {s:List Int} (hs:Bytes s) (h63:n+s.length≤140737488355328) (hbase:base≤w.heap.size) :
  ∃ v' w',(Builtin.append_ #[t,u] ty #[v, .string (strOfNums s)]).run P w=.ok v' w'∧w'.ownsRow base e 1 v' (n+s.length) (xs++cellsOf s)∧w.grownBy w' v.ownBlock∧(v'.ownBlock=v.ownBlock∨v'.ownBlock=some w.heap.size):=by
 obtain ⟨v',w',h1,h2,h3,h4,_⟩:=run_append_own_string_all (P:=P) w (fun _=>True) base t u ty e i z ht hu hi hz hsize hby hzs v n xs hown hs h63 hbase (fun _ _=>trivial) (fun _ _=>trivial) (fun _ _ _ _ _ _ _ _=>trivial)
 exact ⟨v',w',h1,h2,h3,h4⟩
end
end Go.Proofs.YtjnkcibpkkjniaaGreat
namespace Go.Proofs.YtjnkcibpkkjniaaGreat
open Go Go.RowKit
set_option maxHeartbeats 1600000
set_option maxRecDepth 20000
theorem wpList_append_string {P:Program} {w:World} {ops:Array Oper} {rest:List Oper} {o:Oper} {a:Act} {Q:Exit→Act→World→Prop} (hgd:o.guard=none) (s x:Operand) (t u:TypeId)
  (ho:o.op=.call { callee:=.builtin .append,args:=#[s,x],argTypes:=#[t,u] })
  (base:Nat) (e:TypeId) (i:TypeInfo) (z:Value) (ht:P.underlying t=some (.slice e)) (hu:P.underlying u=some .string) (hi:P.info? e=some i) (hz:i.zero=some z)
  (hsize:i.size=1) (hby:i.bytes=1) (hzs:z.cells.size=1)
  (v:Value) (n:Nat) (xs:List Value) (hs:a.eval s=v) (hown:w.ownsRow base e 1 v n xs) (l:List Int) (hx:a.eval x=.string (strOfNums l)) (hl:Bytes l) (h63:n+l.length≤140737488355328) (hbase:base≤w.heap.size)
  (h:∀ v' w',w'.ownsRow base e 1 v' (n+l.length) (xs++cellsOf l)→w.grownBy w' v.ownBlock→(v'.ownBlock=v.ownBlock∨v'.ownBlock=some w.heap.size)→wpList P ops Q rest (a.put o.dst v') w'):wpList P ops Q (o::rest) a w :=
 wpList_plain hgd fun _ hK=>by
  obtain ⟨v',w',hr,h2,h3,h4⟩:=run_append_own_string (P:=P) w base t u o.type e i z ht hu hi hz hsize hby hzs v n xs hown hl h63 hbase
  unfold Oper.wp execOp
  simp only [ho,resolve,invoke,builtin,Sem.run_bind,Sem.run_pure,Result.andThen_ok,List.map_toArray,List.map_cons,List.map_nil,hs,hx,hr]
  exact hK _ _ (h v' w' h2 h3 h4)
structure TS (w:World) (base tb sb:Nat) (now:Int) (sv:Value) (sent:List Int) (cl ov:Bool) (S:Array Value):Prop where
 t:w.heap[tb]? = some (.cells #[.pointer (some ⟨sb,0,none⟩), .int .i64 now,sv, .bool cl, .bool ov] 171 (0,0))
 s:w.heap[sb]? = some (.cells S 100 (0,0))
 own:w.ownsRow base 5 1 sv sent.length (cellsOf sent)
 lt:tb < base∧sb < base∧base≤w.heap.size
 ne:tb≠sb
structure Rest (base tb sb:Nat) (w w':World):Prop where
 os:w'.os=w.os
 size:w.heap.size≤w'.heap.size
 heap:∀ b,b < base→b≠tb→b≠sb→w'.heap[b]? = w.heap[b]?
theorem Rest.refl (base tb sb:Nat) (w:World):Rest base tb sb w w:=⟨rfl,Nat.le_refl _,fun _ _ _ _=>rfl⟩
theorem Rest.trans {base tb sb:Nat} {a b c:World} (h:Rest base tb sb a b) (k:Rest base tb sb b c):Rest base tb sb a c :=
 ⟨k.os.trans h.os,Nat.le_trans h.size k.size,fun x h1 h2 h3=>(k.heap x h1 h2 h3).trans (h.heap x h1 h2 h3)⟩
theorem Rest.below {base tb sb:Nat} {w w':World} (h:Below w.heap.size w w') (hb:base≤w.heap.size):Rest base tb sb w w':=⟨h.os,h.size,fun b h1 _ _=>h.block b (by omega)⟩
theorem cell_blk {w:World} {b:Nat} {C:Array Value} {t:TypeId} (h:w.heap[b]? = some (.cells C t (0,0))) (i:Nat):w.cell? ⟨b,i,none⟩=C[i]?:=by simp [World.cell?,h]
theorem frozen_blk {w:World} {b:Nat} {C:Array Value} {t:TypeId} (h:w.heap[b]? = some (.cells C t (0,0))) (i:Nat):w.frozen? ⟨b,i,none⟩=false:=by simp [World.frozen?,h]
theorem set_blk {w:World} {b:Nat} {C:Array Value} {t:TypeId} (h:w.heap[b]? = some (.cells C t (0,0))) (i:Nat) (v:Value):(w.setCell ⟨b,i,none⟩ v).heap[b]? = some (.cells (C.setIfInBounds i v) t (0,0)):=by
 simp [World.setCell,Array.getElem?_modify,h]
theorem set_oth {w:World} {b b':Nat} (h:b≠b') (i:Nat) (v:Value):(w.setCell ⟨b,i,none⟩ v).heap[b']? = w.heap[b']?:=by
 simp [World.setCell,Array.getElem?_modify,h]
theorem TS.below {w w':World} {base tb sb:Nat} {now:Int} {sv:Value} {sent:List Int} {cl ov:Bool} {S:Array Value} (h:TS w base tb sb now sv sent cl ov S) (hB:Below w.heap.size w w'):TS w' base tb sb now sv sent cl ov S:=by
 have h1:=h.lt
 refine ⟨(hB.block tb (by omega)).trans h.t,(hB.block sb (by omega)).trans h.s,?_,⟨h1.1,h1.2.1,by have:=hB.size;omega⟩,h.ne⟩
 refine ⟨h.own.1,?_⟩
 rcases h.own.2 with k | ⟨g,c,cur,k1,k2,k3,k4⟩
 ·exact .inl k
 ·exact .inr ⟨g,c,cur,k1,k2,by rw [hB.block g (Array.getElem?_eq_some_iff.1 k3).1];exact k3,k4⟩
theorem info_u8:∃ i:TypeInfo,Tryz.prog.info? 5=some i∧i.zero=some (.int .u8 0)∧i.size=1∧i.bytes=1:=by
 have h1:((Tryz.prog.info? 5).map fun i=>(i.size,i.bytes))=some (1,1):=by kernel_rfl
 have h2:((Tryz.prog.info? 5).bind (·.zero))=some (.int .u8 0):=by kernel_rfl
 obtain ⟨i,hi,e⟩:=Option.map_eq_some_iff.1 h1
 rw [hi] at h2
 simp only [Prod.mk.injEq,Option.bind_some] at e h2
 exact ⟨i,hi,h2,e.1,e.2⟩
theorem TS.grown {w w':World} {base tb sb:Nat} {now:Int} {sv sv':Value} {sent:List Int} {cl ov:Bool} {S:Array Value} (h:TS w base tb sb now sv sent cl ov S) {row:Option Nat} (hg:w.grownBy w' row) (hr:∀ k,row=some k→base≤k) :
  w'.heap[tb]? = w.heap[tb]?∧w'.heap[sb]? = w.heap[sb]?∧Rest base tb sb w w':=by
 have h1:=h.lt
 have hb:∀ b,b < base→w'.heap[b]? = w.heap[b]?:=fun b hb=>hg.block b (by omega) fun e=>by have:=hr b e.symm;omega
 exact ⟨hb tb h1.1,hb sb h1.2.1,hg.os,hg.size,fun b h1 _ _=>hb b h1⟩
theorem own_slice {w:World} {base:Nat} {e:TypeId} {size:Nat} {v:Value} {n:Nat} {xs:List Value} (h:w.ownsRow base e size v n xs):∃ ao cap,v=.slice ao n cap∧∀ k,v.ownBlock=some k→base≤k:=by
 rcases h.2 with ⟨rfl,rfl⟩ | ⟨g,c,cur,rfl,h1,_⟩
 ·exact ⟨none,0,rfl,fun k hk=>(h.lt k hk).1⟩
 ·exact ⟨_,_,rfl,fun k hk=>(h.lt k hk).1⟩
theorem own_keep {w w':World} {base:Nat} {e:TypeId} {size:Nat} {v:Value} {n:Nat} {xs:List Value} (h:w.ownsRow base e size v n xs) (hk:∀ k,v.ownBlock=some k→w'.heap[k]? = w.heap[k]?):w'.ownsRow base e size v n xs:=by
 refine ⟨h.1,?_⟩
 rcases h.2 with k | ⟨g,c,cur,k1,k2,k3,k4⟩
 ·exact .inl k
 ·exact .inr ⟨g,c,cur,k1,k2,by rw [hk g (by rw [k1];rfl)];exact k3,k4⟩
theorem TS.setT {w:World} {base tb sb:Nat} {now:Int} {sv:Value} {sent:List Int} {cl ov:Bool} {S:Array Value} (h:TS w base tb sb now sv sent cl ov S) {i:Nat} {v:Value} {now':Int} {sv':Value} {sent':List Int} {cl' ov':Bool}
  (e:(#[.pointer (some ⟨sb,0,none⟩), .int .i64 now,sv, .bool cl, .bool ov]:Array Value).setIfInBounds i v=#[.pointer (some ⟨sb,0,none⟩), .int .i64 now',sv', .bool cl', .bool ov']) (ho:w.ownsRow base 5 1 sv' sent'.length (cellsOf sent')) :
  TS (w.setCell ⟨tb,i,none⟩ v) base tb sb now' sv' sent' cl' ov' S∧Rest base tb sb w (w.setCell ⟨tb,i,none⟩ v):=by
 have l:=h.lt
 refine ⟨⟨by rw [set_blk h.t,e],(set_oth h.ne i v).trans h.s,own_keep ho fun k hk=>set_oth (fun e=>by have:=(World.ownsRow.lt ho k hk).1;omega) i v,⟨l.1,l.2.1,by simpa [World.setCell] using l.2.2⟩,h.ne⟩,⟨rfl,by simp [World.setCell],fun b _ h2 _=>set_oth (Ne.symm h2) i v⟩⟩
theorem TS.setS {w:World} {base tb sb:Nat} {now:Int} {sv:Value} {sent:List Int} {cl ov:Bool} {S:Array Value} (h:TS w base tb sb now sv sent cl ov S) (i:Nat) (v:Value) :
  TS (w.setCell ⟨sb,i,none⟩ v) base tb sb now sv sent cl ov (S.setIfInBounds i v)∧Rest base tb sb w (w.setCell ⟨sb,i,none⟩ v):=by
 have l:=h.lt
 refine ⟨⟨(set_oth (Ne.symm h.ne) i v).trans h.t,set_blk h.s i v,own_keep h.own fun k hk=>set_oth (fun e=>by have:=(World.ownsRow.lt h.own k hk).1;omega) i v,⟨l.1,l.2.1,by simpa [World.setCell] using l.2.2⟩,h.ne⟩,⟨rfl,by simp [World.setCell],fun b _ _ h3=>set_oth (Ne.symm h3) i v⟩⟩
theorem TS.drew {w:World} {base tb sb:Nat} {now:Int} {sv:Value} {sent:List Int} {cl ov:Bool} {S:Array Value} (h:TS w base tb sb now sv sent cl ov S):TS w.drew base tb sb now sv sent cl ov S:=⟨h.t,h.s,h.own,h.lt,h.ne⟩
theorem Rest.drew {base tb sb:Nat} {w w':World} (h:Rest base tb sb w w'):Rest base tb sb w w'.drew:=⟨h.os,h.size,h.heap⟩
theorem send_end {w w1:World} {base tb sb:Nat} {now:Int} {sv:Value} {sent sent':List Int} {cl ov:Bool} {S:Array Value} (h:TS w base tb sb now sv sent cl ov S) {row:Option Nat} (hg:w.grownBy w1 row) (hr:∀ k,row=some k→base≤k) {v':Value} (ho:w1.ownsRow base 5 1 v' sent'.length (cellsOf sent')) (i:Nat) (u:Value) :
  TS ((w1.setCell ⟨tb,2,none⟩ v').setCell ⟨sb,i,none⟩ u).drew base tb sb now v' sent' cl ov (S.setIfInBounds i u)∧Rest base tb sb w ((w1.setCell ⟨tb,2,none⟩ v').setCell ⟨sb,i,none⟩ u).drew:=by
 obtain ⟨g1,g2,g3⟩:=h.grown (sv':=v') hg hr
 have l:=h.lt
 have ho0:w1.ownsRow base 5 1 v' sent'.length (cellsOf sent'):=ho
 have l2:=hg.size
 have hb1:w1.heap[tb]? = _:=g1.trans h.t
 have hT:TS (w1.setCell ⟨tb,2,none⟩ v') base tb sb now v' sent' cl ov S:=⟨by rw [set_blk hb1];rfl,(set_oth h.ne 2 v').trans (g2.trans h.s),own_keep ho fun k hk=>set_oth (fun e=>by have:=(World.ownsRow.lt ho k hk).1;omega) 2 v',⟨l.1,l.2.1,by simp [World.setCell];omega⟩,h.ne⟩
 have hR:Rest base tb sb w1 (w1.setCell ⟨tb,2,none⟩ v'):=⟨rfl,by simp [World.setCell],fun b _ h2 _=>set_oth (Ne.symm h2) 2 v'⟩
 have k:=hT.setS i u
 exact ⟨k.1.drew,(g3.trans (hR.trans k.2)).drew⟩
structure K2 (tb sb:Nat) (sv sv':Value) (w w':World):Prop where
 heap:∀ b,b < w.heap.size→b≠tb→b≠sb→some b≠sv.ownBlock→w'.heap[b]? = w.heap[b]?
 own:sv'.ownBlock=sv.ownBlock∨∃ k,sv'.ownBlock=some k∧w.heap.size≤k
theorem send_any2 {w:World} {base tb sb:Nat} {now:Int} {sv:Value} {sent:List Int} {cl ov:Bool} {S:Array Value} (h:TS w base tb sb now sv sent cl ov S) {u:Value} (hS:S[12]? = some u) (hu:u.oneCell'=true) {l:List Int} (hl:Bytes l) (hn:sent.length+l.length≤1000000) :
  Calls Tryz.prog 140 #[.pointer (some ⟨tb,0,none⟩), .string (strOfNums l)] w fun e w'=>(∃ v,e=.returned v)∧∃ sv',TS w' base tb sb now sv' (sent++l) cl ov (S.setIfInBounds 12 (.int .i64 now))∧Rest base tb sb w w'∧K2 tb sb sv sv' w w':=by
 have h0:=h
 obtain ⟨ht,hs,hown,⟨l1,l2,l3⟩,hne⟩:=h
 obtain ⟨i0,hi,hz0,hz1,hz2⟩:=info_u8
 have H0:Hid (TS w base tb sb now sv sent cl ov S):=h0
 have HL:Hid (Bytes l):=hl
 have HI:Hid (Tryz.prog.info? 5=some i0):=hi
 have HZ:Hid (i0.zero=some (.int .u8 0)∧i0.size=1∧i0.bytes=1):=⟨hz0,hz1,hz2⟩
 have Hn:Hid (sent.length+l.length≤140737488355328):=by show _≤_;omega
 have Hl3:Hid (base≤w.heap.size):=l3
 clear h0 hl hi hz0 hz1 hz2
 have c0:=cell_blk ht 0
 have c1:=cell_blk ht 1
 have c2:=cell_blk ht 2
 have z2:=frozen_blk ht 2
 have c12:=(cell_blk hs 12).trans hS
 have z12:=frozen_blk hs 12
 simp at c0 c1 c2
 have Hown:Hid (w.ownsRow base 5 1 sv sent.length (cellsOf sent)):=hown
 clear hown
 go_enter Tryz.func140,Tryz.ntmps140
 go_wp2_with (at_builtin;go_loud (refine wpList_append_string rfl (.tmp 9) (.tmp 10) 86 9 rfl base 5 i0 (.int .u8 0) Tryz.underlying86 Tryz.underlying9 HI.out HZ.out.1 HZ.out.2.1 HZ.out.2.2 rfl sv sent.length (cellsOf sent) rfl Hown.out l rfl HL.out Hn.out Hl3.out ?_);intro v' w1 hown1 hg1 ho1;go_loud (obtain ⟨g1,g2,g3⟩:=H0.out.grown (sv':=v') hg1 (fun k hk=>(World.ownsRow.lt Hown.out k hk).1));go_loud (have d0:=(cell_blk (g1.trans ht) 0));go_loud (have d1:=(cell_blk (g1.trans ht) 1));go_loud (have d2:=(cell_blk (g1.trans ht) 2));go_loud (have y2:=(frozen_blk (g1.trans ht) 2));go_loud (have d12:=(cell_blk (g2.trans hs) 12).trans hS);go_loud (have y12:=(frozen_blk (g2.trans hs) 12));go_loud (obtain ⟨ao,cp,rfl,hown2⟩:=own_slice hown1);go_loud (have Hown1:Hid (w1.ownsRow base 5 1 (.slice ao (sent.length+l.length) cp) (sent.length+l.length) (cellsOf sent++cellsOf l)):=hown1);clear hown1;simp at d0 d1 d2)
 go_region
 all_goals go_wp2_with fail
 have hR:=send_end (sent':=sent++l) H0.out hg1 (fun k hk=>(World.ownsRow.lt Hown.out k hk).1) (v':=.slice ao (sent.length+l.length) cp) (by rw [List.length_append,←cellsOf_append];exact Hown1.out) 12 (.int .i64 now)
 refine bodyPost_end (v:=.tuple #[]) (by simp [results,Tryz.results140,go_sem]) rfl ⟨⟨_,rfl⟩,_,hR.1,hR.2,⟨fun b h1 h2 h3 h4=>?_,ho1.imp id fun k=>⟨_,k,Nat.le_refl _⟩⟩⟩
 show (((w1.setCell _ _).setCell _ _)).heap[b]? = _
 rw [set_oth (Ne.symm h3),set_oth (Ne.symm h2)]
 exact hg1.block b h1 h4
theorem send_any {w:World} {base tb sb:Nat} {now:Int} {sv:Value} {sent:List Int} {cl ov:Bool} {S:Array Value} (h:TS w base tb sb now sv sent cl ov S) {u:Value} (hS:S[12]? = some u) (hu:u.oneCell'=true) {l:List Int} (hl:Bytes l) (hn:sent.length+l.length≤1000000) :
  Calls Tryz.prog 140 #[.pointer (some ⟨tb,0,none⟩), .string (strOfNums l)] w fun e w'=>(∃ v,e=.returned v)∧∃ sv',TS w' base tb sb now sv' (sent++l) cl ov (S.setIfInBounds 12 (.int .i64 now))∧Rest base tb sb w w' :=
 (send_any2 h hS hu hl hn).mono fun e w' ⟨h1,sv',h2,h3,_⟩=>⟨h1,sv',h2,h3⟩
end Go.Proofs.YtjnkcibpkkjniaaGreat
namespace Go.Proofs.YtjnkcibpkkjniaaGreat
open Go Go.RowKit
set_option maxHeartbeats 1600000
set_option maxRecDepth 20000
structure Pz where
 au:Int
 hold:Int
 lim:Int
 pref:Int
 wait:Int
 ia:Option Addr
 il:Nat
 ic:Nat
 ea:Option Addr
 el:Nat
 ec:Nat
def Pz.cells (p:Pz):Array Value:=#[.int .i64 p.au, .int .i64 p.hold, .int .i64 p.lim, .int .i64 p.pref, .int .i64 p.wait, .slice p.ia p.il p.ic, .slice p.ea p.el p.ec]
def sessA (au id:Int) (p:Pz) (st hold heard spoke:Int) (part:Value):Array Value :=
 #[.int .i64 au, .int .u32 id, .int .i64 p.au, .int .i64 p.hold, .int .i64 p.lim, .int .i64 p.pref, .int .i64 p.wait, .slice p.ia p.il p.ic, .slice p.ea p.el p.ec, .int .i64 st, .int .i64 hold, .int .i64 heard, .int .i64 spoke,part]
theorem new_any_sess (au id:Int) (p:Pz) (w:World) :
  Calls Tryz.prog 41 #[.int .i64 au, .int .u32 id, .agg p.cells] w fun e w'=>e=.returned (.agg (sessA au id p 0 0 0 0 (.slice none 0 0)))∧Below w.heap.size w w':=by
 obtain ⟨pa,ph,pl,pp,pw,ia,il,ic,ea,el,ec⟩:=p
 simp only [Pz.cells,sessA]
 go_enter Tryz.func41,Tryz.ntmps41
 go_wp2_with fail
 exact bodyPost_ret (v:=.agg #[.int .i64 au, .int .u32 id, .int .i64 pa, .int .i64 ph, .int .i64 pl, .int .i64 pp, .int .i64 pw, .slice ia il ic, .slice ea el ec, .int .i64 0, .int .i64 0, .int .i64 0, .int .i64 0, .slice none 0 0]) (by simp [results,Tryz.results41,go_sem]) rfl ⟨rfl,by (repeat (first | exact Below.refl _ _ | refine Below.drew ?_ | refine Below.alloc ?_ (by first | omega | (simp only [World.size_alloc,World.size_setCell,World.size_drew];omega) | simp) _ | refine Below.setCell ?_ (by first | omega | simp) _ | assumption))⟩
theorem cells14 {w:World} {b:Nat} {t:TypeId} {c0 c1 c2 c3 c4 c5 c6 c7 c8 c9 c10 c11 c12 c13:Value} (h:w.heap[b]? = some (.cells #[c0,c1,c2,c3,c4,c5,c6,c7,c8,c9,c10,c11,c12,c13] t (0,0))):w.cell? ⟨b,0,none⟩=some c0∧w.cell? ⟨b,1,none⟩=some c1∧w.cell? ⟨b,2,none⟩=some c2∧w.cell? ⟨b,3,none⟩=some c3∧w.cell? ⟨b,4,none⟩=some c4∧w.cell? ⟨b,5,none⟩=some c5∧w.cell? ⟨b,6,none⟩=some c6∧w.cell? ⟨b,7,none⟩=some c7∧w.cell? ⟨b,8,none⟩=some c8∧w.cell? ⟨b,9,none⟩=some c9∧w.cell? ⟨b,10,none⟩=some c10∧w.cell? ⟨b,11,none⟩=some c11∧w.cell? ⟨b,12,none⟩=some c12∧w.cell? ⟨b,13,none⟩=some c13∧w.frozen? ⟨b,0,none⟩=false∧w.frozen? ⟨b,1,none⟩=false∧w.frozen? ⟨b,2,none⟩=false∧w.frozen? ⟨b,3,none⟩=false∧w.frozen? ⟨b,4,none⟩=false∧w.frozen? ⟨b,5,none⟩=false∧w.frozen? ⟨b,6,none⟩=false∧w.frozen? ⟨b,7,none⟩=false∧w.frozen? ⟨b,8,none⟩=false∧w.frozen? ⟨b,9,none⟩=false∧w.frozen? ⟨b,10,none⟩=false∧w.frozen? ⟨b,11,none⟩=false∧w.frozen? ⟨b,12,none⟩=false∧w.frozen? ⟨b,13,none⟩=false :=
 ⟨cell_blk h 0,cell_blk h 1,cell_blk h 2,cell_blk h 3,cell_blk h 4,cell_blk h 5,cell_blk h 6,cell_blk h 7,cell_blk h 8,cell_blk h 9,cell_blk h 10,cell_blk h 11,cell_blk h 12,cell_blk h 13,frozen_blk h 0,frozen_blk h 1,frozen_blk h 2,frozen_blk h 3,frozen_blk h 4,frozen_blk h 5,frozen_blk h 6,frozen_blk h 7,frozen_blk h 8,frozen_blk h 9,frozen_blk h 10,frozen_blk h 11,frozen_blk h 12,frozen_blk h 13⟩
structure Set1 (b:Nat) (w w':World):Prop where
 os:w'.os=w.os
 size:w'.heap.size=w.heap.size
 oth:∀ x,x≠b→w'.heap[x]? = w.heap[x]?
theorem Set1.refl (b:Nat) (w:World):Set1 b w w:=⟨rfl,rfl,fun _ _=>rfl⟩
theorem Set1.set {b:Nat} {w w':World} (h:Set1 b w w') (i:Nat) (v:Value):Set1 b w (w'.setCell ⟨b,i,none⟩ v) :=
 ⟨h.os,by simpa [World.setCell] using h.size,fun x hx=>(set_oth (Ne.symm hx) i v).trans (h.oth x hx)⟩
theorem set14w {w:World} {b:Nat} {t:TypeId} {c0 c1 c2 c3 c4 c5 c6 c7 c8 c9 c10 c11 c12 c13:Value} (h:w.heap[b]? = some (.cells #[c0,c1,c2,c3,c4,c5,c6,c7,c8,c9,c10,c11,c12,c13] t (0,0))) (d0 d1 d2 d3 d4 d5 d6 d7 d8 d9 d10 d11 d12 d13:Value) :
  ((((((((((((((w.setCell ⟨b,0,none⟩ d0).setCell ⟨b,1,none⟩ d1).setCell ⟨b,2,none⟩ d2).setCell ⟨b,3,none⟩ d3).setCell ⟨b,4,none⟩ d4).setCell ⟨b,5,none⟩ d5).setCell ⟨b,6,none⟩ d6).setCell ⟨b,7,none⟩ d7).setCell ⟨b,8,none⟩ d8).setCell ⟨b,9,none⟩ d9).setCell ⟨b,10,none⟩ d10).setCell ⟨b,11,none⟩ d11).setCell ⟨b,12,none⟩ d12).setCell ⟨b,13,none⟩ d13).heap[b]? = some (.cells #[d0,d1,d2,d3,d4,d5,d6,d7,d8,d9,d10,d11,d12,d13] t (0,0))∧Set1 b w ((((((((((((((w.setCell ⟨b,0,none⟩ d0).setCell ⟨b,1,none⟩ d1).setCell ⟨b,2,none⟩ d2).setCell ⟨b,3,none⟩ d3).setCell ⟨b,4,none⟩ d4).setCell ⟨b,5,none⟩ d5).setCell ⟨b,6,none⟩ d6).setCell ⟨b,7,none⟩ d7).setCell ⟨b,8,none⟩ d8).setCell ⟨b,9,none⟩ d9).setCell ⟨b,10,none⟩ d10).setCell ⟨b,11,none⟩ d11).setCell ⟨b,12,none⟩ d12).setCell ⟨b,13,none⟩ d13):=by
 refine ⟨?_,((((((((((((((Set1.refl b w).set 0 d0).set 1 d1).set 2 d2).set 3 d3).set 4 d4).set 5 d5).set 6 d6).set 7 d7).set 8 d8).set 9 d9).set 10 d10).set 11 d11).set 12 d12).set 13 d13⟩
 have k0:=set_blk h 0 d0
 simp only [List.setIfInBounds_toArray,List.set_cons_zero,List.set_cons_succ] at k0
 have k1:=set_blk k0 1 d1
 simp only [List.setIfInBounds_toArray,List.set_cons_zero,List.set_cons_succ] at k1
 clear k0
 have k2:=set_blk k1 2 d2
 simp only [List.setIfInBounds_toArray,List.set_cons_zero,List.set_cons_succ] at k2
 clear k1
 have k3:=set_blk k2 3 d3
 simp only [List.setIfInBounds_toArray,List.set_cons_zero,List.set_cons_succ] at k3
 clear k2
 have k4:=set_blk k3 4 d4
 simp only [List.setIfInBounds_toArray,List.set_cons_zero,List.set_cons_succ] at k4
 clear k3
 have k5:=set_blk k4 5 d5
 simp only [List.setIfInBounds_toArray,List.set_cons_zero,List.set_cons_succ] at k5
 clear k4
 have k6:=set_blk k5 6 d6
 simp only [List.setIfInBounds_toArray,List.set_cons_zero,List.set_cons_succ] at k6
 clear k5
 have k7:=set_blk k6 7 d7
 simp only [List.setIfInBounds_toArray,List.set_cons_zero,List.set_cons_succ] at k7
 clear k6
 have k8:=set_blk k7 8 d8
 simp only [List.setIfInBounds_toArray,List.set_cons_zero,List.set_cons_succ] at k8
 clear k7
 have k9:=set_blk k8 9 d9
 simp only [List.setIfInBounds_toArray,List.set_cons_zero,List.set_cons_succ] at k9
 clear k8
 have k10:=set_blk k9 10 d10
 simp only [List.setIfInBounds_toArray,List.set_cons_zero,List.set_cons_succ] at k10
 clear k9
 have k11:=set_blk k10 11 d11
 simp only [List.setIfInBounds_toArray,List.set_cons_zero,List.set_cons_succ] at k11
 clear k10
 have k12:=set_blk k11 12 d12
 simp only [List.setIfInBounds_toArray,List.set_cons_zero,List.set_cons_succ] at k12
 clear k11
 have k13:=set_blk k12 13 d13
 simp only [List.setIfInBounds_toArray,List.set_cons_zero,List.set_cons_succ] at k13
 clear k12
 exact k13
end Go.Proofs.YtjnkcibpkkjniaaGreat
