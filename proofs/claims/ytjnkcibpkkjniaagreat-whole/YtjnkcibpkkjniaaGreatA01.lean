import Derived.Test.YtjnkcibpkkjniaaGreatA00
import Derived.Conc.Events
import Derived.Laws.Tables
set_option linter.all false
namespace Go.Proofs.YtjnkcibpkkjniaaGreat
def dg:=@if_true
def dh:=@if_false
def di:=@Array.getElem?_push
def dj:=@if_pos
def dk:=@if_neg
def dn:=@Array.getElem?_append
def dp:=@Array.getElem?_eq_some_iff
def dq:=@Array.getElem?_eq_getElem
def dr:=@Array.getElem?_setIfInBounds
def dt:=@Array.getElem?_replicate
def du:=@Array.getD_eq_getD_getElem?
def dv:=@Array.all_eq_true_iff_forall_mem
def dw:=@Array.mem_of_getElem?
def dx:=@Nat.le_refl
def dz:=@Nat.le_trans
def dA:=@Nat.lt_of_lt_of_le
def dB:=@Nat.zero_add
def dC:=@Array.getElem?_modify
def dD:=@congrArg
def dE:=@Ne.symm
def dF:=@Option.isSome_none
def dG:=@Bool.false_eq_true
def dH:=@Option.map_some
def dI:=@Array.getElem?_setIfInBounds_ne
def dJ:=@Array.ext_getElem?
def dK:=@Nat.add_assoc
def dL:=@Nat.add_comm
def dM:=@Nat.le_succ
def dN:=@Array.mem_append
def dO:=@Go.Sem.runT_eq
def dP:=@Array.mapM_eq_mapM_toList
def dQ:=@Array.getElem?_map
def dS:=@Nat.add_mul_mod_self_left
def dT:=@Nat.mul_comm
def dU:=@Nat.add_mul_div_right
def dV:=@Option.bind_eq_bind
def dW:=@Option.bind_some
def dX:=@Nat.add_mul
def dY:=@Int.ofNat_eq_natCast
def dZ:=@Bool.or_eq_true
def ed:=@decide_eq_true_eq
def ef:=@Nat.mul_le_mul_right
def eg:=@Option.map_eq_some_iff
def eh:=@Bool.and_eq_true
def ej:=@Array.forIn_toList
def ek:=@List.all_eq_true
def eo:=@Nat.zero_mul
def ep:=@Option.isSome_iff_exists
def et:=@List.map_toArray
def eu:=@List.all_cons
def eA:=@Array.empty_append
def eC:=@Prod.mk.injEq
def eD:=@Go.step_lone_ended
def eE:=@Go.Stepped.next.injEq
def eF:=@Array.mk.injEq
def eG:=@List.cons.injEq
def eH:=@Go.Goroutine.mk.injEq
def eI:=@Nat.zero_le
def eQ:=@Array.mem_iff_getElem
def eX:=@Option.some.inj
def ff:=@Array.getElem?_setIfInBounds_self_of_lt
def fj:=@Array.append_empty
def fl:=@Go.Frame.finish_at
def fo:=@Go.Frame.eval_at'
def fw:=@Go.results_tmp
def fz:=@Except.ok.injEq
def fA:=@Array.eq_empty_of_size_eq_zero
def fB:=@Option.bind_eq_some_iff
def fC:=@Nat.lt_or_ge
def fD:=@Array.getElem?_eq_none
def fI:=@List.mem_toArray
def fJ:=@List.mem_cons
def fK:=@List.not_mem_nil
def fL:=@or_false
def fZ:=@List.mem_range
def gb:=@List.mem_filter
def gd:=@List.length_filter_le
def gg:=@List.length_filter_eq_length_iff
def gh:=@Classical.byContradiction
def gi:=@Nat.mod_lt
def gj:=@List.reverse_singleton
def gl:=@List.singleton_append
def gn:=@List.mem_of_getElem?
def gx:=@List.getElem?_cons_succ
def gy:=@List.map_cons
def gz:=@Go.Sem.run_bind
def gA:=@List.size_toArray
def gB:=@List.length_cons
def gC:=@List.length_nil
def gE:=@Array.getElem?_append_left
def gG:=@Array.size_setIfInBounds
def gH:=@Array.size_map
def gK:=@List.map_congr_left
def gL:=@List.mem_append_right
def gN:=@Nat.add_zero
def gP:=@List.nodup_append
def gQ:=@List.mem_append
def gR:=@Array.getElem?_append_right
def gT:=@Array.mem_singleton
def gV:=@List.mem_append_left
def gW:=@Array.size_push
def gX:=@Array.getElem?_push_lt
def gY:=@List.take_of_length_le
def gZ:=@List.append_nil
def g8:=@Nat.not_lt_zero
def hY:=@Go.run_underlying
def ie:=@List.push_toArray
def ig:=@List.nil_append
def ij:=@List.cons_append
def ik:=@List.setIfInBounds_toArray
def iq:=@List.set_cons_succ
def iu:=@List.set_cons_zero
def iw:=@Go.IntKind.wrap_i64
def ix:=@Nat.lt_of_le_of_lt
def iy:=@List.mem_singleton
def iz:=@List.append_assoc
def iA:=@List.contains_iff_mem
def iF:=@List.length_append
def iI:=@Go.World.size_alloc
def iJ:=@Go.World.size_setCell
def iK:=@Go.World.size_drew
def iM:=@List.mem_map
def iP:=@Array.toList_append
def iQ:=@List.eq_nil_of_length_eq_zero
def iS:=@Go.Addr.add_lit
def iT:=@List.length_take
def iU:=@List.length_drop
def iV:=@List.mem_of_mem_take
def iW:=@List.mem_of_mem_drop
def iY:=@Go.bodyPost_end
def iZ:=@Go.bodyPost_ret
def je:=@List.getElem?_eq_some_iff
def jf:=@List.getElem?_eq_getElem
def jg:=@List.getElem_mem
def jj:=@List.getD_eq_getElem?_getD
def jm:=@List.getElem?_take_of_lt
def jq:=@List.getElem?_drop
def jr:=@Bool.true_eq_false
def js:=@Go.Calls.mono
def ju:=@Go.World.block_lt_of_cell?
def jw:=@Go.Result.ok.injEq
def jy:=@Go.Obj.cells.injEq
def jz:=@Go.Value.slice.injEq
def jA:=@Array.getElem?_toList
def jB:=@Classical.choose_spec
def jC:=@List.getElem?_append_left
def jD:=@List.getElem?_append_right
def jE:=@Nat.lt_succ_iff_lt_or_eq
def jF:=@Go.World.cell?_alloc_new
def jK:=@Go.World.cell?_setCell_other
def jM:=@Go.World.frozen?_setCell
def jN:=@Go.World.cell?_setCell_same
def jQ:=@of_decide_eq_true
end Go.Proofs.YtjnkcibpkkjniaaGreat
namespace Go.Proofs.YtjnkcibpkkjniaaGreat.j7
section
structure Span where
 start:Nat
 len:Nat
 elem:TypeId×Nat
structure Place where
 block:Nat
 part:Option Span
def Place.shift (p:Place):Nat:=match p.part with|none=>0|some x=>x.start
abbrev jR:=Nat→Option Place
def jR.le (ρ ρ':jR):Prop:=∀b p,ρ b=some p→ρ' b=some p
class Scope where
 ok:FuncId→Bool
 base:Nat
 cells:TypeId→Nat
 sync:Bool
 chans:TypeId→Bool
variable [Scope]
theorem jR.le_refl(ρ:jR):ρ.le ρ:=fun _ _ h=>h
theorem jR.le_trans{a b c:jR}(h:a.le b)(k:b.le c):a.le c:=fun x p hx=>k x p (h x p hx)
def AR (ρ:jR) (a a':Addr):Prop:=Scope.base≤a.block∧∃p,ρ a.block=some p∧a'.block=p.block∧a'.off=p.shift+a.off∧a'.spot=a.spot
theorem AR.mono{ρ ρ':jR}{a a':Addr}(h:AR ρ a a')(l:ρ.le ρ'):AR ρ' a a':=by
 obtain⟨b,p,d,e⟩:=h;exact⟨b,p,l _ _ d,e⟩
theorem AR.add{ρ:jR}{a a':Addr}(h:AR ρ a a')(n:Nat):AR ρ (a.add n) (a'.add n):=by
 obtain⟨b,p,d,j,k,l⟩:=h;unfold Addr.add
 by_cases e:n=0
 ·simp only[e,dg];exact⟨b,p,d,j,k,l⟩
 ·simp only[e,dh];exact⟨b,p,d,j,by simp only;omega,rfl⟩
def mM:Value→Bool
 | .func (.method _) _ _=>false
 | .pointer (some _) | .slice (some _) _ _ | .map (some _) | .chan (some _) | .func .. | .float .. | .complex ..=>true
 |_=>false
inductive VR (ρ:jR):Value→Value→Prop
 |bool (b:Bool):VR ρ (.bool b) (.bool b)
 |int (k:IntKind) (n:Int):VR ρ (.int k n) (.int k n)
 |string (s:ByteArray):VR ρ (.string s) (.string s)
 |oL:VR ρ (.pointer none) (.pointer none)
 |ptr {a a':Addr}:AR ρ a a'→VR ρ (.pointer (some a)) (.pointer (some a'))
 |lW (l c:Nat):VR ρ (.slice none l c) (.slice none l c)
 |slice {a a':Addr} (l c:Nat):AR ρ a a'→VR ρ (.slice (some a) l c) (.slice (some a') l c)
 |qk:VR ρ (.map none) (.map none)
 |map {r r':Nat}:ρ r=some ⟨r',none⟩→VR ρ (.map (some r)) (.map (some r'))
 |qG:VR ρ (.chan none) (.chan none)
 |func {f:FuncId} {xs nA ys nB:Array Value}:Scope.ok f=true→xs.size=nA.size→(∀(i:Nat) v v',xs[i]?=some v→nA[i]?=some v'→VR ρ v v')→ys.size=nB.size→(∀(i:Nat) v v',ys[i]?=some v→nB[i]?=some v'→VR ρ v v') →
   VR ρ (.func (.func f) xs ys) (.func (.func f) nA nB)
 |nilFunc:VR ρ .nilFunc .nilFunc
 |iface {t:TypeId} {v v':Value}:VR ρ v v'→VR ρ (.iface t v) (.iface t v')
 |nilIface:VR ρ .nilIface .nilIface
 |agg {xs ys:Array Value}:xs.size=ys.size→(∀(i:Nat) v v',xs[i]?=some v→ys[i]?=some v'→VR ρ v v')→VR ρ (.agg xs) (.agg ys)
 |tuple {xs ys:Array Value}:xs.size=ys.size→(∀(i:Nat) v v',xs[i]?=some v→ys[i]?=some v'→VR ρ v v')→VR ρ (.tuple xs) (.tuple ys)
 |mN {a a':Addr}:Scope.sync=true→(∃b x,ρ a.block=some ⟨b,some x⟩)→VR ρ (.slice (some a) 0 0) (.slice (some a') 0 0)
 |hole {v':Value}:Scope.sync=true→mM v'=true→VR ρ (.chan (some 1)) v'
 |oM {n:String} {xs ys:Array Value}:Scope.sync=true→VR ρ (.func (.method "") #[.iface 0 .nilFunc] #[]) (.func (.method n) xs ys)
structure jW (ρ:jR) (xs ys:Array Value):Prop where
 size:xs.size=ys.size
 get:∀(i:Nat) v v',xs[i]?=some v→ys[i]?=some v'→VR ρ v v'
theorem VR.mono{ρ ρ':jR}{v v':Value}(h:VR ρ v v')(l:ρ.le ρ'):VR ρ' v v':=by
 induction h with
 |bool b=>exact .bool b
 |int k n=>exact .int k n
 |string s=>exact .string s
 |oL=>exact .oL
 |ptr h=>exact .ptr (h.mono l)
 |lW a b=>exact .lW a b
 |slice a b h=>exact .slice a b (h.mono l)
 |qk=>exact .qk
 |map h=>exact .map (l _ _ h)
 |qG=>exact .qG
 |func m q _ u _ e j=>exact .func m q e u j
 |nilFunc=>exact .nilFunc
 |iface _ d=>exact .iface d
 |nilIface=>exact .nilIface
 |agg h _ d=>exact .agg h d
 |tuple h _ d=>exact .tuple h d
 |mN h k=>obtain⟨b,x,hp⟩:=k;exact .mN h ⟨b,x,l _ _ hp⟩
 |hole h k=>exact .hole h k
 |oM h=>exact .oM h
theorem jW.mono{ρ ρ':jR}{xs ys:Array Value}(h:jW ρ xs ys)(l:ρ.le ρ'):jW ρ' xs ys:=⟨h.size,fun i v v' a b=>(h.get i v v' a b).mono l⟩
theorem jW.agg{ρ:jR}{xs ys:Array Value}(h:jW ρ xs ys):VR ρ (.agg xs) (.agg ys):=.agg h.size h.get
theorem jW.tuple{ρ:jR}{xs ys:Array Value}(h:jW ρ xs ys):VR ρ (.tuple xs) (.tuple ys):=.tuple h.size h.get
theorem jW.func{ρ:jR}{f:FuncId}{xs nA ys nB:Array Value}(b:Scope.ok f=true)(h:jW ρ xs nA)(k:jW ρ ys nB):VR ρ (.func (.func f) xs ys) (.func (.func f) nA nB):=.func b h.size h.get k.size k.get
theorem jW.nil(ρ:jR):jW ρ #[] #[]:=⟨rfl,by simp⟩
variable {ρ:jR} {xs ys:Array Value} {v v':Value}
theorem jW.push(h:jW ρ xs ys)(k:VR ρ v v'):jW ρ (xs.push v) (ys.push v'):=by
 refine⟨by simp[h.size],fun i u d a b=>?_⟩;rw[di]at a b;split at a
 ·rename_i e;rw[dj (e.trans h.size)]at b;cases a;cases b;exact k
 ·rename_i e;rw[dk (fun j=>e (j.trans h.size.symm))]at b;exact h.get i u d a b
theorem jW.append{nA nB:Array Value}(h:jW ρ xs ys)(k:jW ρ nA nB):jW ρ (xs++nA) (ys++nB):=by
 refine⟨by simp[h.size,k.size],fun i u d a b=>?_⟩;rw[dn]at a b;rw[←h.size]at b;split at a
 ·rename_i e;rw[dj e]at b;exact h.get i u d a b
 ·rename_i e;rw[dk e]at b;exact k.get _ u d a b
variable {i:Nat}
theorem jW.at_(h:jW ρ xs ys)(e:xs[i]?=some v):∃v',ys[i]?=some v'∧VR ρ v v':=by
 have hi:i<ys.size:=by have:=(dp.1 e).1;rw[h.size]at this;exact this
 exact⟨ys[i],dq hi,h.get i v _ e (dq hi)⟩
theorem jW.tL(h:jW ρ xs ys)(e:xs[i]?=none):ys[i]?=none:=by
 rw[Array.getElem?_eq_none_iff]at e ⊢;have:=h.size;omega
theorem jW.set(h:jW ρ xs ys)(i:Nat)(k:VR ρ v v'):jW ρ (xs.setIfInBounds i v) (ys.setIfInBounds i v'):=by
 refine⟨by simp[h.size],fun j u d a b=>?_⟩;rw[dr]at a b;rw[←h.size]at b;split at a
 ·rename_i e;rw[dj e]at b;split at a
  ·rename_i l;rw[dj l]at b;cases a;cases b;exact k
  ·cases a
 ·rename_i e;rw[dk e]at b;exact h.get j u d a b
theorem jW.extract(h:jW ρ xs ys)(i j:Nat):jW ρ (xs.extract i j) (ys.extract i j):=by
 refine⟨by simp[h.size],fun n u d a b=>?_⟩;rw[Array.getElem?_extract]at a b;rw[←h.size]at b;split at a
 ·rename_i e;rw[dj e]at b;exact h.get _ u d a b
 ·cases a
theorem jW.replicate(n:Nat)(k:VR ρ v v'):jW ρ (Array.replicate n v) (Array.replicate n v'):=by
 refine⟨by simp,fun i u d a b=>?_⟩;simp only[dt]at a b;split at a
 ·rename_i e;rw[dj e]at b;cases a;cases b;exact k
 ·cases a
theorem jW.one(k:VR ρ v v'):jW ρ #[v] #[v']:=(jW.nil ρ).push k
theorem jW.getD(h:jW ρ xs ys)(i:Nat){d:Value}(hd:VR ρ d d):VR ρ (xs.getD i d) (ys.getD i d):=by
 simp only[du]
 cases e:xs[i]? with
 |none=>rw[h.tL e];exact hd
 |some v=>obtain⟨v',b,k⟩:=h.at_ e;rw[b];exact k
def clear:Nat→Value→Bool
 |_,.bool _|_,.int .. | _,.string _|_,.pointer none|_,.slice none _ _|_,.map none|_,.chan none|_,.nilFunc|_,.nilIface=>true
 |n+1,.agg xs|n+1,.tuple xs=>xs.all (clear n)
 |n+1,.iface _ v=>clear n v
 |_,_=>false
theorem yD(ρ:jR):∀(n:Nat)(v:Value),clear n v=true→VR ρ v v:=by
 intro n
 induction n with
 |zero =>
  intro v h
  cases v with
  |bool b=>exact .bool b
  |int k n=>exact .int k n
  |float k n=>simp[clear]at h
  |complex k n m=>simp[clear]at h
  |string s=>exact .string s
  |pointer a=>cases a with
   |none=>exact .oL
   |some a=>simp[clear]at h
  |slice a l c=>cases a with
   |none=>exact .lW l c
   |some a=>simp[clear]at h
  |map r=>cases r with
   |none=>exact .qk
   |some a=>simp[clear]at h
  |chan r=>cases r with
   |none=>exact .qG
   |some a=>simp[clear]at h
  |func fn a b=>simp[clear]at h
  |nilFunc=>exact .nilFunc
  |iface t v=>simp[clear]at h
  |nilIface=>exact .nilIface
  |agg xs=>simp[clear]at h
  |tuple xs=>simp[clear]at h
 |succ n d =>
  intro v h;have all:∀xs:Array Value,xs.all (clear n)=true→jW ρ xs xs:=fun xs hx=>⟨rfl,fun i v v' a b=>by
   rw[a]at b;cases b
   exact d v (dv.1 hx v (dw a))⟩
  cases v with
  |bool b=>exact .bool b
  |int k n=>exact .int k n
  |float k n=>simp[clear]at h
  |complex k n m=>simp[clear]at h
  |string s=>exact .string s
  |pointer a=>cases a with
   |none=>exact .oL
   |some a=>simp[clear]at h
  |slice a l c=>cases a with
   |none=>exact .lW l c
   |some a=>simp[clear]at h
  |map r=>cases r with
   |none=>exact .qk
   |some a=>simp[clear]at h
  |chan r=>cases r with
   |none=>exact .qG
   |some a=>simp[clear]at h
  |func fn a b=>simp[clear]at h
  |nilFunc=>exact .nilFunc
  |iface t v=>exact .iface (d v (by simpa[clear]using h))
  |nilIface=>exact .nilIface
  |agg xs=>exact(all xs (by simpa only[clear]using h)).agg
  |tuple xs=>exact(all xs (by simpa only[clear]using h)).tuple
inductive OR (ρ:jR):Obj→Obj→Prop
 |cells {c C:Array Value} {e:TypeId} {fr:Nat×Nat}:jW ρ c C→OR ρ (.cells c e fr) (.cells C e fr)
 |map {es ES:Array MapEntry} {clk:Nat}:es.size=ES.size→(∀(i:Nat) x y,es[i]?=some x→ES[i]?=some y→VR ρ x.key y.key∧VR ρ x.val y.val∧x.born=y.born)→OR ρ (.map es clk) (.map ES clk)
 |number {a a':Addr} {lost:Bool}:AR ρ a a'→OR ρ (.number a lost) (.number a' lost)
theorem OR.mono{ρ ρ':jR}{o o':Obj}(h:OR ρ o o')(l:ρ.le ρ'):OR ρ' o o':=by
 cases h with
 |cells h=>exact .cells (h.mono l)
 |map h k=>exact .map h fun i x y a b=>⟨(k i x y a b).1.mono l,(k i x y a b).2.1.mono l,(k i x y a b).2.2⟩
 |number h=>exact .number (h.mono l)
structure rY (ρ:jR) (s l:Nat) (c C:Array Value):Prop where
 size:c.size=l
 room:s+l≤C.size
 get:∀(i:Nat) v,c[i]?=some v→∃v',C[s+i]?=some v'∧VR ρ v v'
structure FG (ρ:jR) (s l:Nat) (e:TypeId) (o o':Obj):Prop where
 sync:Scope.sync=true
 start:s=0
 len:l=0
 row:∃c C fr,0<c.size∧o=.cells c e (0,c.size)∧o'=.cells C e fr∧jW ρ c C
def lR (ρ:jR) (p:Place) (o o':Obj):Prop :=
 match p.part with
 |none=>OR ρ o o'
 |some ⟨s,l,ty⟩=>FG ρ s l ty.1 o o'∨∃c C,o=.cells c ty.1 (0,0)∧o'=.cells C ty.1 (0,0)∧((Scope.sync=false∧Scope.cells ty.1 ∣ s)∧C.size=ty.2)∧rY ρ s l c C
theorem lR.mono{ρ ρ':jR}{p:Place}{o o':Obj}(h:lR ρ p o o')(l:ρ.le ρ'):lR ρ' p o o':=by
 unfold lR at *;split at h
 ·exact h.mono l
 ·rcases h with⟨k1,k2,e,c,C,fr,j,k,m,n⟩|⟨c,C,q,s,u,d⟩
  ·exact .inl ⟨k1,k2,e,c,C,fr,j,k,m,n.mono l⟩
  ·exact .inr ⟨c,C,q,s,u,d.size,d.room,fun i v x=>by obtain⟨v',a,b⟩:=d.get i v x;exact⟨v',a,b.mono l⟩⟩
structure HR (ρ:jR) (w w':World):Prop where
 obj:∀b p,ρ b=some p→∃o o',w.heap[b]?=some o∧w'.heap[p.block]?=some o'∧lR ρ p o o'
 inj:∀b b' p p',ρ b=some p→ρ b'=some p'→p.block=p'.block→b=b'
 base:Scope.base≤w.heap.size
 os:w'.os=w.os
 sync:Scope.sync=true→w.heap.size=w'.heap.size∧∀b p,ρ b=some p→p=⟨b,none⟩∨∃ty,p=⟨b,some ⟨0,0,ty⟩⟩
structure rp where
 upto:Option Nat
 off:Int
 tape:Tape
structure TA (L:rp) (w w':World):Prop where
 off:(w'.drawn:Int)=w.drawn+L.off
 tape:w.tape=L.tape
 at_:∀j q,(∀l,L.upto=some l→w'.drawn+j<l)→w'.tape (w'.drawn+j) q=w.tape (w.drawn+j) q
def Fits (L:rp) (w:World):Prop:=∀l,L.upto=some l→w.drawn≤l
def In (ρ:jR) (a:Addr):Prop:=∃b p,ρ b=some p∧p.block=a.block∧∀s l ty,p.part=some ⟨s,l,ty⟩→Scope.sync=true∨(s≤a.off∧a.off<s+l)
theorem In.mono{ρ ρ':jR}{a:Addr}(h:In ρ a)(l:ρ.le ρ'):In ρ' a:=by
 obtain⟨b,p,d,e⟩:=h;exact⟨b,p,l _ _ d,e⟩
def nj (ρ:jR) (e:Event):Prop :=
 match e.loc with
 | .cell a=>In ρ a
 | .obj r=>∃b,ρ b=some ⟨r,none⟩
 | .mark m=>m=.noRoom
 | .output=>True
 |_=>False
theorem nj.mono{ρ ρ':jR}{e:Event}(h:nj ρ e)(l:ρ.le ρ'):nj ρ' e:=by
 unfold nj at *;split at h
 ·exact h.mono l
 ·obtain⟨b,hb⟩:=h;exact⟨b,l _ _ hb⟩
 ·exact h
 ·exact h
 ·exact h
structure Grow (ρ:jR) (w:World) (ρ':jR):Prop where
 le:ρ.le ρ'
 new:∀b p,ρ' b=some p→ρ b=some p∨(p.part=none∧w.heap.size≤p.block)
theorem Grow.refl(ρ:jR)(w:World):Grow ρ w ρ:=⟨jR.le_refl ρ,fun _ _ h=>.inl h⟩
structure Kept (ρ:jR) (w w':World):Prop where
 os:w'.os=w.os
 tape:w'.tape=w.tape
 output:w'.output=w.output
 drawn:w.drawn≤w'.drawn
 size:w.heap.size≤w'.heap.size
 other:∀B,B<w.heap.size→(∀b p,ρ b=some p→p.block≠B)→w'.heap[B]?=w.heap[B]?
 part:∀b p s l ty,ρ b=some p→p.part=some ⟨s,l,ty⟩→∃C E C' fr,(Scope.sync=true∨fr=(0,0))∧w.heap[p.block]?=some (.cells C E fr)∧w'.heap[p.block]?=some (.cells C' E fr)∧C'.size=C.size∧∀(i:Nat),(i<s∨s+l≤i)→C'[i]?=C[i]?
theorem Kept.refl{wS w:World}(h:HR ρ wS w):Kept ρ w w :=
 ⟨rfl,rfl,rfl,dx _,dx _,fun _ _ _=>rfl,fun b p s l ty hb hp=>by
  obtain⟨o,o',j,d,e⟩:=h.obj b p hb;unfold lR at e;rw[hp]at e;rcases e with⟨k1,_,_,c,C,fr,_,rfl,rfl,_⟩|⟨c,C,rfl,rfl,_⟩
  ·exact⟨C,ty.1,C,fr,.inl k1,d,d,rfl,fun _ _=>rfl⟩
  ·exact⟨C,ty.1,C,(0,0),.inr rfl,d,d,rfl,fun _ _=>rfl⟩⟩
theorem Kept.trans{ρ ρ':jR}{a b c:World}(h:Kept ρ a b)(g:Grow ρ a ρ')(k:Kept ρ' b c):Kept ρ a c:=by
 refine⟨k.os.trans h.os,k.tape.trans h.tape,k.output.trans h.output,dz h.drawn k.drawn,dz h.size k.size,fun B hB j=>?_,fun x p s l ty hx hp=>?_⟩
 ·refine(k.other B (dA hB h.size) fun y q m e=>?_).trans (h.other B hB j);rcases g.new y q m with d|⟨_,d⟩
  ·exact j y q d e
  ·omega
 ·obtain⟨C,E,C',fr,n,d,u,z,A⟩:=h.part x p s l ty hx hp;obtain⟨D,F,G,jS,_,k1,k2,H,I⟩:=k.part x p s l ty (g.le _ _ hx) hp;rw[u]at k1
  cases k1
  exact⟨C,E,G,fr,n,d,k2,H.trans z,fun i hi=>(I i hi).trans (A i hi)⟩
theorem Grow.trans{ρ ρ' d:jR}{a b:World}(h:Grow ρ a ρ')(j:a.heap.size≤b.heap.size)(k:Grow ρ' b d):Grow ρ a d :=
 ⟨jR.le_trans h.le k.le,fun x p hx=>by
  rcases k.new x p hx with e|⟨e,l⟩
  ·exact h.new x p e
  ·exact .inr ⟨e,by omega⟩⟩
end
section
variable [Scope]
theorem HR.lt{ρ:jR}{w w':World}(h:HR ρ w w'){b:Nat}{p:Place}(e:ρ b=some p):b<w.heap.size∧p.block<w'.heap.size:=by
 obtain⟨o,o',d,j,_⟩:=h.obj b p e;exact⟨(dp.1 d).1,(dp.1 j).1⟩
theorem HR.cell{ρ:jR}{w w':World}(h:HR ρ w w'){a a':Addr}(A:AR ρ a a'){v:Value}(e:w.cell? a=some v):∃v',w'.cell? a'=some v'∧VR ρ v v'∧(w.frozen? a=false→w'.frozen? a'=false)∧In ρ a':=by
 obtain⟨B,p,hp,n,q,u⟩:=A;obtain⟨o,o',k1,k2,d⟩:=h.obj _ p hp;unfold World.cell? at e ⊢;unfold World.frozen?;rw[k1]at e;rw[n,k2,k1];unfold lR at d
 cases b:p.part with
 |none =>
  rw[b]at d;have j:p.shift=0:=by simp[Place.shift,b]
  cases d with
  |cells y =>
   simp only at e ⊢;split at e
   ·cases e
   ·rename_i j3;rw[u,dk j3];obtain⟨v',m,k⟩:=y.at_ e;rw[q,j,dB];exact⟨v',m,k,fun h=>h,_,p,hp,n.symm,fun s l ty hx=>by rw[b]at hx;cases hx⟩
  |map _ _=>simp at e
  |number _=>simp at e
 |some x =>
  obtain⟨s,l,ty⟩:=x;rw[b]at d;have j:p.shift=s:=by simp[Place.shift,b]
  rcases d with⟨D,rfl,rfl,c,C,fr,_,rfl,rfl,y⟩|⟨c,C,rfl,rfl,_,hr⟩
  ·simp only at e ⊢;split at e
   ·cases e
   ·rename_i j3;rw[u,dk j3];obtain⟨v',m,k⟩:=y.at_ e;rw[q,j,dB];have z:=(dp.1 e).1;exact⟨v',m,k,fun E=>by simp[z]at E,_,p,hp,n.symm,fun _ _ _ _=>.inl D⟩
  simp only at e ⊢;split at e
  ·cases e
  ·rename_i j3;rw[u,dk j3];obtain⟨v',m,k⟩:=hr.get _ _ e;rw[q,j];have z:a.off<l:=by have:=(dp.1 e).1;rw[hr.size]at this;exact this
   refine⟨v',m,k,by simp,_,p,hp,n.symm,fun s' l' pg hx=>.inr ?_⟩;rw[b]at hx;cases hx
   rw[q,j];omega
theorem uL(w:World)(a:Addr)(v:Value)(b:Nat):(w.setCell a v).heap[b]?=if b=a.block then(w.heap[b]?).map fun
  | .cells c elem frozen=>.cells (if a.spot.isSome then c else c.setIfInBounds a.off v) elem frozen
  |o=>o else w.heap[b]?:=by
 unfold World.setCell;simp only[dC]
 by_cases h:a.block=b
 ·subst h;simp only[dg];exact dD (fun f=>Option.map f _) (funext fun x=>by cases x<;>rfl)
 ·simp[h,dE h]
theorem HR.set{ρ:jR}{w w':World}(h:HR ρ w w'){a a':Addr}(N:AR ρ a a'){u v v':Value}(e:w.cell? a=some u)(k:w.frozen? a=false)(G:VR ρ v v'):HR ρ (w.setCell a v) (w'.setCell a' v')∧Kept ρ w' (w'.setCell a' v'):=by
 have H:=h.cell N e;obtain⟨T,p,hp,F,O,U⟩:=N;obtain⟨o,o',k1,k2,z⟩:=h.obj _ p hp;have j3:a.spot=none:=by
  unfold World.cell? at e;rw[k1]at e
  cases o<;>simp at e
  exact e.1
 have j:a'.spot=none:=U.trans j3;have blk:∀(b:Nat),b≠a.block→(w.setCell a v).heap[b]?=w.heap[b]?:=fun b hb=>by rw[uL,dk hb]
 have d:∀(b:Nat),b≠a'.block→(w'.setCell a' v').heap[b]?=w'.heap[b]?:=fun b hb=>by rw[uL,dk hb]
 have key:∃n n',(w.setCell a v).heap[a.block]?=some n∧(w'.setCell a' v').heap[p.block]?=some n'∧lR ρ p n n' ∧
   ∀s l ty,p.part=some ⟨s,l,ty⟩→∃C E C' fr,(Scope.sync=true∨fr=(0,0))∧w'.heap[p.block]?=some (.cells C E fr)∧(w'.setCell a' v').heap[p.block]?=some (.cells C' E fr)∧C'.size=C.size∧∀(i:Nat),(i<s∨s+l≤i)→C'[i]?=C[i]?:=by
  rw[uL,uL,dj rfl,dj F.symm,k1,k2];unfold lR at z ⊢
  cases m:p.part with
  |none =>
   rw[m]at z;have I:p.shift=0:=by simp[Place.shift,m]
   cases z with
   |cells V =>
    refine⟨_,_,rfl,rfl,?_,fun s l ty hx=>by cases hx⟩;simp only[j3,j,dF,dG,dh,O,I,dB];exact .cells (V.set _ G)
   |map a b=>exact⟨_,_,rfl,rfl,.map a b,fun s l ty hx=>by cases hx⟩
   |number a=>exact⟨_,_,rfl,rfl,.number a,fun s l ty hx=>by cases hx⟩
  |some x =>
   obtain⟨s,l,ty⟩:=x;rw[m]at z;have I:p.shift=s:=by simp[Place.shift,m]
   rcases z with⟨j1,rfl,rfl,c,C,fr,_,rfl,rfl,G⟩|⟨c,C,rfl,rfl,A,hr⟩
   ·exfalso;unfold World.cell? at e;rw[k1]at e;simp only[j3,dF,dG,dh]at e;have:=(dp.1 e).1;unfold World.frozen? at k;rw[k1]at k;simp[this]at k
   simp only[dH,j3,j,dF,dG,dh,O,I];have Q:a.off<l:=by
    unfold World.cell? at e;rw[k1]at e;simp only[j3,dF,dG,dh]at e;have:=(dp.1 e).1;rw[hr.size]at this;exact this
   refine⟨_,_,rfl,rfl,.inr ⟨_,_,rfl,rfl,⟨A.1,by simpa using A.2⟩,by simpa using hr.size,by simpa using hr.room,fun i x hx=>?_⟩,fun s' l' pg hx=>?_⟩
   ·rw[dr]at hx ⊢;have J:=hr.room;have hsz:=hr.size
    by_cases S:a.off=i
    ·subst S;rw[dj rfl,dj (by omega)]at hx;rw[dj rfl,dj (by omega)]
     cases hx
     exact⟨v',rfl,G⟩
    ·rw[dk S]at hx;rw[dk (by omega)];exact hr.get i x hx
   ·cases hx
    exact⟨C,ty.1,_,(0,0),.inr rfl,rfl,rfl,by simp,fun i hi=>by rw[dr,dk (by omega)]⟩
 obtain⟨n,n',W,X,Y,Z⟩:=key;refine⟨⟨fun b q hb=>?_,h.inj,by simpa[World.setCell]using h.base,h.os,fun e=>⟨by simpa[World.setCell]using(h.sync e).1,(h.sync e).2⟩⟩,rfl,rfl,rfl,dx _,by simp[World.setCell],fun B hB hn=>?_,fun b q s l ty hb m=>?_⟩
 ·by_cases y:b=a.block
  ·subst y;rw[hp]at hb;cases hb
   exact⟨n,n',W,X,Y⟩
  ·obtain⟨x,x',K,m2,M⟩:=h.obj b q hb;refine⟨x,x',(blk b y).trans K,(d _ fun D=>y (h.inj _ _ _ _ hb hp (D.trans F))).trans m2,M⟩
 ·exact d B fun D=>hn _ p hp (F.symm.trans D.symm)
 ·by_cases y:b=a.block
  ·subst y;rw[hp]at hb;cases hb
   exact Z s l ty m
  ·obtain⟨C,E,C',fr,m0,K,m2,M,m4⟩:=(Kept.refl h).part b q s l ty hb m;exact⟨C,E,C',fr,m0,K,(d _ fun D=>y (h.inj _ _ _ _ hb hp (D.trans F))).trans m2,M,m4⟩
def jR.with (ρ:jR) (b B:Nat):jR:=fun x=>if x=b then some ⟨B,none⟩ else ρ x
variable {ρ:jR} {w w':World} {o o':Obj}
theorem HR.push(h:HR ρ w w')(q:OR ρ o o'):HR (ρ.with w.heap.size w'.heap.size) { w with heap:=w.heap.push o } { w' with heap:=w'.heap.push o' }∧Grow ρ w' (ρ.with w.heap.size w'.heap.size)∧Kept ρ w' { w' with heap:=w'.heap.push o' }:=by
 have hle:ρ.le (ρ.with w.heap.size w'.heap.size):=fun b p hb=>by
  unfold jR.with
  rw[dk (by have:=(h.lt hb).1;omega)];exact hb
 have old:∀b p,(ρ.with w.heap.size w'.heap.size) b=some p→(b=w.heap.size∧p=⟨w'.heap.size,none⟩)∨(b≠w.heap.size∧ρ b=some p):=fun b p hb=>by
  unfold jR.with at hb;split at hb
  ·rename_i e;cases hb;exact .inl ⟨e,rfl⟩
  ·rename_i e;exact .inr ⟨e,hb⟩
 refine⟨⟨fun b p hb=>?_,fun b b' p p' hb d e=>?_,by have:=h.base;simp;omega,h.os,fun e=>⟨by simp[(h.sync e).1],fun b p hb=>by
  rcases old b p hb with⟨rfl,rfl⟩|⟨_,j⟩
  ·rw[(h.sync e).1];exact .inl rfl
  ·exact(h.sync e).2 b p j⟩⟩,⟨hle,fun b p hb=>?_⟩,rfl,rfl,rfl,dx _,by simp,fun B hB _=>by simp[di,Nat.ne_of_lt hB],fun b p s l ty hb u=>?_⟩
 ·rcases old b p hb with⟨rfl,rfl⟩|⟨_,d⟩
  ·exact⟨o,o',by simp,by simp,q.mono hle⟩
  ·obtain⟨x,y,k,m2,m⟩:=h.obj b p d;have:=h.lt d;exact⟨x,y,by simp[di,Nat.ne_of_lt this.1,k],by simp[di,Nat.ne_of_lt this.2,m2],m.mono hle⟩
 ·rcases old b p hb with⟨rfl,rfl⟩|⟨_,j⟩<;>rcases old b' p' d with⟨rfl,rfl⟩|⟨_,n⟩
  ·rfl
  ·have:=(h.lt n).2;simp only at e;omega
  ·have:=(h.lt j).2;simp only at e;omega
  ·exact h.inj _ _ _ _ j n e
 ·rcases old b p hb with⟨_,rfl⟩|⟨_,j⟩
  ·exact .inr ⟨rfl,dx _⟩
  ·exact .inl j
 ·obtain⟨C,E,C',fr,m0,k,m2,m,z⟩:=(Kept.refl h).part b p s l ty hb u;have:=(h.lt hb).2;exact⟨C,E,C',fr,m0,k,by simp[di,Nat.ne_of_lt this,m2],m,z⟩
variable {r':Nat}
theorem HR.lay(h:HR ρ w w'){r:Nat}(hr:ρ r=some ⟨r',none⟩)(q:OR ρ o o'):HR ρ { w with heap:=w.heap.setIfInBounds r o } { w' with heap:=w'.heap.setIfInBounds r' o' }∧Kept ρ w' { w' with heap:=w'.heap.setIfInBounds r' o' }:=by
 have m:=h.lt hr;refine⟨⟨fun b p hb=>?_,h.inj,by simpa using h.base,h.os,fun e=>⟨by simpa using(h.sync e).1,(h.sync e).2⟩⟩,rfl,rfl,rfl,dx _,by simp,fun B hB u=>?_,fun b p s l ty hb n=>?_⟩
 ·by_cases d:b=r
  ·subst d;rw[hr]at hb;cases hb
   exact⟨o,o',by simp[m.1],by simp[m.2],q⟩
  ·obtain⟨x,y,j,m2,k⟩:=h.obj b p hb;have ne:p.block≠r':=fun e=>d (h.inj _ _ _ _ hb hr e)
   exact⟨x,y,by simp[dI (dE d),j],by simp[dI (dE ne),m2],k⟩
 ·have ne:r'≠B:=fun e=>u _ _ hr e
  simp[dI ne]
 ·obtain⟨C,E,C',fr,m0,j,m2,k,z⟩:=(Kept.refl h).part b p s l ty hb n;have ne:p.block≠r':=fun e=>by
   have:=h.inj _ _ _ _ hb hr e;subst this;rw[hr]at hb;cases hb;cases n
  exact⟨C,E,C',fr,m0,j,by simp[dI (dE ne),m2],k,z⟩
theorem Bg(w:World)(a:Addr)(n:Nat)(o:Obj)(h:w.heap[a.block]?=some o):w.freeze a n=if n=0 then w else { w with heap:=w.heap.setIfInBounds a.block (match o with
   | .cells c elem (lo,hi)=>.cells c elem (if lo == hi then(a.off,a.off+n) else(min lo a.off,max hi (a.off+n)))
   |o=>o) }:=by
 unfold World.freeze;split
 ·rfl
 ·congr 1;apply dJ;intro j;rw[dC,dr]
  by_cases e:a.block=j
  ·subst e;have b:=(dp.1 h).1;simp only[dg,h,dH,b]
   cases o<;>rfl
  ·simp[e]
theorem HR.freeze(h:HR ρ w w'){a a':Addr}(n:Nat)(hr:ρ a.block=some ⟨r',none⟩)(hb:a'.block=r')(d:a'.off=a.off):HR ρ (w.freeze a n) (w'.freeze a' n)∧Kept ρ w' (w'.freeze a' n):=by
 obtain⟨o,o',e,m2,j⟩:=h.obj _ _ hr;rw[Bg w a n o e,Bg w' a' n o' (by rw[hb];exact m2)];split
 ·exact⟨h,.refl h⟩
 ·subst hb;refine h.lay hr ?_;have k:OR ρ o o':=j
  cases k with
  |cells l=>simp only[d];exact .cells l
  |map a b=>exact .map a b
  |number a=>exact .number a
variable {L:rp}
theorem TA.same{v v':World}(h:TA L w w')(e:v.tape=w.tape)(b:v'.tape=w'.tape)(d:v.drawn=w.drawn)(d':v'.drawn=w'.drawn):TA L v v':=by
 refine⟨by rw[d,d'];exact h.off,e.trans h.tape,fun j q=>?_⟩;rw[e,b,d,d'];exact h.at_ j q
theorem TA.draw(h:TA L w w'):TA L { w with drawn:=w.drawn+1 } { w' with drawn:=w'.drawn+1 }:=by
 refine⟨by have:=h.off;simp only;omega,h.tape,fun j q b=>?_⟩;have:=h.at_ (j+1) q (fun l d=>by have:=b l d;simp only at this;omega);simp only;rw[dK,dL 1 j,dK,dL 1 j];exact this
theorem TA.now(h:TA L w w')(b:∀l,L.upto=some l→w'.drawn<l)(q:Question):w'.tape w'.drawn q=w.tape w.drawn q:=by
 simpa using h.at_ 0 q fun l d=>by have:=b l d;omega
end
section
variable [Scope]
def ShR (p:Place) (s s':Option (TypeId×Nat)):Prop:=match p.part with
 |none=>s=s'
 |some ⟨st,l,e⟩=>(Scope.sync=true∧st=0∧∃n,s=some (e.1,n)∧s'=some (e.1,n))∨∃N,s=some (e.1,l)∧s'=some (e.1,N)∧st+l≤N∧Scope.cells e.1 ∣ st
def uM:Halt→Bool
 | .unsupported (.initOrder _)=>false
 | .unsupported _ | .stuck _=>true
 |_=>false
inductive SR (P:Program) {α β:Type} (R:jR→α→β→Prop):jR→Sem α→Sem β→Prop
 |pure {ρ:jR} {a:α} {b:β}:R ρ a b→SR P R ρ (.pure a) (.pure b)
 |load {ρ:jR} {m:Mode} {a a':Addr} {k:Value→Sem α} {k':Value→Sem β}:AR ρ a a'→(∀v v',VR ρ v v'→SR P R ρ (k v) (k' v'))→SR P R ρ (.load m a k) (.load m a' k')
 |store {ρ:jR} {m:Mode} {a a':Addr} {v v':Value} {k:Sem α} {k':Sem β}:AR ρ a a'→VR ρ v v'→SR P R ρ k k'→SR P R ρ (.store m a v k) (.store m a' v' k')
 |new {ρ:jR} {o o':Obj} {k:Nat→Sem α} {k':Nat→Sem β}:OR ρ o o'→(∀(ρ':jR) r r',ρ.le ρ'→Scope.base≤r→ρ' r=some ⟨r',none⟩→SR P R ρ' (k r) (k' r'))→SR P R ρ (.new o k) (.new o' k')
 |shape {ρ:jR} {p:Place} {r:Nat} {k:Option (TypeId×Nat)→Sem α} {k':Option (TypeId×Nat)→Sem β}:ρ r=some p→(∀s s',ShR p s s'→SR P R ρ (k s) (k' s'))→SR P R ρ (.shape r k) (.shape p.block k')
 |freeze {ρ:jR} {a a':Addr} {n:Nat} {k:Sem α} {k':Sem β}:ρ a.block=some ⟨a'.block,none⟩→a'.off=a.off→SR P R ρ k k'→SR P R ρ (.freeze a n k) (.freeze a' n k')
 |getObj {ρ:jR} {r r':Nat} {k:Obj→Sem α} {k':Obj→Sem β}:ρ r=some ⟨r',none⟩→(∀o o',OR ρ o o'→SR P R ρ (k o) (k' o'))→SR P R ρ (.getObj r k) (.getObj r' k')
 |setObj {ρ:jR} {r r':Nat} {o o':Obj} {k:Sem α} {k':Sem β}:ρ r=some ⟨r',none⟩→OR ρ o o'→SR P R ρ k k'→SR P R ρ (.setObj r o k) (.setObj r' o' k')
 |choose {ρ:jR} {q:Question} {k:Nat→Sem α} {k':Nat→Sem β}:(∀n,SR P R ρ (k n) (k' n))→SR P R ρ (.choose q k) (.choose q k')
 |program {ρ:jR} {k:Program→Sem α} {k':Program→Sem β}:SR P R ρ (k P) (k' P)→SR P R ρ (.program k) (.program k')
 |pQ {ρ:jR} {k:Program→Sem α} {y:Sem β}:SR P R ρ (k P) y→SR P R ρ (.program k) y
 |uN {ρ:jR} {k:Sem α} {y:Sem β}:SR P R ρ k y→SR P R ρ (.mark .noRoom k) y
 |sI {ρ:jR} {r:Nat} {k:Option (TypeId×Nat)→Sem α} {y:Sem β}:(∀s,SR P R ρ (k s) y)→SR P R ρ (.shape r k) y
 |tM {ρ:jR} {a:Addr} {k:Bool→Sem α} {y:Sem β}:(∀s,SR P R ρ (k s) y)→SR P R ρ (.frozen a k) y
 |env {ρ:jR} {k:SysRet→Sem α} {k':SysRet→Sem β}:(∀s,SR P R ρ (k (.strings s)) (k' (.strings s)))→SR P R ρ (.sys .env k) (.sys .env k')
 |room {ρ:jR} {k:Sem α} {k':Sem β}:SR P R ρ k k'→SR P R ρ (.mark .noRoom k) (.mark .noRoom k')
 |panic {ρ:jR} {v v':Value}:VR ρ v v'→SR P R ρ (.halt (.panic v)) (.halt (.panic v'))
 |dead {ρ:jR} {h:Halt} {y:Sem β}:uM h=true→SR P R ρ (.halt h) y
section
variable {P:Program} {α β γ δ:Type}
theorem SR.bind{R:jR→α→β→Prop}{j:jR→γ→δ→Prop}{ρ:jR}{x:Sem α}{y:Sem β}{f:α→Sem γ}{g:β→Sem δ}(h:SR P R ρ x y)(k:∀(ρ':jR) a b,ρ.le ρ'→R ρ' a b→SR P j ρ' (f a) (g b)):SR P j ρ (x >>= f) (y >>= g):=by
 show SR P j ρ (x.bind f) (y.bind g)
 induction h with
 |pure h=>exact k _ _ _ (jR.le_refl _) h
 |load h _ d=>exact .load h fun v v' u=>d v v' u k
 |store h h' _ d=>exact .store h h' (d k)
 |new h _ d=>exact .new h fun ρ' r r' q hb hr=>d ρ' r r' q hb hr fun e a b l m=>k e a b (jR.le_trans q l) m
 |shape h _ d=>exact .shape h fun s s' z=>d s s' z k
 |freeze h h' _ d=>exact .freeze h h' (d k)
 |getObj h _ d=>exact .getObj h fun o o' A=>d o o' A k
 |setObj h h' _ d=>exact .setObj h h' (d k)
 |choose _ d=>exact .choose fun n=>d n k
 |program _ d=>exact .program (d k)
 |pQ _ d=>exact .pQ (d k)
 |uN _ d=>exact .uN (d k)
 |sI _ d=>exact .sI fun s=>d s k
 |tM _ d=>exact .tM fun s=>d s k
 |env _ d=>exact .env fun s=>d s k
 |room _ d=>exact .room (d k)
 |panic h=>exact .panic h
 |dead h=>exact .dead h
theorem SR.mono{R m:jR→α→β→Prop}{ρ:jR}{x:Sem α}{y:Sem β}(h:SR P R ρ x y)(k:∀ρ' a b,ρ.le ρ'→R ρ' a b→m ρ' a b):SR P m ρ x y:=by
 induction h with
 |pure h=>exact .pure (k _ _ _ (jR.le_refl _) h)
 |load h _ d=>exact .load h fun v v' u=>d v v' u k
 |store h h' _ d=>exact .store h h' (d k)
 |new h _ d=>exact .new h fun ρ' r r' q hb hr=>d ρ' r r' q hb hr fun e a b j l=>k e a b (jR.le_trans q j) l
 |shape h _ d=>exact .shape h fun s s' z=>d s s' z k
 |freeze h h' _ d=>exact .freeze h h' (d k)
 |getObj h _ d=>exact .getObj h fun o o' A=>d o o' A k
 |setObj h h' _ d=>exact .setObj h h' (d k)
 |choose _ d=>exact .choose fun n=>d n k
 |program _ d=>exact .program (d k)
 |pQ _ d=>exact .pQ (d k)
 |uN _ d=>exact .uN (d k)
 |sI _ d=>exact .sI fun s=>d s k
 |tM _ d=>exact .tM fun s=>d s k
 |env _ d=>exact .env fun s=>d s k
 |room _ d=>exact .room (d k)
 |panic h=>exact .panic h
 |dead h=>exact .dead h
variable {ρ:jR}
theorem SR.ite{R:jR→α→β→Prop}{c:Prop}[Decidable c]{x b:Sem α}{y d:Sem β}(h:c→SR P R ρ x y)(k:¬c→SR P R ρ b d):SR P R ρ (if c then x else b) (if c then y else d):=by
 by_cases e:c
 ·rw[dj e,dj e];exact h e
 ·rw[dk e,dk e];exact k e
def _root_.Go.Result.world {α:Type}:Result α→World
 | .ok _ w | .halt _ w=>w
theorem FH(w:World):∀{α:Type}(a:Ask α),w.drawn≤(w.ask a).2.drawn:=by
 intro α a
 induction a generalizing w with
 |done a=>exact dx _
 |ask b range k d =>
  unfold World.ask;simp only;split
  ·exact d 0 w
  ·exact dz (dM _) (d _ { w with drawn:=w.drawn+1 })
theorem FI(w:World)(c:Sys):w.drawn≤(w.sys c).2.drawn:=by
 have:=FH w (Kernel.perform c w.os);unfold World.sys;split
 ·exact dx _
 ·rename_i e;rw[e]at this;exact this
theorem xq{b:Type}{x:Except b α}{f:α→Except b β}{r:β}(h:x >>= f=.ok r):∃a,x=.ok a∧f a=.ok r:=by
 cases x with
 |error e=>cases h
 |ok a=>exact⟨a,rfl,h⟩
variable {p:Program} {w:World} {a:Addr} {v:Value} {t:Bool}
theorem FJ{b:Addr}{u:TypeId}{r:World×List Addr}(h:w.viewStore p b u a v t=.ok r):r.1.drawn=w.drawn:=by
 unfold World.viewStore at h;dsimp only at h;split at h
 ·obtain⟨_,d,_⟩:=xq h
  cases d
 ·obtain⟨x,_,h⟩:=xq h;obtain⟨c,e,fr,first,jZ,cells⟩:=x;dsimp only at h;split at h
  ·split at h
   ·obtain⟨_,d,_⟩:=xq h
    cases d
   ·obtain⟨y,_,h⟩:=xq h
    cases h
    rfl
  ·cases h
variable {w':World}
theorem FK{l:List Addr}(h:w.farStore p a v t=.ok (w',l)):w'.drawn=w.drawn:=by
 unfold World.farStore at h;split at h
 ·split at h
  ·rename_i e
   cases h
   exact FJ e
  ·cases h
 ·cases h
theorem Bh(x:Sem α):∀w:World,w.drawn≤(x.run P w).world.drawn:=by
 induction x with
 |pure a=>exact fun w=>dx _
 |load m a k b =>
  intro w;simp only[Sem.run];split
  ·exact b _ w
  ·split
   ·exact b _ w
   ·exact dx _
 |store m a v k b =>
  intro w;have main:w.drawn≤(match w.cell? a with
     |some _=>if w.frozen? a then(.halt (.unsupported (.unsafePointer "a write to bytes that a string shares")) w:Result α) else k.run P (w.setCell a v)
     |none=>match w.farStore P a v (m == Mode.atomic)with
      | .ok (w,_)=>k.run P w
      | .error h=>.halt h w).world.drawn:=by
   split
   ·split
    ·exact dx _
    ·exact b (w.setCell a v)
   ·split
    ·rename_i w1 l e;rw[←FK e];exact b w1
    ·exact dx _
  cases v<;>first|exact main|exact dx _
 |new o k b=>exact fun w=>b _ { w with heap:=w.heap.push o }
 |shape r k b=>exact fun w=>b _ w
 |freeze a n k b =>
  intro w;have:(w.freeze a n).drawn=w.drawn:=by unfold World.freeze;split<;>rfl
  simp only[Sem.run];rw[←this];exact b (w.freeze a n)
 |frozen a k b=>exact fun w=>b _ w
 |getObj r k b =>
  intro w;simp only[Sem.run];split
  ·exact dx _
  ·exact b _ w
  ·exact dx _
 |setObj r o k b =>
  intro w;simp only[Sem.run];split
  ·exact dx _
  ·exact b { w with heap:=w.heap.setIfInBounds r o }
  ·exact dx _
 |choose q k b =>
  intro w;simp only[Sem.run];split
  ·exact b _ w
  ·exact dz (dM _) (b _ { w with drawn:=w.drawn+1 })
 |sys c k b=>exact fun w=>dz (FI w c) (b _ _)
 |program k b=>exact fun w=>b _ w
 |mark m k b=>exact fun w=>b w
 |halt h=>exact fun w=>dx _
def After (L:rp) (R:jR→α→β→Prop) (ρ:jR) (w':World) (lz:Array Event):Result α→Result β×Array Event→Prop
 | .ok a wS,r=>Fits L r.1.world→∃b wB new ρ',r=(.ok b wB,lz++new)∧Grow ρ w' ρ'∧R ρ' a b∧HR ρ' wS wB∧TA L wS wB∧Kept ρ w' wB∧∀e∈new,nj ρ' e
 | .halt (.panic v) wS,r=>Fits L r.1.world→∃v' wB new ρ',r=(.halt (.panic v') wB,lz++new)∧Grow ρ w' ρ'∧VR ρ' v v'∧HR ρ' wS wB∧TA L wS wB∧Kept ρ w' wB∧∀e∈new,nj ρ' e
 | .halt h _,_=>uM h=true
variable {L:rp} {v':World} {lz:Array Event}
theorem After.step{R:jR→α→β→Prop}{ρ':jR}{l:Array Event}{x:Result α}{y:Result β×Array Event}(g:Grow ρ w' ρ')(k:Kept ρ w' v')(A:∀e∈l,nj ρ' e)(h:After L R ρ' v' (lz++l) x y):After L R ρ w' lz x y:=by
 unfold After at *;split at h
 ·intro m;obtain⟨b,wB,new,d,rfl,j,n,q,s,u,z⟩:=h m;refine⟨b,wB,l++new,d,by rw[Array.append_assoc],g.trans k.size j,n,q,s,k.trans g u,fun e he=>?_⟩;rcases dN.1 he with he|he
  ·exact(A e he).mono j.le
  ·exact z e he
 ·intro m;obtain⟨b,wB,new,d,rfl,j,n,q,s,u,z⟩:=h m;refine⟨b,wB,l++new,d,by rw[Array.append_assoc],g.trans k.size j,n,q,s,k.trans g u,fun e he=>?_⟩;rcases dN.1 he with he|he
  ·exact(A e he).mono j.le
  ·exact z e he
 ·exact h
theorem After.none{R:jR→α→β→Prop}{x:Result α}{y:Result β×Array Event}(k:Kept ρ w' v')(h:After L R ρ v' lz x y):After L R ρ w' lz x y :=
 After.step (l:=#[]) (Grow.refl _ _) k (by simp) (by simpa using h)
theorem After.dead{R:jR→α→β→Prop}{wS:World}{h:Halt}{y:Result β×Array Event}(b:uM h=true):After L R ρ w' lz (.halt h wS) y:=by
 unfold After;split
 ·rename_i e;cases e
 ·rename_i e;cases e;cases b
 ·rename_i e;cases e;exact b
theorem FL(h:HR ρ w w'){r:Nat}{p:Place}(e:ρ r=some p):ShR p (w.shape? r) (w'.shape? p.block):=by
 obtain⟨o,o',k,m,b⟩:=h.obj r p e;unfold World.shape? ShR;rw[k,m];unfold lR at b
 cases j:p.part with
 |none =>
  rw[j]at b
  cases b with
  |cells d=>simp[d.size]
  |map _ _=>rfl
  |number _=>rfl
 |some x =>
  obtain⟨s,l,ty⟩:=x;rw[j]at b;rcases b with⟨n,rfl,rfl,c,C,fr,_,rfl,rfl,d⟩|⟨c,C,rfl,rfl,hd,hr⟩
  ·exact .inl ⟨n,rfl,C.size,by simp[d.size],rfl⟩
  ·exact .inr ⟨C.size,by simp[hr.size],rfl,hr.room,hd.1.2⟩
variable {a':Addr}
theorem FM(h:HR ρ w w')(e:AR ρ a a')(t:Bool)(p:Program):∃d,w.farLoad p a t=.error d∧uM d=true:=by
 obtain⟨j,q,hp,k,l,m⟩:=e;obtain⟨o,o',k1,k2,b⟩:=h.obj _ q hp;unfold World.farLoad World.noCell;rw[k1];unfold lR at b;split at b
 ·cases b<;>exact⟨_,rfl,rfl⟩
 ·rcases b with⟨_,_,_,c,C,fr,_,rfl,rfl,_⟩|⟨c,C,rfl,rfl,_⟩
  ·exact⟨_,rfl,rfl⟩
  ·exact⟨_,rfl,rfl⟩
theorem FN(h:HR ρ w w')(e:AR ρ a a')(u:Value)(t:Bool)(p:Program):∃d,w.farStore p a u t=.error d∧uM d=true:=by
 obtain⟨j,q,hp,k,l,m⟩:=e;obtain⟨o,o',k1,k2,b⟩:=h.obj _ q hp;unfold World.farStore World.noCell;rw[k1];unfold lR at b;split at b
 ·cases b<;>exact⟨_,rfl,rfl⟩
 ·rcases b with⟨_,_,_,c,C,fr,_,rfl,rfl,_⟩|⟨c,C,rfl,rfl,_⟩
  ·exact⟨_,rfl,rfl⟩
  ·exact⟨_,rfl,rfl⟩
theorem uO{R:jR→α→β→Prop}{x:Sem α}{y:Sem β}(h:SR P R ρ x y):∀(wS wB:World)(es:Array Event),HR ρ wS wB→TA L wS wB→After L R ρ wB es (x.run P wS) (y.runT P wB es):=by
 induction h with
 |pure h=>exact fun wS wB es b d _=>⟨_,_,#[],_,by simp[Sem.runT],Grow.refl _ _,h,b,d,.refl b,by simp⟩
 | @load ρ m a a' k k' D _ j =>
  intro wS wB es b d;simp only[Sem.run,Sem.runT]
  cases e:wS.cell? a with
  |none =>
   obtain⟨q,M,hd⟩:=FM b D (m == .atomic) P;simp only[M];exact After.dead hd
  |some v =>
   obtain⟨v',N,J,_,A⟩:=b.cell D e;simp only[N];exact After.step (l:=#[⟨.cell a',false,m == .atomic⟩]) (Grow.refl _ _) (.refl b) (by intro e he;simp at he;subst he;exact A) (by simpa using j v v' J wS wB _ b d)
 | @store ρ m a a' v v' k k' D J _ j =>
  intro wS wB es b d;have main:(∀x,v≠.agg x)→(∀x,v≠.tuple x)→(∀x,v'≠.agg x)→(∀x,v'≠.tuple x)→After L R ρ wB es ((Sem.store m a v k).run P wS) ((Sem.store m a' v' k').runT P wB es):=by
   intro Z n2 n3 n4;have r1:(Sem.store m a v k).run P wS=match wS.cell? a with
     |some _=>if wS.frozen? a then .halt (.unsupported (.unsafePointer "a write to bytes that a string shares")) wS else k.run P (wS.setCell a v)
     |none=>match wS.farStore P a v (m == .atomic)with
      | .ok (w,_)=>k.run P w
      | .error h=>.halt h wS:=by
    cases v<;>first|rfl|exact absurd rfl (Z _)|exact absurd rfl (n2 _)
   have r2:(Sem.store m a' v' k').runT P wB es=match wB.cell? a' with
     |some _=>if wB.frozen? a' then(.halt (.unsupported (.unsafePointer "a write to bytes that a string shares")) wB,es) else k'.runT P (wB.setCell a' v') (es.push ⟨.cell a',true,m == .atomic⟩)
     |none=>match wB.farStore P a' v' (m == .atomic)with
      | .ok (w,s)=>k'.runT P w (es++s.toArray.map (⟨.cell ·,true,m == .atomic⟩))
      | .error h=>(.halt h wB,es):=by
    cases v'<;>first|rfl|exact absurd rfl (n3 _)|exact absurd rfl (n4 _)
   rw[r1,r2]
   cases e:wS.cell? a with
   |none =>
    obtain⟨q,M,hd⟩:=FN b D v (m == .atomic) P;simp only[M];exact After.dead hd
   |some u =>
    obtain⟨u',N,_,K,A⟩:=b.cell D e
    by_cases E:wS.frozen? a=true
    ·simp only[E,dg];exact After.dead rfl
    ·have E:wS.frozen? a=false:=by simpa using E
     simp only[N,K E,E,dG,dh];obtain⟨g1,g2⟩:=b.set D e E J;refine After.step (l:=#[⟨.cell a',true,m == .atomic⟩]) (Grow.refl _ _) g2 (by intro e he;simp at he;subst he;exact A) ?_;have:=j (wS.setCell a v) (wB.setCell a' v') (es.push ⟨.cell a',true,m == .atomic⟩) g1 (d.same rfl rfl rfl rfl);simpa using this
  cases J with
  |agg _ _=>exact After.dead rfl
  |tuple _ _=>exact After.dead rfl
  |hole _ W=>exact main (by intro _ e;cases e) (by intro _ e;cases e) (by rintro x rfl;simp[mM]at W) (by rintro x rfl;simp[mM]at W)
  |_=>exact main (by intro _ e;cases e) (by intro _ e;cases e) (by intro _ e;cases e) (by intro _ e;cases e)
 |new z _ j =>
  intro wS wB es b d;obtain⟨g1,g2,g3⟩:=b.push z;simp only[Sem.run,Sem.runT];refine After.step (l:=#[]) g2 g3 (by simp) ?_;have:=j _ wS.heap.size wB.heap.size g2.le b.base (by simp[jR.with]) _ _ es g1 (d.same rfl rfl rfl rfl);simpa using this
 |shape hr _ j=>exact fun wS wB es b d=>j _ _ (FL b hr) wS wB es b d
 |freeze hr z _ j =>
  intro wS wB es b d;obtain⟨g1,g2⟩:=b.freeze _ hr rfl z;exact After.none g2 (j _ _ es g1 (d.same (by unfold World.freeze;split<;>rfl) (by unfold World.freeze;split<;>rfl) (by unfold World.freeze;split<;>rfl) (by unfold World.freeze;split<;>rfl)))
 | @getObj ρ r r' k k' hr _ j =>
  intro wS wB es b d;obtain⟨o,o',O,Q,S⟩:=b.obj _ _ hr;have T:OR ρ o o':=S;simp only[Sem.run,Sem.runT,O,Q]
  cases T with
  |cells _=>exact After.dead rfl
  | @map U ES clk F X =>
   refine After.step (l:=#[⟨.obj r',false,false⟩]) (Grow.refl _ _) (.refl b) (by intro e he;simp at he;subst he;exact⟨r,hr⟩) ?_;have:=j _ _ (OR.map (clk:=clk) F X) wS wB (es.push ⟨.obj r',false,false⟩) b d;simpa[Obj.isChan]using this
  | @number a1 a2 lost F =>
   refine After.step (l:=#[⟨.obj r',false,false⟩]) (Grow.refl _ _) (.refl b) (by intro e he;simp at he;subst he;exact⟨r,hr⟩) ?_;have:=j _ _ (OR.number (lost:=lost) F) wS wB (es.push ⟨.obj r',false,false⟩) b d;simpa[Obj.isChan]using this
 | @setObj ρ r r' o1 Y k k' hr z _ j =>
  intro wS wB es b d;obtain⟨o,o',O,Q,S⟩:=b.obj _ _ hr;have T:OR ρ o o':=S;simp only[Sem.run,Sem.runT,O,Q]
  cases T with
  |cells _=>exact After.dead rfl
  | @map U ES clk F X =>
   obtain⟨g1,g2⟩:=b.lay hr z;have V:Y.isChan=false:=by cases z<;>rfl
   refine After.step (l:=#[⟨.obj r',true,false⟩]) (Grow.refl _ _) g2 (by intro e he;simp at he;subst he;exact⟨r,hr⟩) ?_;have:=j _ _ (es.push ⟨.obj r',true,false⟩) g1 (d.same rfl rfl rfl rfl);simpa[V]using this
  | @number a1 a2 lost F =>
   obtain⟨g1,g2⟩:=b.lay hr z;have V:Y.isChan=false:=by cases z<;>rfl
   refine After.step (l:=#[⟨.obj r',true,false⟩]) (Grow.refl _ _) g2 (by intro e he;simp at he;subst he;exact⟨r,hr⟩) ?_;have:=j _ _ (es.push ⟨.obj r',true,false⟩) g1 (d.same rfl rfl rfl rfl);simpa[V]using this
 | @choose ρ q k k' _ j =>
  intro wS wB es b d;simp only[Sem.run,Sem.runT]
  by_cases K:q.forced=true
  ·simp only[K,dg];exact j 0 wS wB es b d
  ·simp only[K];have G:HR ρ { wS with drawn:=wS.drawn+1 } { wB with drawn:=wB.drawn+1 }:=⟨b.obj,b.inj,b.base,b.os,b.sync⟩;have H:TA L { wS with drawn:=wS.drawn+1 } { wB with drawn:=wB.drawn+1 }:=d.draw;have B:=Bh (P:=P) (k' (q.cut (wB.tape wB.drawn q))) { wB with drawn:=wB.drawn+1 };have I:(Sem.runT P (k' (q.cut (wB.tape wB.drawn q))) { wB with drawn:=wB.drawn+1 } es).1=Sem.run P (k' (q.cut (wB.tape wB.drawn q))) { wB with drawn:=wB.drawn+1 }:=by rw[dO]
   have key:Fits L (Sem.runT P (k' (q.cut (wB.tape wB.drawn q))) { wB with drawn:=wB.drawn+1 } es).1.world→wB.tape wB.drawn q=wS.tape wS.drawn q:=fun n=>by
    rw[I]at n;exact d.now (fun l hL=>by have:=n l hL;simp only at B;omega) q
   by_cases n:Fits L (Sem.runT P (k' (q.cut (wB.tape wB.drawn q))) { wB with drawn:=wB.drawn+1 } es).1.world
   ·rw[key n];exact After.none (w':=wB) (v':={ wB with drawn:=wB.drawn+1 }) ⟨rfl,rfl,rfl,dM _,dx _,fun _ _ _=>rfl,(Kept.refl b).part⟩ (j _ _ _ es G H)
   ·have C:=j (q.cut (wS.tape wS.drawn q)) { wS with drawn:=wS.drawn+1 } { wB with drawn:=wB.drawn+1 } es G H;unfold After at C ⊢;generalize Sem.run P (k (q.cut (wS.tape wS.drawn q))) { wS with drawn:=wS.drawn+1 }=r at C ⊢
    cases r with
    |ok a w=>exact fun hx=>absurd hx n
    |halt h w =>
     cases h with
     |panic v=>exact fun hx=>absurd hx n
     |_=>exact C
 |program _ j=>exact fun wS wB es b d=>j wS wB es b d
 |pQ _ j=>exact fun wS wB es b d=>j wS wB es b d
 |uN _ j=>exact fun wS wB es b d=>j wS wB es b d
 |sI _ j=>exact fun wS wB es b d=>j _ wS wB es b d
 |tM _ j=>exact fun wS wB es b d=>j _ wS wB es b d
 |env _ j =>
  intro wS wB es b d;have e1:wS.sys .env=(.strings wS.os.env,wS):=rfl;have e2:wB.sys .env=(.strings wS.os.env,wB):=by rw[←b.os];rfl
  simp only[Sem.run,Sem.runT,e1,e2];refine After.step (l:=#[⟨.output,true,false⟩]) (Grow.refl _ _) (.refl b) (by intro e he;simp at he;subst he;trivial) ?_;have:=j wS.os.env wS wB (es.push ⟨.output,true,false⟩) b d;simpa using this
 |room _ j =>
  intro wS wB es b d;refine After.step (l:=#[⟨.mark .noRoom,false,true⟩]) (Grow.refl _ _) (.refl b) (by intro e he;simp at he;subst he;exact rfl) ?_;have:=j wS wB (es.push ⟨.mark .noRoom,false,true⟩) b d;simpa[Sem.run,Sem.runT]using this
 |panic h=>exact fun wS wB es b d _=>⟨_,_,#[],_,by simp[Sem.runT],Grow.refl _ _,h,b,d,.refl b,by simp⟩
 |dead h=>exact fun wS wB es b d=>After.dead h
end
end
section
variable [Scope]
class ki (P:Program):Prop where
 zero:∀t i z,P.info? t=some i→i.zero=some z→clear 8 z=true
 base:P.globals.size≤Scope.base
 cells:∀t,Scope.cells t=P.cellsOf t
 align:∀t i,P.info? t=some i→i.align ∣ i.bytes
 chans:∀t d e,P.underlying t=some (.chan d e)→Scope.chans t=true
 Bi:∀i,P.info? 0=some i→i.methods.find? (·.name == "")=none
section
variable {P:Program} {α β:Type} {R:jR→α→β→Prop} {ρ:jR}
theorem j4{b:String}{y:Sem β}:SR P R ρ (stuck b) y:=.dead rfl
theorem kv{u:Unsupported}{y:Sem β}(hu:uM (.unsupported u)=true:=by rfl):SR P R ρ (unsupported u) y:=.dead hu
theorem jU{a:α}{b:β}(h:R ρ a b):SR P R ρ (Pure.pure a) (Pure.pure b):=.pure h
theorem tN{v v':Value}(h:VR ρ v v'):SR P R ρ (goPanic v) (goPanic v'):=.panic h
theorem sJ:SR P (fun _ a b=>a=P∧b=P) ρ program program:=.program (.pure ⟨rfl,rfl⟩)
theorem uP{f:Program→Sem α}{g:Program→Sem β}(h:SR P R ρ (f P) (g P)):SR P R ρ (program >>= f) (program >>= g):=SR.program h
theorem uQ(q:Question):SR P (fun _ a b=>a=b) ρ (choose q) (choose q):=.choose fun n=>.pure rfl
theorem Bj(n:Nat):SR P (fun _ _ _=>True) ρ (askRoom n) (askRoom n):=by
 unfold askRoom;split
 ·exact .room (.pure trivial)
 ·exact .pure trivial
theorem rq(t:TypeId):SR P (fun _ a b=>a=b∧P.info? t=some a) ρ (typeInfo t) (typeInfo t):=by
 unfold typeInfo;refine SR.bind sJ fun ρ' a b _ h=>?_
 obtain⟨rfl,rfl⟩:=h;split
 ·rename_i i e;exact jU ⟨rfl,e⟩
 ·exact j4
theorem lH(t:TypeId):SR P (fun _ a b=>a=b∧P.underlying t=some a) ρ (underlying t) (underlying t):=by
 unfold underlying;refine SR.bind sJ fun ρ' a b _ h=>?_
 obtain⟨rfl,rfl⟩:=h;split
 ·rename_i i e;exact jU ⟨rfl,e⟩
 ·exact j4
theorem pR(t:TypeId):SR P (fun _ a b=>a=b∧∃i,P.info? t=some i∧i.size=a) ρ (sizeOf t) (sizeOf t):=by
 unfold sizeOf;refine SR.bind (rq t) fun ρ' a b _ h=>?_
 obtain⟨rfl,h⟩:=h;exact jU ⟨rfl,a,h,rfl⟩
theorem Bl(t:TypeId):SR P (fun _ a b=>a=b) ρ (isAgg t) (isAgg t):=by
 unfold isAgg;refine SR.bind (lH t) fun ρ' a b _ h=>?_
 obtain⟨rfl,h⟩:=h
 cases a<;>exact jU rfl
theorem tO[ki P](t:TypeId):SR P (fun ρ a b=>a=b∧∀ρ',VR ρ' a a) ρ (zeroValue t) (zeroValue t):=by
 unfold zeroValue;refine SR.bind (rq t) fun ρ' a b _ h=>?_
 obtain⟨rfl,h⟩:=h;split
 ·rename_i v e;exact jU ⟨rfl,fun ρ'=>yD ρ' _ _ (ki.zero t a v h e)⟩
 ·exact kv
end
section
variable {P:Program} {ρ:jR}
variable {a a':Addr}
theorem Bm(m:Mode)(h:AR ρ a a'):SR P VR ρ (load a m) (load a' m):=.load h fun _ _ b=>.pure b
variable {v v':Value}
theorem FO(m:Mode)(h:AR ρ a a')(k:VR ρ v v'):SR P (fun _ _ _=>True) ρ (store a v m) (store a' v' m):=.store h k (.pure trivial)
theorem yE{o o':Obj}(h:OR ρ o o'):SR P (fun ρ r r'=>Scope.base≤r∧ρ r=some ⟨r',none⟩) ρ (newObj o) (newObj o'):=.new h fun _ _ _ _ hb hr=>.pure ⟨hb,hr⟩
theorem xr(e:TypeId){c C:Array Value}(h:jW ρ c C):SR P AR ρ (newRow e c) (newRow e C):=by
 unfold newRow;exact SR.bind (yE (.cells h)) fun ρ' r r' _ hr=>jU ⟨hr.1,_,hr.2,rfl,(dB _).symm,rfl⟩
theorem VR.cells{v v':Value}(h:VR ρ v v'):jW ρ v.cells v'.cells:=by
 cases h with
 |agg a b=>exact⟨a,b⟩
 |bool b=>exact jW.one (.bool b)
 |int k n=>exact jW.one (.int k n)
 |string s=>exact jW.one (.string s)
 |oL=>exact jW.one .oL
 |ptr h=>exact jW.one (.ptr h)
 |lW a b=>exact jW.one (.lW a b)
 |slice a b h=>exact jW.one (.slice a b h)
 |qk=>exact jW.one .qk
 |map h=>exact jW.one (.map h)
 |qG=>exact jW.one .qG
 |func d e j l m=>exact jW.one (.func d e j l m)
 |nilFunc=>exact jW.one .nilFunc
 |iface h=>exact jW.one (.iface h)
 |nilIface=>exact jW.one .nilIface
 |tuple a b=>exact jW.one (.tuple a b)
 |mN h k=>exact jW.one (.mN h k)
 | @hole v' h k=>cases v'<;>first|exact jW.one (.hole h k)|simp[mM]at k
 |oM h=>exact jW.one (.oM h)
theorem yF(t:TypeId)(h:VR ρ v v'):SR P AR ρ (newVar t v) (newVar t v'):=xr t h.cells
theorem Bn:∀(n:Nat){ρ:jR}{a a':Addr}(i:Nat){acc b:Array Value},AR ρ a a'→jW ρ acc b→SR P jW ρ (loadCellsFrom a i n acc) (loadCellsFrom a' i n b)
 |0,_,_,_,_,_,_,_,h=>jU h
 |n+1,ρ,a,a',i,acc,b,d,h=>by
  unfold loadCellsFrom;exact SR.bind (Bm .plain (d.add i)) fun ρ' v v' e j=>Bn n (i+1) (d.mono e) ((h.mono e).push j)
theorem yG(n:Nat)(h:AR ρ a a'):SR P jW ρ (loadCells a n) (loadCells a' n):=Bn n 0 h (jW.nil ρ)
inductive ou (ρ:jR):List Value→List Value→Prop
 |nil:ou ρ [] []
 |cons {x y:Value} {xs ys:List Value}:VR ρ x y→ou ρ xs ys→ou ρ (x::xs) (y::ys)
theorem jW.list{xs ys:Array Value}(h:jW ρ xs ys):ou ρ xs.toList ys.toList:=by
 obtain⟨xs⟩:=xs;obtain⟨ys⟩:=ys;have d:xs.length=ys.length:=by simpa using h.size
 have e:∀(i:Nat) v v',xs[i]?=some v→ys[i]?=some v'→VR ρ v v':=fun i v v' a b=>h.get i v v' (by simpa using a) (by simpa using b)
 clear h
 induction xs generalizing ys with
 |nil=>cases ys with
  |nil=>exact .nil
  |cons=>simp at d
 |cons x xs j=>cases ys with
  |nil=>simp at d
  |cons y ys=>exact .cons (e 0 _ _ rfl rfl) (j ys (by simpa using d) fun i v v' a b=>e (i+1) v v' (by simpa using a) (by simpa using b))
theorem ou.mono{ρ':jR}{xs ys:List Value}(h:ou ρ xs ys)(l:ρ.le ρ'):ou ρ' xs ys:=by
 induction h with
 |nil=>exact .nil
 |cons a _ b=>exact .cons (a.mono l) b
theorem ou.array{xs ys:List Value}(h:ou ρ xs ys):jW ρ xs.toArray ys.toArray:=by
 have:xs.length=ys.length∧∀(i:Nat) v v',xs[i]?=some v→ys[i]?=some v'→VR ρ v v':=by
  induction h with
  |nil=>exact⟨rfl,by simp⟩
  |cons a _ b =>
   refine⟨by simp[b.1],fun i v v' p q=>?_⟩
   cases i with
   |zero=>simp at p q;subst p q;exact a
   |succ i=>exact b.2 i v v' (by simpa using p) (by simpa using q)
 exact⟨by simpa using this.1,fun i v v' p q=>this.2 i v v' (by simpa using p) (by simpa using q)⟩
theorem xu:∀{vs b:List Value}{ρ:jR}{a a':Addr}(i:Nat),AR ρ a a'→ou ρ vs b→SR P (fun _ _ _=>True) ρ (storeCells a vs i) (storeCells a' b i)
 |[],_,_,_,_,_,_,h=>by cases h;exact jU trivial
 |v::vs,_,ρ,a,a',i,d,h=>by
  cases h with
  |cons j k =>
   unfold storeCells;exact SR.bind (FO .plain (d.add i) j) fun ρ' _ _ e _=>xu (i+1) (d.mono e) (ou.mono k e)
theorem Bo(t:TypeId)(h:AR ρ a a'):SR P VR ρ (loadVar t a) (loadVar t a'):=by
 unfold loadVar;refine SR.bind (Bl t) fun ρ' x y d e=>?_
 subst e
 cases x with
 |true =>
  refine SR.bind (pR t) fun j n m b e=>?_
  obtain⟨rfl,_⟩:=e;exact SR.bind (yG n ((h.mono d).mono b)) fun k c C _ l=>jU l.agg
 |false=>exact Bm .plain (h.mono d)
theorem FP(t:TypeId)(h:AR ρ a a')(k:VR ρ v v'):SR P (fun _ _ _=>True) ρ (storeVar t a v) (storeVar t a' v'):=by
 unfold storeVar;refine SR.bind (pR t) fun ρ' n m b e=>?_
 obtain⟨rfl,_⟩:=e;have d:=(k.mono b).cells;rw[←d.size];dsimp only;refine SR.ite (fun _=>?_) fun _=>xu 0 (h.mono b) d.list
 exact j4
variable {α β:Type}
theorem oe{R:jR→α→β→Prop}(e:RuntimeError)(h:match e with | .typeAssertion .. | .panicNil | .unhashable _=>False|_=>True):SR P R ρ (runtimePanic e:Sem α) (runtimePanic e:Sem β):=by
 unfold runtimePanic;refine SR.bind sJ fun ρ' a b _ q=>?_
 obtain⟨rfl,rfl⟩:=q
 cases e with
 |bounds x y s c=>exact tN (.iface (jW.agg (((jW.one (.int _ _)).push (.int _ _)).push (.bool _) |>.push (.int _ _))))
 |error m=>exact tN (.iface (.string _))
 |plain m=>exact tN (.iface (.string _))
 |nilDeref=>exact tN (.iface (.string _))
 |typeAssertion=>exact h.elim
 |panicNil=>exact h.elim
 |unhashable=>exact h.elim
theorem uR{R:jR→α→β→Prop}(k:IntKind)(x y:Int)(c:BoundsCode):SR P R ρ (boundsPanic k x y c:Sem α) (boundsPanic k x y c:Sem β):=by
 unfold boundsPanic;dsimp only;refine SR.ite (fun _=>?_) fun _=>SR.bind (R:=fun _ a b=>a=b) (jU rfl) fun ρ' a b _ e=>(by subst e;exact oe _ trivial)
 refine SR.bind (R:=fun _ a b=>a=b) ?_ fun ρ' a b _ e=>(by subst e;exact oe _ trivial)
 exact SR.bind (uQ _) fun ρ' a b _ e=>by subst e;exact jU rfl
theorem xw(h:VR ρ v v'):SR P (fun _ a b=>a=b∧v=.int a.1 a.2) ρ (asIntOf v) (asIntOf v'):=by
 cases h<;>first|exact j4|exact kv|exact jU ⟨rfl,rfl⟩
theorem vA(h:VR ρ v v'):SR P (fun _ a b=>a=b) ρ (asInt v) (asInt v'):=by
 unfold asInt;exact SR.bind (xw h) fun ρ' a b _ e=>by rw[e.1];exact jU rfl
theorem yH(h:VR ρ v v'):SR P (fun _ a b=>a=b) ρ (asBool v) (asBool v'):=by
 cases h<;>first|exact j4|exact jU rfl
theorem FT(h:VR ρ v v'):SR P jW ρ (asAgg v) (asAgg v'):=by
 cases h with
 |agg a b=>exact jU ⟨a,b⟩
 |_=>exact j4
theorem FU(h:VR ρ v v'):SR P AR ρ (asAddr v) (asAddr v'):=by
 cases h with
 |ptr h=>exact jU h
 |oL=>exact oe .nilDeref trivial
 |_=>exact j4
theorem xx(h:VR ρ v v'):SR P AR ρ (Instr.sureAddr v) (Instr.sureAddr v'):=by
 cases h with
 |ptr h=>exact jU h
 |_=>exact j4
theorem xy(t:TypeId){cs b:Array Value}(h:jW ρ cs b)(off:Nat):SR P VR ρ (part t cs off) (part t b off):=by
 unfold part;refine SR.bind (Bl t) fun ρ' x y j e=>?_
 subst e;have h':=h.mono j
 cases x with
 |true =>
  refine SR.bind (pR t) fun l n m d e=>?_
  obtain⟨rfl,_⟩:=e;exact jU ((h'.mono d).extract _ _).agg
 |false =>
  simp only[dG,dh]
  cases e:cs[off]? with
  |none=>exact j4
  |some v =>
   obtain⟨v',q,k⟩:=h'.at_ e;simp only[q];exact jU k
end
end
section
variable [Scope]
section
variable {P:Program} {ρ:jR}
theorem FV[ki P](e:TypeId):SR P VR ρ (Instr.alloc e true (.tuple #[])) (Instr.alloc e true (.tuple #[])):=by
 unfold Instr.alloc;refine SR.bind (tO e) fun ρ' z j _ h=>?_
 obtain⟨rfl,h⟩:=h;exact SR.bind (yF e (h ρ')) fun b a a' _ d=>jU (.ptr d)
variable {v v':Value}
theorem FW(e:TypeId)(h:VR ρ v v'):SR P VR ρ (Instr.box e v) (Instr.box e v'):=by
 unfold Instr.box;exact SR.bind (yF e h) fun b a a' _ d=>jU (.ptr d)
theorem FX(t:TypeId)(h:VR ρ v v'):SR P VR ρ (Instr.loadAt t v) (Instr.loadAt t v'):=by
 unfold Instr.loadAt;exact SR.bind (xx h) fun ρ' a a' _ b=>Bo t b
theorem FY(t:TypeId){u b:Value}(h:VR ρ v v')(k:VR ρ u b):SR P (fun _ _ _=>True) ρ (Instr.storeAt t v u) (Instr.storeAt t v' b):=by
 unfold Instr.storeAt;exact SR.bind (xx h) fun ρ' a a' d e=>FP t e (k.mono d)
inductive rr (ρ:jR):List (Nat×Value)→List (Nat×Value)→Prop
 |nil:rr ρ [] []
 |cons {i:Nat} {x y:Value} {xs ys:List (Nat×Value)}:VR ρ x y→rr ρ xs ys→rr ρ ((i,x)::xs) ((i,y)::ys)
theorem rr.mono{ρ':jR}{xs ys:List (Nat×Value)}(h:rr ρ xs ys)(l:ρ.le ρ'):rr ρ' xs ys:=by
 induction h with
 |nil=>exact .nil
 |cons a _ b=>exact .cons (a.mono l) b
theorem FZ(off:Nat){l l':List Value}(h:ou ρ l l'):∀(j:Nat){cs b:Array Value},jW ρ cs b →
  jW ρ ((l.zipIdx j).foldl (fun cs (x:Value×Nat)=>cs.setIfInBounds (off+x.2) x.1) cs) ((l'.zipIdx j).foldl (fun cs (x:Value×Nat)=>cs.setIfInBounds (off+x.2) x.1) b):=by
 induction h with
 |nil=>exact fun j cs b h=>h
 |cons a _ d=>exact fun j cs b h=>by simp only[List.zipIdx_cons,List.foldl_cons];exact d (j+1) (h.set _ a)
theorem yI(place:Nat→Option (Nat×Nat)){ps rZ:List (Nat×Value)}(h:rr ρ ps rZ):∀{cs b:Array Value},jW ρ cs b →
  (∃x y,Instr.fill place cs ps=some x∧Instr.fill place b rZ=some y∧jW ρ x y)∨(Instr.fill place cs ps=none∧Instr.fill place b rZ=none):=by
 induction h with
 |nil=>exact fun h=>.inl ⟨_,_,rfl,rfl,h⟩
 | @cons i x y xs ys a _ e =>
  intro cs b d;simp only[Instr.fill]
  cases place i with
  |none=>exact .inr ⟨rfl,rfl⟩
  |some p =>
   obtain⟨off,size⟩:=p;have j:=a.cells.size;simp only[←j,←d.size];split
   ·exact .inr ⟨rfl,rfl⟩
   ·have:=FZ off a.cells.list 0 d;simp only[←Array.toList_zipIdx,Array.foldl_toList]at this;exact e this
theorem Bp{α β:Type}(f:α→Sem β)(d:∀ρ x,SR P (fun _ a b=>a=b) ρ (f x) (f x)):∀(l:List α)(ρ:jR),SR P (fun _ a b=>a=b) ρ (l.mapM f) (l.mapM f)
 |[],ρ=>by simp only[List.mapM_nil];exact jU rfl
 |x::l,ρ=>by
  simp only[List.mapM_cons];refine SR.bind (d ρ x) fun ρ' a b _ e=>?_
  subst e;exact SR.bind (Bp f d l ρ') fun h a b _ e=>by subst e;exact jU rfl
theorem F0{α β:Type}(f:α→Sem β)(d:∀ρ x,SR P (fun _ a b=>a=b) ρ (f x) (f x))(as:Array α)(ρ:jR):SR P (fun _ a b=>a=b) ρ (as.mapM f) (as.mapM f):=by
 rw[dP];exact SR.bind (Bp f d as.toList ρ) fun ρ' a b _ e=>by subst e;exact jU rfl
variable {ps rZ:Array (Nat×Value)}
theorem F1[ki P](t:TypeId)(h:rr ρ ps.toList rZ.toList):SR P VR ρ (Instr.build t ps) (Instr.build t rZ):=by
 unfold Instr.build;refine SR.bind (tO t) fun B z F C m=>?_
 obtain⟨rfl,m⟩:=m;refine SR.bind (lH t) fun q d d' D e=>?_
 obtain⟨rfl,_⟩:=e;have A:=(h.mono C).mono D
 cases d with
 |struct fields =>
  refine SR.bind (F0 _ (fun ρ f=>SR.bind (pR f.type) fun ρ' a b _ e=>by obtain⟨rfl,_⟩:=e;exact jU rfl) fields q) fun j pl ru s e=>?_
  subst e;rcases yI (pl[·]?) (A.mono s) (m j).cells with⟨x,y,k,l,u⟩|⟨k,l⟩
  ·simp only[k,l];exact jU u.agg
  ·simp only[k,l];exact j4
 |array n elem =>
  refine SR.bind (pR elem) fun j sz E s e=>?_
  obtain⟨rfl,_⟩:=e;rcases yI (fun i=>some (i*sz,sz)) (A.mono s) (m j).cells with⟨x,y,k,l,u⟩|⟨k,l⟩
  ·simp only[k,l];exact jU u.agg
  ·simp only[k,l];exact j4
 |_=>exact j4
theorem jW.yJ{z j:Array Value}(h:jW ρ z j)(n:Nat)(d:VR ρ default default):jW ρ ((Array.range n).map fun i=>z[i % z.size]!) ((Array.range n).map fun i=>j[i % j.size]!):=by
 refine⟨by simp,fun i v v' a b=>?_⟩;simp only[dQ,Array.getElem?_range]at a b
 by_cases hi:i<n
 ·simp only[hi,dg,dH,dR]at a b;subst a;subst b;rw[h.size];simp only[getElem!_def]
  cases e:z[i % j.size]? with
  |none=>rw[h.tL e];exact d
  |some v=>obtain⟨v',l,k⟩:=h.at_ e;rw[l];exact k
 ·simp[hi]at a
theorem yK:VR ρ (default:Value) default:=yD ρ 1 _ (by decide)
theorem F2[ki P](t:TypeId)(len:Nat)(h:rr ρ ps.toList rZ.toList):SR P VR ρ (Instr.buildSlice t len ps) (Instr.buildSlice t len rZ):=by
 unfold Instr.buildSlice;refine SR.bind (lH t) fun u d d' A e=>?_
 obtain⟨rfl,_⟩:=e
 cases d with
 |slice elem =>
  refine SR.bind (pR elem) fun j sz B C e=>?_
  obtain⟨rfl,_⟩:=e;dsimp only;refine SR.ite (fun _=>kv) fun _=>?_
  have fin:∀(b:jR) z k,j.le b→jW b z k→SR P VR b (match Instr.fill (fun i=>some (i*sz,sz)) ((Array.range (len*sz)).map fun x=>z[x % z.size]!) ps.toList with
    |some cells=>do pure (.slice (some (←newRow elem cells)) len len)
    |x=>stuck "buildSlice: a part of the wrong size") (match Instr.fill (fun i=>some (i*sz,sz)) ((Array.range (len*sz)).map fun x=>k[x % k.size]!) rZ.toList with
    |some cells=>do pure (.slice (some (←newRow elem cells)) len len)
    |x=>stuck "buildSlice: a part of the wrong size"):=fun b z k m l=>by
   rcases yI (fun i=>some (i*sz,sz)) (((h.mono A).mono C).mono m) (l.yJ (len*sz) yK)with⟨x,y,n,q,D⟩|⟨n,q⟩
   ·simp only[n,q];exact SR.bind (xr elem D) fun E a a' _ F=>jU (.slice _ _ F)
   ·simp only[n,q];exact j4
  by_cases s:len*sz=0
  ·simp only[s,dg];have:=fin j #[] #[] (jR.le_refl _) (jW.nil _);simp only[s]at this;exact this
  ·simp only[s,dh];refine SR.bind (tO elem) fun b z k m l=>?_
   obtain⟨rfl,l⟩:=l;exact fin b _ _ m (l b).cells
 |_=>exact j4
def yL (P:Program) (s:TypeId) (f:Nat):Bool :=
 match P.underlying s with
 |some (.struct fields)=>match fields[f]? with
  |some x=>match P.info? x.type with
   |some i=>i.size != 0
   |none=>true
  |none=>true
 |_=>true
theorem F3(s:TypeId)(f:Nat)(j:yL P s f=true)(h:VR ρ v v'):SR P VR ρ (Instr.fieldAt s v f) (Instr.fieldAt s v' f):=by
 unfold Instr.fieldAt;refine SR.bind (lH s) fun l d d' m e=>?_
 obtain⟨rfl,q⟩:=e
 cases d with
 |struct fields =>
  simp only
  cases u:fields[f]? with
  |none=>exact j4
  |some x =>
   refine SR.bind (xx (h.mono m)) fun y a a' C z=>?_
   refine SR.bind (R:=AR) ?_ fun k b b' _ hb=>jU (.ptr hb)
   unfold fieldPlace;refine SR.bind (pR x.type) fun k n n' A e=>?_
   obtain⟨rfl,i,hi,B⟩:=e;have:n≠0:=by
    unfold yL at j;rw[q]at j;simp only[u,hi]at j;simpa[B]using j
   rw[dk this,dk this];exact jU ((z.mono A).add _)
 |_=>exact j4
theorem F4(t:TypeId){i i':Value}(h:VR ρ v v')(k:VR ρ i i'):SR P VR ρ (Instr.indexAt t v i) (Instr.indexAt t v' i'):=by
 unfold Instr.indexAt;refine SR.bind (xw k) fun z x G A e=>?_
 obtain⟨rfl,_⟩:=e;obtain⟨kk,n⟩:=x;refine SR.bind (lH t) fun q d d' B e=>?_
 obtain⟨rfl,_⟩:=e;have y:=(h.mono A).mono B;have fin:∀(j:jR)(b b':Option Addr)(len:Nat)(elem:TypeId),(b=none∧b'=none∨(∃a a',b=some a∧b'=some a'∧AR j a a')∨(∃a a',b=some a∧b'=some a'∧len=0))→SR P VR j
   (do
    let m:=len≤1&&(match ←underlying t with | .array ..=>true|_=>false)
    match b with
    |some a =>
     if 0≤n∧n<len then pure (.pointer (some (a.add (n.toNat*(←sizeOf elem)))))
     else if m then unsupported (.noEntry "op/indexAddr.an index out of range at an array of length 0 or 1 (ledger 616)")
     else boundsPanic kk n len .index
    |none=>boundsPanic kk n 0 .index)
   (do
    let m:=len≤1&&(match ←underlying t with | .array ..=>true|_=>false)
    match b' with
    |some a =>
     if 0≤n∧n<len then pure (.pointer (some (a.add (n.toNat*(←sizeOf elem)))))
     else if m then unsupported (.noEntry "op/indexAddr.an index out of range at an array of length 0 or 1 (ledger 616)")
     else boundsPanic kk n len .index
    |none=>boundsPanic kk n 0 .index):=by
  intro j b b' len elem hb;refine SR.bind (lH t) fun C d d' D e=>?_
  obtain⟨rfl,_⟩:=e;dsimp only;rcases hb with⟨rfl,rfl⟩|⟨a,a',rfl,rfl,u⟩|⟨a,a',rfl,rfl,rfl⟩
  ·exact uR _ _ _ _
  rotate_left
  ·refine SR.ite (fun h=>by omega) fun _=>SR.ite (fun _=>kv) fun _=>uR _ _ _ _
  ·refine SR.ite (fun _=>?_) fun _=>SR.ite (fun _=>kv) fun _=>uR _ _ _ _
   refine SR.bind (pR elem) fun E s s' F e=>?_
   obtain⟨rfl,_⟩:=e;exact jU (.ptr (((u.mono D).mono F).add _))
 cases d with
 |array len elem =>
  dsimp only;refine SR.bind (xx y) fun j a a' H u=>?_
  exact fin j (some a) (some a') len elem (.inr (.inl ⟨a,a',rfl,rfl,u⟩))
 |slice elem =>
  cases y with
  |lW l c=>exact fin q none none l elem (.inl ⟨rfl,rfl⟩)
  |slice l c u=>exact fin q (some _) (some _) l elem (.inr (.inl ⟨_,_,rfl,rfl,u⟩))
  |mN h k=>exact fin q (some _) (some _) 0 elem (.inr (.inr ⟨_,_,rfl,rfl,rfl⟩))
  |_=>exact j4
 |_=>cases y<;>exact j4
end
end
section
variable [Scope]
inductive oN (ρ:jR):Option Value→Option Value→Prop
 |none:oN ρ none none
 |some {v v':Value}:VR ρ v v'→oN ρ (some v) (some v')
theorem oN.mono{ρ ρ':jR}{x y:Option Value}(h:oN ρ x y)(l:ρ.le ρ'):oN ρ' x y:=by
 cases h with
 |none=>exact .none
 |some h=>exact .some (h.mono l)
section
variable {P:Program} {ρ:jR}
variable {v v':Value}
theorem xz(h:VR ρ v v')(y:Nat)(c:BoundsCode):SR P (fun _ a b=>a=b∧a≤y) ρ (Instr.sliceBound v y c) (Instr.sliceBound v' y c):=by
 unfold Instr.sliceBound;refine SR.bind (xw h) fun d x j l e=>?_
 obtain⟨rfl,_⟩:=e;obtain⟨k,i⟩:=x;exact SR.ite (fun hi=>jU ⟨rfl,by omega⟩) fun _=>uR _ _ _ _
variable {lo sK hi tP mx sL:Option Value}
theorem Bq(q:Bool)(len cap:Nat)(D:oN ρ lo sK)(A:oN ρ hi tP)(E:oN ρ mx sL):SR P (fun _ a b=>a=b∧(cap=0→len=0→a=(0,0,0))) ρ (Instr.sliceBounds q len cap lo hi mx) (Instr.sliceBounds q len cap sK tP sL):=by
 have L:∀(ρ':jR)(m h:Nat)(c:BoundsCode),ρ.le ρ'→(cap=0→len=0→m=0∧h=0)→SR P (fun _ a b=>a=b∧(cap=0→len=0→a=(0,0,0))) ρ' (match(generalizing:=false) lo with
   |some v=>do let l ←Instr.sliceBound v h c;pure (l,h,m)
   |none=>do let l ←pure 0;pure (l,h,m)) (match(generalizing:=false) sK with
   |some v=>do let l ←Instr.sliceBound v h c;pure (l,h,m)
   |none=>do let l ←pure 0;pure (l,h,m)):=by
  intro ρ' m h c F y
  cases D with
  |none =>
   refine SR.bind (R:=fun _ a b=>a=b∧a=0) (jU ⟨rfl,rfl⟩) fun _ a b _ e=>?_
   obtain⟨rfl,rfl⟩:=e;exact jU ⟨rfl,fun j k=>by rw[(y j k).1,(y j k).2]⟩
  |some s =>
   refine SR.bind (xz (s.mono F) _ _) fun _ a b _ e=>?_
   obtain⟨rfl,e⟩:=e;exact jU ⟨rfl,fun j k=>by
    have B:=y j k;have:a=0:=by omega
    rw[B.1,B.2,this]⟩
 unfold Instr.sliceBounds;dsimp only
 cases E with
 |none =>
  refine SR.bind (R:=fun _ a b=>a=b∧a=cap) (jU ⟨rfl,rfl⟩) fun z m G n e=>?_
  obtain⟨rfl,rfl⟩:=e
  cases A with
  |none =>
   refine SR.bind (R:=fun _ a b=>a=b∧a=len) (jU ⟨rfl,rfl⟩) fun d x C u e=>?_
   obtain⟨rfl,rfl⟩:=e;exact L d _ _ _ (jR.le_trans n u) fun j k=>⟨j,k⟩
  |some s =>
   refine SR.bind (xz (s.mono n) _ _) fun d x C u e=>?_
   obtain⟨rfl,e⟩:=e;exact L d _ _ _ (jR.le_trans n u) fun j k=>⟨j,by omega⟩
 |some hm =>
  refine SR.bind (xz hm _ _) fun z m G n e=>?_
  obtain⟨rfl,em⟩:=e
  cases A with
  |none=>exact j4
  |some s =>
   refine SR.bind (xz (s.mono n) _ _) fun d x C u e=>?_
   obtain⟨rfl,e⟩:=e;exact L d _ _ _ (jR.le_trans n u) fun j k=>⟨by omega,by omega⟩
def vB (P:Program) (t:TypeId):Bool :=
 match P.underlying t with
 |some .string|some (.slice _)=>true
 |_=>false
theorem F5(t:TypeId)(u:vB P t=true)(h:VR ρ v v')(E:oN ρ lo sK)(F:oN ρ hi tP)(A:oN ρ mx sL):SR P VR ρ (Instr.slice t v lo hi mx) (Instr.slice t v' sK tP sL):=by
 unfold Instr.slice;refine SR.bind (lH t) fun j d d' q e=>?_
 obtain⟨rfl,G⟩:=e;unfold vB at u;rw[G]at u;have g1:=E.mono q;have g2:=F.mono q;have H:=A.mono q;have B:=h.mono q
 cases d with
 |string =>
  cases B with
  |string s =>
   have em:mx.isSome=sL.isSome:=by cases A<;>rfl
   dsimp only;rw[←em];refine SR.ite (fun _=>j4) fun _=>?_
   refine SR.bind (Bq false s.size s.size g1 g2 .none) fun y x I _ e=>?_
   obtain⟨rfl,_⟩:=e;exact jU (.string _)
  |_=>exact j4
 |slice elem =>
  have fin:∀(a a':Option Addr)(len cap:Nat),(a=none∧a'=none∨(∃b b',a=some b∧a'=some b'∧AR j b b')∨(len=0∧cap=0∧VR j (.slice a 0 0) (.slice a' 0 0)))→SR P VR j
    (do
     let (l,h,m) ←Instr.sliceBounds true len cap lo hi mx
     let size ←sizeOf elem
     pure (.slice (if m=l then a else a.map (·.add (l*size))) (h-l) (m-l)))
    (do
     let (l,h,m) ←Instr.sliceBounds true len cap sK tP sL
     let size ←sizeOf elem
     pure (.slice (if m=l then a' else a'.map (·.add (l*size))) (h-l) (m-l))):=by
   intro a a' len cap z;refine SR.bind (Bq true len cap g1 g2 H) fun y x I C e=>?_
   obtain⟨rfl,J⟩:=e;obtain⟨l,S,m⟩:=x;refine SR.bind (pR elem) fun K s s' D e=>?_
   obtain⟨rfl,_⟩:=e;rcases z with⟨rfl,rfl⟩|⟨b,b',rfl,rfl,hb⟩|⟨M,N,O⟩
   rotate_left 2
   ·cases J N M
    exact jU ((O.mono C).mono D)
   ·simp only[Option.map_none,ite_self];exact jU (.lW _ _)
   ·have n:=(hb.mono C).mono D
    by_cases e:m=l
    ·simp only[e,dg];exact jU (.slice _ _ n)
    ·simp only[e,dh,dH];exact jU (.slice _ _ (n.add _))
  cases B with
  |lW l c=>exact fin none none l c (.inl ⟨rfl,rfl⟩)
  |slice l c z=>exact fin (some _) (some _) l c (.inr (.inl ⟨_,_,rfl,rfl,z⟩))
  |mN Q k=>exact fin (some _) (some _) 0 0 (.inr (.inr ⟨rfl,rfl,.mN Q k⟩))
  |_=>exact j4
 |_=>simp at u
theorem F6(t:TypeId)(b:vB P t=true)(h:VR ρ v v')(l:oN ρ lo sK)(m:oN ρ hi tP)(n:oN ρ mx sL):SR P VR ρ (Instr.sliceAt t v lo hi mx) (Instr.sliceAt t v' sK tP sL):=by
 unfold Instr.sliceAt;refine SR.bind (lH t) fun q d d' j e=>?_
 obtain⟨rfl,s⟩:=e;have k:=F5 t b (h.mono j) (l.mono j) (m.mono j) (n.mono j);unfold vB at b;rw[s]at b
 cases d with
 |string=>exact k
 |slice elem=>exact k
 |_=>simp at b
theorem F7(t:TypeId)(h:VR ρ v v')(f:Nat):SR P VR ρ (Instr.field t v f) (Instr.field t v' f):=by
 unfold Instr.field;refine SR.bind (lH t) fun b d d' j e=>?_
 obtain⟨rfl,m⟩:=e
 cases d with
 |struct fields =>
  simp only
  cases fields[f]? with
  |none=>exact j4
  |some x=>exact SR.bind (FT (h.mono j)) fun k c c' _ l=>xy _ l _
 |_=>exact j4
theorem F8(t:TypeId){i i':Value}(h:VR ρ v v')(k:VR ρ i i'):SR P VR ρ (Instr.index t v i) (Instr.index t v' i'):=by
 unfold Instr.index;refine SR.bind (xw k) fun l x A m e=>?_
 obtain⟨rfl,_⟩:=e;obtain⟨kk,n⟩:=x;refine SR.bind (lH t) fun q d d' u e=>?_
 obtain⟨rfl,_⟩:=e;have j:=(h.mono m).mono u
 cases d with
 |array len elem =>
  cases j with
  |agg a b =>
   dsimp only;refine SR.ite (fun _=>?_) fun _=>uR _ _ _ _
   refine SR.bind (pR elem) fun y s s' z e=>?_
   obtain⟨rfl,_⟩:=e;exact xy _ ((jW.mk a b).mono z) _
  |_=>exact j4
 |string =>
  cases j with
  |string s =>
   dsimp only;split
   ·exact jU (.int _ _)
   ·exact uR _ _ _ _
  |_=>exact j4
 |_=>cases j<;>exact j4
theorem F9[ki P](t:TypeId){u A:Value}(h:VR ρ v v')(k:VR ρ u A):SR P VR ρ (Instr.makeSlice t v u) (Instr.makeSlice t v' A):=by
 unfold Instr.makeSlice;refine SR.bind (lH t) fun C d d' B e=>?_
 obtain⟨rfl,_⟩:=e
 cases d with
 |slice elem =>
  refine SR.bind (vA (h.mono B)) fun D n n' E e=>?_
  subst e;refine SR.bind (vA ((k.mono B).mono E)) fun F c c' J e=>?_
  subst e;refine SR.bind (rq elem) fun G i i' K e=>?_
  obtain⟨rfl,_⟩:=e;dsimp only;have fin:∀(j:jR)(c' l':Int),SR P VR j (do
     askRoom (c'.toNat*i.bytes)
     let n:=c'.toNat*(←sizeOf elem)
     let zero ←if n=0 then pure #[] else do pure (←zeroValue elem).cells
     let a ←newRow elem ((Array.range n).map (zero[· % zero.size]!))
     pure (.slice (some a) l'.toNat c'.toNat)) (do
     askRoom (c'.toNat*i.bytes)
     let n:=c'.toNat*(←sizeOf elem)
     let zero ←if n=0 then pure #[] else do pure (←zeroValue elem).cells
     let a ←newRow elem ((Array.range n).map (zero[· % zero.size]!))
     pure (.slice (some a) l'.toNat c'.toNat)):=by
   intro j c' l';refine SR.bind (Bj _) fun q _ _ _ _=>?_
   refine SR.bind (pR elem) fun y s s' _ e=>?_
   obtain⟨rfl,_⟩:=e;dsimp only;have last:∀(b:jR) z l,jW b z l→SR P VR b (do
     let a ←newRow elem ((Array.range (c'.toNat*s)).map (z[· % z.size]!))
     pure (.slice (some a) l'.toNat c'.toNat)) (do
     let a ←newRow elem ((Array.range (c'.toNat*s)).map (l[· % l.size]!))
     pure (.slice (some a) l'.toNat c'.toNat)):=fun b z l m =>
    SR.bind (xr elem (m.yJ _ yK)) fun H a a' _ I=>jU (.slice _ _ I)
   by_cases e:c'.toNat*s=0
   ·simp only[e,dg];have:=last y #[] #[] (jW.nil _);rw[e]at this;exact this
   ·simp only[e,dh];refine SR.bind (tO elem) fun b z l _ m=>?_
    obtain⟨rfl,m⟩:=m;exact last b _ _ (m b).cells
  refine SR.ite (fun _=>?_) fun _=>fin _ _ _
  refine SR.ite (fun _=>?_) fun _=>SR.ite (fun _=>?_) fun _=>?_
  ·exact oe (.error _) trivial
  ·exact oe (.error _) trivial
  ·refine SR.bind (uQ _) fun q x M _ e=>?_
   subst e;exact oe (.error _) trivial
 |_=>exact j4
theorem Ga(t:TypeId)(h:VR ρ v v'):SR P VR ρ (Instr.makeInterface t v) (Instr.makeInterface t v'):=by
 unfold Instr.makeInterface;refine SR.bind (lH t) fun b d d' j e=>?_
 obtain⟨rfl,_⟩:=e
 cases d with
 |interface m=>exact j4
 |_=>exact jU (.iface (h.mono j))
theorem Gb(h:VR ρ v v')(i:Nat):SR P VR ρ (Instr.extract v i) (Instr.extract v' i):=by
 unfold Instr.extract
 cases h with
 | @tuple xs ys a b =>
  simp only
  cases e:xs[i]? with
  |none=>exact j4
  |some v =>
   obtain⟨v',d,k⟩:=(jW.mk a b).at_ e;simp only[d];exact jU k
 |_=>exact j4
theorem Gc(h:VR ρ v v')(b:v≠.nilIface):SR P VR ρ (Instr.panic v) (Instr.panic v'):=by
 unfold Instr.panic
 cases h with
 |iface h=>exact tN (.iface h)
 |nilIface=>exact absurd rfl b
 |_=>exact j4
theorem Gd[ki P](t a:TypeId)(h:VR ρ v v'):SR P VR ρ (Instr.typeAssert v t a true) (Instr.typeAssert v' t a true):=by
 unfold Instr.typeAssert;dsimp only;have j:∀(b:jR),SR P VR b (do pure (Value.tuple #[←zeroValue a,.bool false])) (do pure (Value.tuple #[←zeroValue a,.bool false])):=fun b =>
  SR.bind (tO a) fun n z A _ q=>by obtain⟨rfl,q⟩:=q;exact jU (((jW.one (q n)).push (.bool false)).tuple)
 have holds:∀(b:jR){u l:Value},VR b u l→SR P VR b (pure (Value.tuple #[u,.bool true]):Sem Value) (pure (Value.tuple #[l,.bool true])):=fun b u l hu=>jU (((jW.one hu).push (.bool true)).tuple)
 refine SR.bind (lH a) fun k d d' s e=>?_
 obtain⟨rfl,_⟩:=e;have x:=h.mono s
 cases x with
 |nilIface=>cases d<;>exact j k
 | @iface t' u l hu =>
  cases d with
  |interface want =>
   refine SR.bind (rq t') fun b i i' y e=>?_
   obtain⟨rfl,_⟩:=e;simp only
   cases Instr.missingMethod want i.methods with
   |none=>exact holds b ((VR.iface hu).mono y)
   |some m=>exact j b
  |_=>exact SR.ite (fun _=>holds k hu) fun _=>j k
 |_=>cases d<;>exact j4
end
end
section
variable [Scope]
section
variable {P:Program} {ρ:jR}
variable {r:Nat} {p:Place}
theorem uS(h:ρ r=some p):SR P (fun _ a b=>ShR p a b) ρ (shape r) (shape p.block):=.shape h fun s s' d=>.pure d
theorem yM{r':Nat}(h:ρ r=some ⟨r',none⟩):SR P OR ρ (getObj r) (getObj r'):=.getObj h fun o o' b=>.pure b
theorem ShR.isSome{s s':Option (TypeId×Nat)}(h:ShR p s s'):s.isSome=s'.isSome:=by
 unfold ShR at h;split at h
 ·rw[h]
 ·rcases h with⟨_,_,n,rfl,rfl⟩|⟨N,rfl,rfl,_⟩<;>rfl
inductive yN (ρ:jR):Option (Addr×Bool)→Option (Addr×Bool)→Prop
 |none:yN ρ none none
 |some {a a':Addr} {b:Bool}:AR ρ a a'→yN ρ (some (a,b)) (some (a',b))
theorem Ge(h:ρ r=some p):SR P yN ρ (numberAt r) (numberAt p.block):=by
 unfold numberAt;refine SR.bind (uS h) fun d s s' j b=>?_
 have k:=j _ _ h
 (try dsimp only);rw[←b.isSome]
 by_cases e:s.isSome=true
 ·simp only[e,dg];exact jU .none
 ·simp only[e];have hp:p.part=none:=by
   unfold ShR at b;split at b
   ·assumption
   ·rcases b with⟨_,_,n,rfl,_⟩|⟨N,rfl,_⟩<;>simp at e
  obtain⟨u,pp⟩:=p;simp only at hp;subst hp;refine SR.bind (yM k) fun l o o' x m=>?_
  cases m with
  |cells _=>exact jU .none
  |map _ _=>exact jU .none
  |number q=>exact jU (.some q)
theorem Br(h:ρ r=some p):SR P (fun _ a b=>a=none∧b=none) ρ (viewAt r) (viewAt p.block):=by
 unfold viewAt;refine SR.bind (uS h) fun j s s' k d=>?_
 have l:=k _ _ h
 (try dsimp only);rw[←d.isSome]
 by_cases e:s.isSome=true
 ·simp only[e,dg];exact jU ⟨rfl,rfl⟩
 ·simp only[e];have hp:p.part=none:=by
   unfold ShR at d;split at d
   ·assumption
   ·rcases d with⟨_,_,n,rfl,_⟩|⟨N,rfl,_⟩<;>simp at e
  obtain⟨u,pp⟩:=p;simp only at hp;subst hp;refine SR.bind (yM l) fun m o o' x q=>?_
  cases q<;>exact jU ⟨rfl,rfl⟩
variable {a a':Addr}
theorem r7(h:AR ρ a a'):SR P (fun ρ x y=>AR ρ x.1 y.1∧x.2=y.2) ρ (behindNumber a) (behindNumber a'):=by
 unfold behindNumber;obtain⟨j,p,d,e,k,l⟩:=h;rw[e];refine SR.bind (Ge d) fun m x y n b=>?_
 cases b with
 |none=>exact jU ⟨⟨j,p,n _ _ d,e,k,l⟩,rfl⟩
 |some q=>exact jU ⟨q,rfl⟩
theorem Gf(h:AR ρ a a')(lost:Bool):SR P VR ρ (asNumber a lost) (asNumber a' lost):=by
 unfold asNumber;exact SR.bind (yE (.number h)) fun b r r' _ hr=>jU (.ptr ⟨hr.1,_,hr.2,rfl,(dB _).symm,rfl⟩)
theorem Gg[ki P]{e:TypeId}{l N st off:Nat}{n:Int}{o:Nat}(h:cellAtBytes P P.depth e (l / P.cellsOf e) off n=some o)(hr:st+l≤N)(hd:Scope.cells e ∣ st):cellAtBytes P P.depth e (N / P.cellsOf e) (st+off) n=some (st+o):=by
 rw[ki.cells (P:=P) e]at hd;unfold cellAtBytes at h ⊢;generalize P.cellsOf e=s at *;generalize P.bytesOf e=w at *
 by_cases d:(s=0 || w=0)=true
 ·simp[d]at h
 ·simp only[d,dh,dG]at h ⊢;have m:0<s:=by simp at d;omega
  have hw:0<w:=by simp at d;omega
  obtain⟨k,rfl⟩:=hd;have q:(s*k+off) % s=off % s:=by rw[dL,dS]
  have m2:(s*k+off) / s=k+off / s:=by rw[dT,dL,dU _ _ m,dL]
  rw[q,m2]
  cases hb:byteOfCell P P.depth e (off % s)with
  |none=>simp[hb]at h
  |some here =>
   simp only[hb,dV,dW]at h ⊢;generalize u:Int.ofNat (off / s*w+here)+n=there at h;have y:Int.ofNat ((k+off / s)*w+here)+n=there+Int.ofNat (k*w):=by
    rw[←u,dX];simp only[dY];omega
   rw[y];split at h
   ·cases h
   ·rename_i b;simp only[dZ,ed,not_or,Int.not_lt,Int.not_le]at b;obtain⟨g1,g2⟩:=b;have hN:k+l / s≤N / s:=by
     have:(s*k+l) / s≤N / s:=Nat.div_le_div_right hr;rwa[dT,dL,dU _ _ m,dL]at this
    have j:(k+l / s)*w≤N / s*w:=ef w hN;rw[dX]at j;have z:¬((decide (there+Int.ofNat (k*w)<0) || decide (there+Int.ofNat (k*w) ≥ Int.ofNat (N / s*w)))=true):=by
     simp only[dZ,ed,not_or,Int.not_lt,Int.not_le,dY,ge_iff_le]at g2 ⊢;omega
    rw[dk z];have A:(there+Int.ofNat (k*w)).toNat=there.toNat+k*w:=by simp only[dY];omega
    rw[A,Nat.add_mul_mod_self_right,dU _ _ hw];obtain⟨x,hx,rfl⟩:=eg.1 h;rw[hx];simp only[dH,dR,dX];rw[dT k s];omega
def PR (ρ:jR) (v v':Value):Prop:=∃a a',v=.pointer (some a)∧v'=.pointer (some a')∧AR ρ a a'
variable {v v':Value}
theorem Gh[ki P](t:TypeId)(h:AR ρ a a')(k:VR ρ v v'):SR P PR ρ (Builtin.unsafeAdd_ #[] t #[.pointer (some a),v]) (Builtin.unsafeAdd_ #[] t #[.pointer (some a'),v']):=by
 unfold Builtin.unsafeAdd_
 (try dsimp only);refine SR.bind (vA k) fun A n n' K e=>?_
 subst e;have H:=h.mono K;have M:=H;obtain⟨B,p,hp,I,C,D⟩:=H;have rest:SR P PR A (do
   if n<0 then unsupported (.unsafePointer "Add: a move by a count below zero")
   let some (e,cells) ←shape a.block|unsupported (.unsafePointer "Add")
   let p ←program
   match cellAtBytes p p.depth e (cells / p.cellsOf e) a.off n with
   |some off=>pure (.pointer (some { a with off }))
   |none=>unsupported (.unsafePointer "Add")) (do
   if n<0 then unsupported (.unsafePointer "Add: a move by a count below zero")
   let some (e,cells) ←shape a'.block|unsupported (.unsafePointer "Add")
   let p ←program
   match cellAtBytes p p.depth e (cells / p.cellsOf e) a'.off n with
   |some off=>pure (.pointer (some { a' with off }))
   |none=>unsupported (.unsafePointer "Add")):=by
  refine SR.ite (fun _=>kv) fun _=>?_
  rw[I];refine SR.bind (uS hp) fun E s s' m j=>?_
  cases s with
  |none=>exact kv
  |some x =>
   obtain⟨J,c⟩:=x;unfold ShR at j
   cases z:p.part with
   |none =>
    rw[z]at j;subst j;refine SR.bind sJ fun q b b' u hb=>?_
    obtain⟨rfl,rfl⟩:=hb;have d:p.shift=0:=by simp[Place.shift,z]
    rw[C,d,dB]
    (try dsimp only);split
    ·exact jU ⟨_,_,rfl,rfl,⟨B,p,u _ _ (m _ _ hp),rfl,by simp[d],D⟩⟩
    ·exact kv
   |some y =>
    obtain⟨st,l,e,T⟩:=y;rw[z]at j
    (try dsimp only at j);have d:p.shift=st:=by simp[Place.shift,z]
    rcases j with⟨_,rfl,n',F,rfl⟩|⟨N,F,rfl,O,Q⟩
    ·cases F
     refine SR.bind sJ fun q b b' u hb=>?_
     obtain⟨rfl,rfl⟩:=hb;rw[C,d,dB]
     (try dsimp only);split
     ·exact jU ⟨_,_,rfl,rfl,⟨B,p,u _ _ (m _ _ hp),rfl,by simp[d],D⟩⟩
     ·exact kv
    cases F
    refine SR.bind sJ fun q b b' u hb=>?_
    obtain⟨rfl,rfl⟩:=hb;rw[C,d]
    (try dsimp only)
    cases S:cellAtBytes b' b'.depth J (c / b'.cellsOf J) a.off n with
    |none=>exact kv
    |some o =>
     rw[Gg S O Q];exact jU ⟨_,_,rfl,rfl,⟨B,p,u _ _ (m _ _ hp),rfl,by simp[d],D⟩⟩
 refine SR.ite (fun _=>?_) fun _=>rest
 dsimp only;rw[I];refine SR.bind (Br hp) fun E x y m G=>?_
 obtain⟨rfl,rfl⟩:=G;exact jU ⟨_,_,rfl,rfl,M.mono m⟩
theorem yO[ki P](t:TypeId)(h:AR ρ a a')(k:VR ρ v v'):SR P VR ρ (movedNumber t (.pointer (some a)) v) (movedNumber t (.pointer (some a')) v'):=by
 unfold movedNumber;refine SR.bind (lH t) fun m d d' l e=>?_
 obtain⟨rfl,_⟩:=e
 (try dsimp only);refine SR.ite (fun _=>kv) fun _=>?_
 refine SR.bind (r7 (h.mono l)) fun n x y q j=>?_
 obtain⟨A,B⟩:=x;obtain⟨C,D⟩:=y;obtain⟨g1,g2⟩:=j;simp only at g1 g2;subst g2;refine SR.bind (Gh t g1 ((k.mono l).mono q)) fun s u E F hu=>?_
 obtain⟨b,b',rfl,rfl,z⟩:=hu;exact Gf z _
end
end
section
variable [Scope]
section
variable {P:Program} {ρ:jR}
variable {a a':Addr}
theorem Gi(h:AR ρ a a'):SR P (fun _ _ _=>True) ρ (noView a) (noView a'):=by
 unfold noView;obtain⟨k,p,d,e,l,m⟩:=h;rw[e];refine SR.bind (Br d) fun j x y n b=>?_
 obtain⟨rfl,rfl⟩:=b;exact jU trivial
def vC (P:Program) (p:Place) (x y:Nat):Prop :=
 match p.part with
 |none=>y=x
 |some sp=>∃k,y=x+k*P.bytesOf sp.elem.1∨(x=y)
theorem Gj[ki P]{p:Place}(G:Scope.base≤a.block)(A:ρ a.block=some p)(B:a'.block=p.block)(m:a'.off=p.shift+a.off)(C:a'.spot=a.spot):SR P (fun _ x y=>vC P p x y) ρ (byteOf a) (byteOf a'):=by
 have same:∀x,vC P p x x:=fun x=>by unfold vC;split;rfl;exact⟨0,.inr rfl⟩
 unfold byteOf;rw[C]
 cases M:a.spot with
 |some s=>exact jU (same _)
 |none =>
  refine SR.bind sJ fun u b b' D hb=>?_
  obtain⟨rfl,rfl⟩:=hb;have H:AR u a a':=⟨G,p,D _ _ A,B,m,C⟩;refine SR.bind (Gi H) fun I _ _ J _=>?_
  rw[B];refine SR.bind (uS (J _ _ (D _ _ A))) fun K s s' O h=>?_
  cases s with
  |none=>exact j4
  |some x =>
   obtain⟨e,c⟩:=x;unfold ShR at h
   cases j:p.part with
   |none =>
    rw[j]at h;subst h
    (try dsimp only);refine SR.ite (fun _=>jU (same _)) fun n=>?_
    have d:a'.off=a.off:=by rw[m];simp[Place.shift,j]
    rw[d];split
    ·exact jU (same _)
    ·exact j4
   |some y =>
    obtain⟨st,l,ty,Q⟩:=y;rw[j]at h
    (try dsimp only at h);rcases h with⟨_,rfl,n',z,rfl⟩|⟨N,z,rfl,S,E⟩
    ·cases z
     (try dsimp only);refine SR.ite (fun _=>jU (same _)) fun n=>?_
     have d:a'.off=a.off:=by rw[m];simp[Place.shift,j]
     rw[d];split
     ·exact jU (same _)
     ·exact j4
    cases z
    (try dsimp only);refine SR.ite (fun _=>jU (same _)) fun n=>?_
    rw[ki.cells (P:=b') e]at E;obtain⟨k,F⟩:=E;have q:p.shift=st:=by simp[Place.shift,j]
    have d:a'.off % b'.cellsOf e=a.off % b'.cellsOf e:=by rw[m,q,F,dL,dS]
    have hdiv:a'.off / b'.cellsOf e=a.off / b'.cellsOf e+k:=by rw[m,q,F,dT,dL,dU _ _ (by omega)]
    rw[d,hdiv];split
    ·rename_i x hx;refine jU ?_;unfold vC;rw[j];exact⟨k,.inl (by rw[dX];simp only;omega)⟩
    ·exact j4
theorem Bs[ki P](k:IntKind)(n:Int)(h:AR ρ a a'):SR P VR ρ (Op.addrMod k a n) (Op.addrMod k a' n):=by
 unfold Op.addrMod;obtain⟨C,p,z,A,D,E⟩:=h;rw[A];refine SR.bind (uS z) fun F s s' G d=>?_
 cases s with
 |none=>exact kv
 |some x =>
  obtain⟨e,c⟩:=x;have key:(∃c',s'=some (e,c'))∧∀sp,p.part=some sp→sp.elem.1=e:=by
   unfold ShR at d
   cases j:p.part with
   |none=>rw[j]at d;exact⟨⟨c,d.symm⟩,fun sp j3=>by cases j3⟩
   |some y =>
    obtain⟨st,l,ty,K⟩:=y;rw[j]at d
    (try dsimp only at d);rcases d with⟨M,O,n',q,rfl⟩|⟨N,q,rfl,_⟩
    ·cases q
     exact⟨⟨c,rfl⟩,fun sp j3=>by cases j3;rfl⟩
    cases q
    exact⟨⟨N,rfl⟩,fun sp j3=>by cases j3;rfl⟩
  obtain⟨⟨c',rfl⟩,u⟩:=key;refine SR.bind (rq e) fun H i i' I hi=>?_
  obtain⟨rfl,hi⟩:=hi
  (try dsimp only);refine SR.ite (fun _=>kv) fun B=>?_
  refine SR.bind (Gj C (I _ _ (G _ _ z)) A D E) fun J x y Q b=>?_
  have:x % n.toNat=y % n.toNat:=by
   unfold vC at b
   cases j:p.part with
   |none=>rw[j]at b;rw[b]
   |some sp =>
    rw[j]at b;obtain⟨k,rfl|rfl⟩:=b
    ·rw[u sp j];have hb:P.bytesOf e=i.bytes:=by simp[Program.bytesOf,hi]
     have hd:n.toNat ∣ i.bytes:=by
      simp only[dZ,ed,not_or,bne_iff_ne,ne_eq,Decidable.not_not]at B;exact Nat.dvd_trans (Nat.dvd_of_mod_eq_zero B.2) (ki.align (P:=P) e i hi)
     obtain⟨m,hm⟩:=hd;rw[hb,hm,dT k,Nat.mul_assoc,dS]
    ·rfl
  rw[this];exact jU (.int _ _)
def qH (P:Program):Nat→TypeId→Bool
 |0,_=>false
 |n+1,t =>
  (match P.info? t with
   |some { desc:=.named "sync.copyChecker" _,.. }=>false
   |_=>true) &&
  match P.underlying t with
  |some .bool|some (.int _)|some .string=>true
  |some (.struct fs)=>fs.toList.all fun f=>qH P n f.type
  |_=>false
theorem Bt{d:Type}{α:Type}(f:α→d→Sem (ForInStep d))(g:α→d→Sem (ForInStep d)):∀(l:List α)(ρ:jR)(s:d),
  (∀ρ' x s,ρ.le ρ'→x∈l→SR P (fun _ a b=>a=b) ρ' (f x s) (g x s))→SR P (fun _ a b=>a=b) ρ (forIn l s f) (forIn l s g)
 |[],ρ,s,h=>by simp only[List.forIn_nil];exact jU rfl
 |x::l,ρ,s,h=>by
  simp only[List.forIn_cons];refine SR.bind (h ρ x s (jR.le_refl _) (by simp)) fun j a b k e=>?_
  subst e
  cases a with
  |done s=>exact jU rfl
  |yield s=>exact Bt f g l j s fun ρ' y s' m n=>h ρ' y s' (jR.le_trans k m) (by simp[n])
theorem Bu[ki P]:∀(n d:Nat)(t:TypeId){ρ:jR}{x E y F:Value},qH P n t=true→VR ρ x E→VR ρ y F →
  SR P (fun _ a b=>a=b) ρ (Op.equalIn d t x y) (Op.equalIn d t E F)
 |0,_,_,_,_,_,_,_,h,_,_=>by simp[qH]at h
 |n+1,0,t,_,_,_,_,_,_,_,_=>by unfold Op.equalIn;exact kv
 |n+1,d+1,t,ρ,x,E,y,F,h,hx,M=>by
  simp only[Op.equalIn];refine SR.bind (lH t) fun G u N I e=>?_
  obtain⟨rfl,O⟩:=e;simp only[qH,eh,O]at h;obtain⟨l,B⟩:=h;have m:=hx.mono I;have j:=M.mono I
  cases u with
  |bool=>cases m<;>cases j<;>first|exact jU rfl|exact j4
  |string=>cases m<;>cases j<;>first|exact jU rfl|exact j4
  |int k =>
   cases m with
   |int k1 a =>
    cases j with
    |int k2 b=>exact SR.ite (fun _=>jU rfl) fun _=>j4
    |ptr J=>rcases a with(_|a)|a<;>first|exact jU rfl|exact kv
    |oL=>rcases a with(_|a)|a<;>first|exact jU rfl|exact kv
    |_=>exact j4
   |ptr J =>
    cases j with
    |int k2 b=>rcases b with(_|b)|b<;>first|exact jU rfl|exact kv
    |ptr hb =>
     refine SR.bind (r7 J) fun Q p p' S hp=>?_
     refine SR.bind (r7 (hb.mono S)) fun C q q' D hq=>?_
     refine SR.bind sJ fun A g g' K T=>?_
     obtain⟨rfl,rfl⟩:=T;have b1:¬(p.1.block<g'.globals.size):=by have:=hp.1.1;have:=ki.base (P:=g');omega
     have b2:((p.1.block == q.1.block&&decide (p.1.block<g'.globals.size))=true)=False:=by simp[b1]
     simp only[b2,dh];refine SR.pQ ?_;show SR g' _ A (Sem.bind (match g'.info? t with|some i=>pure i|none=>stuck "no such type") _) _
     cases hi:g'.info? t with
     |none=>exact j4
     |some i =>
      show SR g' _ A (match i.desc with | .named "sync.copyChecker" _=>_|_=>_) _;rw[hi]at l;obtain⟨desc,str,size,bytes,hp,al,fa,z,cmp,ms⟩:=i;simp only at l ⊢;split
      ·simp at l
      ·exact kv
    |_=>exact kv
   |oL=>cases j<;>first|exact j4|exact kv
   |_=>cases j<;>first|exact j4|exact kv
  |struct U =>
   cases m with
   |agg a b =>
    cases j with
    |agg c e =>
     refine uP ?_;refine SR.ite (fun _=>kv) fun _=>?_
     rw[←ej,←ej];have V:=(jW.mk a b);have W:=(jW.mk c e);refine SR.bind (Bt _ _ U.toList G _ fun C f s D X=>?_) fun C r r' D hr=>?_
     ·refine SR.ite (fun _=>?_) fun _=>jU rfl
      refine SR.bind (xy f.type (V.mono D) f.offset) fun A u N K hu=>?_
      refine SR.bind (xy f.type ((W.mono D).mono K) f.offset) fun Y v v' Z hv=>?_
      have H:qH P n f.type=true:=(ek.1 B) f X;refine SR.bind (Bu n d f.type H (hu.mono Z) hv) fun aa r r' l6 hr=>?_
      subst hr
      cases r<;>exact jU rfl
     ·subst hr;split<;>exact jU rfl
    |_=>exact j4
   |_=>cases j<;>exact j4
  |_=>simp at B
end
end
section
variable [Scope]
def lg:Operand→Bool
 | .tmp _=>true
 | .const c=>clear 3 c
 | .func f=>Scope.ok f
 | .global _=>false
structure ER (ρ:jR) (f g:Operand→Value):Prop where
 tmp:∀t,VR ρ (f (.tmp t)) (g (.tmp t))
 const:∀c,f (.const c)=c∧g (.const c)=c
 func:∀i,f (.func i)=.func (.func i) #[] #[]∧g (.func i)=.func (.func i) #[] #[]
theorem ER.get{ρ:jR}{f g:Operand→Value}(h:ER ρ f g){x:Operand}(hx:lg x=true):VR ρ (f x) (g x):=by
 cases x with
 |tmp t=>exact h.tmp t
 |const c=>rw[(h.const c).1,(h.const c).2];exact yD ρ 3 c hx
 |func i=>rw[(h.func i).1,(h.func i).2];exact jW.func hx (jW.nil ρ) (jW.nil ρ)
 |global g=>simp[lg]at hx
theorem ER.mono{ρ ρ':jR}{f g:Operand→Value}(h:ER ρ f g)(l:ρ.le ρ'):ER ρ' f g:=⟨fun t=>(h.tmp t).mono l,h.const,h.func⟩
def qm:Value→Bool
 | .pointer none | .nilIface | .nilFunc | .slice none _ _ | .map none=>true
 |_=>false
def rv:Operand→Bool
 | .const c=>qm c
 |_=>false
def sM (P:Program) (t:TypeId) (x y:Operand):Bool:=rv x || rv y || (qH P 12 t&&!P.eqGuardType P.depth t)
section
variable {P:Program} {ρ:jR}
variable {v v' c:Value}
theorem Gk(d:Nat)(t:TypeId)(h:VR ρ v v')(k:qm c=true):SR P (fun _ a b=>a=b) ρ (Op.equalIn (d+1) t v c) (Op.equalIn (d+1) t v' c):=by
 simp only[Op.equalIn];refine SR.bind (lH t) fun l u n m e=>?_
 obtain⟨rfl,_⟩:=e;have j:=h.mono m;unfold qm at k;split at k
 ·cases u<;>cases j<;>first|exact jU rfl|exact j4|exact kv
 ·cases u<;>cases j<;>first|exact jU rfl|exact j4|exact kv
 ·cases u<;>cases j<;>first|exact jU rfl|exact j4|exact kv
 ·cases u<;>cases j<;>first|exact jU rfl|exact j4|exact kv
 ·cases u<;>cases j<;>first|exact jU rfl|exact j4|exact kv
 ·cases k
theorem Gl(d:Nat)(t:TypeId)(h:VR ρ v v')(k:qm c=true):SR P (fun _ a b=>a=b) ρ (Op.equalIn (d+1) t c v) (Op.equalIn (d+1) t c v'):=by
 simp only[Op.equalIn];refine SR.bind (lH t) fun l u n m e=>?_
 obtain⟨rfl,_⟩:=e;have j:=h.mono m;unfold qm at k;split at k
 ·cases u<;>cases j<;>first|exact jU rfl|exact j4|exact kv
 ·cases u<;>cases j<;>first|exact jU rfl|exact j4|exact kv
 ·cases u<;>cases j<;>first|exact jU rfl|exact j4|exact kv
 ·cases u<;>cases j<;>first|exact jU rfl|exact j4|exact kv
 ·cases u<;>cases j<;>first|exact jU rfl|exact j4|exact kv
 ·cases k
theorem Gm(t:TypeId)(h:VR ρ v v')(d:qm c=true):SR P (fun _ a b=>a=b) ρ (Op.equal t v c) (Op.equal t v' c):=Gk 9999 t h d
theorem Gp(t:TypeId)(h:VR ρ v v')(d:qm c=true):SR P (fun _ a b=>a=b) ρ (Op.equal t c v) (Op.equal t c v'):=Gl 9999 t h d
theorem Gq[ki P](d:Nat)(t:TypeId)(h:qH P 12 t=true):SR P (fun _ a b=>a=false∧b=false) ρ (Op.eqGuardIn (d+1) t .nilIface .nilIface) (Op.eqGuardIn (d+1) t .nilIface .nilIface):=by
 simp only[Op.eqGuardIn];refine SR.bind (lH t) fun j u l m e=>?_
 obtain⟨rfl,k⟩:=e;have:qH P (11+1) t=true:=h;simp only[qH,k,eh]at this
 cases u<;>first|exact jU ⟨rfl,rfl⟩|simp at this
variable {f g:Operand→Value}
theorem Gr[ki P](t:TypeId)(x y:Operand)(h:sM P t x y=true)(he:ER ρ f g)(hx:lg x=true)(d:lg y=true):SR P (fun _ a b=>a=b) ρ (Op.equal t (f x) (f y)) (Op.equal t (g x) (g y)):=by
 unfold sM at h;simp only[dZ,eh]at h;rcases h with(h|h)|h
 ·cases x with
  |const c=>rw[(he.const c).1,(he.const c).2];exact Gp t (he.get d) h
  |_=>simp[rv]at h
 ·cases y with
  |const c=>rw[(he.const c).1,(he.const c).2];exact Gm t (he.get hx) h
  |_=>simp[rv]at h
 ·exact Bu 12 _ t h.1 (he.get hx) (he.get d)
theorem Gs[ki P](op:BinOp)(t:TypeId)(x y:Operand)(h:(op=.eql∨op=.neq)→sM P t x y=true)(he:ER ρ f g)(hx:lg x=true)(F:lg y=true):SR P (fun _ _ _=>True) ρ (eqGuard op t x y (f x) (f y)) (eqGuard op t x y (g x) (g y)):=by
 have main:(op=.eql∨op=.neq)→SR P (fun _ _ _=>True) ρ (match f x,f y with
   | .nilIface,.nilIface=>do
    if(x matches .const _) || (y matches .const _) then return
    if ←Op.eqGuardIn Op.maxDepth t (f x) (f y) then unsupported (.noEntry "binop/eql: two nil values of an interface type with methods, neither of them the literal nil")
   | .agg _,.agg _=>do
    if !(←program).eqGuardType (←program).depth t then return
    if ←Op.eqGuardIn Op.maxDepth t (f x) (f y) then unsupported (.noEntry "binop/eql: two nil values of an interface type with methods, in a part of a struct or an array")
   |_,_=>pure ()) (match g x,g y with
   | .nilIface,.nilIface=>do
    if(x matches .const _) || (y matches .const _) then return
    if ←Op.eqGuardIn Op.maxDepth t (g x) (g y) then unsupported (.noEntry "binop/eql: two nil values of an interface type with methods, neither of them the literal nil")
   | .agg _,.agg _=>do
    if !(←program).eqGuardType (←program).depth t then return
    if ←Op.eqGuardIn Op.maxDepth t (g x) (g y) then unsupported (.noEntry "binop/eql: two nil values of an interface type with methods, in a part of a struct or an array")
   |_,_=>pure ()):=by
  intro B;have C:=h B;unfold sM at C;simp only[dZ,eh]at C;have z:rv x=true→∃c,x=.const c∧qm c=true:=by intro m;cases x<;>simp_all[rv]
  have A:rv y=true→∃c,y=.const c∧qm c=true:=by intro m;cases y<;>simp_all[rv]
  have n:=he.get hx;have l:=he.get F;rcases C with(m|m)|m
  ·obtain⟨c,rfl,q⟩:=z m;rw[(he.const c).1,(he.const c).2];generalize f y=u,g y=k at l;unfold qm at q;split at q
   ·cases l<;>first|exact jU trivial|(cases k<;>first|exact jU trivial|(rename_i j;simp[mM]at j))
   ·cases l<;>first|exact jU trivial|exact SR.ite (fun _=>jU trivial) (fun s=>absurd rfl s)|(cases k<;>first|exact jU trivial|(rename_i j;simp[mM]at j))
   ·cases l<;>first|exact jU trivial|(cases k<;>first|exact jU trivial|(rename_i j;simp[mM]at j))
   ·cases l<;>first|exact jU trivial|(cases k<;>first|exact jU trivial|(rename_i j;simp[mM]at j))
   ·cases l<;>first|exact jU trivial|(cases k<;>first|exact jU trivial|(rename_i j;simp[mM]at j))
   ·cases q
  ·obtain⟨c,rfl,q⟩:=A m;rw[(he.const c).1,(he.const c).2];generalize f x=u,g x=k at n;unfold qm at q;split at q
   ·cases n<;>first|exact jU trivial|(cases k<;>first|exact jU trivial|(rename_i j;simp[mM]at j))
   ·cases n<;>first|exact jU trivial|exact SR.ite (fun _=>jU trivial) (fun s=>absurd (by simp) s)|(cases k<;>first|exact jU trivial|(rename_i j;simp[mM]at j))
   ·cases n<;>first|exact jU trivial|(cases k<;>first|exact jU trivial|(rename_i j;simp[mM]at j))
   ·cases n<;>first|exact jU trivial|(cases k<;>first|exact jU trivial|(rename_i j;simp[mM]at j))
   ·cases n<;>first|exact jU trivial|(cases k<;>first|exact jU trivial|(rename_i j;simp[mM]at j))
   ·cases q
  ·generalize f x=v,g x=v',f y=u,g y=k at n l;have D:=m.1;have G:P.eqGuardType P.depth t=false:=by simpa using m.2
   cases n with
   |nilIface =>
    cases l with
    |nilIface =>
     refine SR.ite (fun _=>jU trivial) fun _=>?_
     exact SR.bind (Gq 9999 t D) fun H a b I e=>by obtain⟨rfl,rfl⟩:=e;exact jU trivial
    |hole E j=>cases k<;>first|exact jU trivial|simp[mM]at j
    |_=>exact jU trivial
   |agg a b =>
    cases l with
    |agg c d =>
     refine uP ?_;refine uP ?_;simp only[G,Bool.not_false,dg];exact jU trivial
    |hole E j=>cases k<;>first|exact jU trivial|simp[mM]at j
    |_=>exact jU trivial
   |hole E j=>cases v'<;>first|exact jU trivial|simp[mM]at j
   |_=>cases l<;>first|exact jU trivial|(cases k<;>first|exact jU trivial|(rename_i j;simp[mM]at j))
 unfold eqGuard
 cases op<;>first|exact main (.inl rfl)|exact main (.inr rfl)|exact jU trivial
end
end
end Go.Proofs.YtjnkcibpkkjniaaGreat.j7
