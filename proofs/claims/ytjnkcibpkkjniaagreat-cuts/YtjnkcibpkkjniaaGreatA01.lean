import Derived.Test.YtjnkcibpkkjniaaGreatA00
import Derived.Conc.Events
import Derived.Laws.Tables
set_option linter.all false
set_option maxHeartbeats 1000000
namespace Go.Proofs.YtjnkcibpkkjniaaGreat
def dn:=@if_true
def dp:=@if_false
def dq:=@Array.getElem?_push
def dr:=@if_pos
def dt:=@if_neg
def du:=@Array.getElem?_append
def dv:=@Array.getElem?_eq_some_iff
def dw:=@Array.getElem?_eq_getElem
def dx:=@Array.getElem?_setIfInBounds
def dz:=@Array.getElem?_replicate
def dA:=@Array.getD_eq_getD_getElem?
def dB:=@Array.all_eq_true_iff_forall_mem
def dC:=@Array.mem_of_getElem?
def dD:=@Nat.le_refl
def dE:=@Nat.le_trans
def dF:=@Nat.lt_of_lt_of_le
def dG:=@Nat.zero_add
def dH:=@Array.getElem?_modify
def dI:=@congrArg
def dJ:=@Ne.symm
def dK:=@Option.isSome_none
def dL:=@Bool.false_eq_true
def dM:=@Option.map_some
def dN:=@Nat.ne_of_lt
def dO:=@Array.getElem?_setIfInBounds_ne
def dP:=@Array.ext_getElem?
def dQ:=@Nat.add_assoc
def dR:=@Nat.add_comm
def dS:=@Array.mem_append
def dT:=@Go.Sem.runT_eq
def dU:=@Array.mapM_eq_mapM_toList
def dV:=@Array.getElem?_map
def dX:=@Nat.add_mul_mod_self_left
def dY:=@Nat.mul_comm
def dZ:=@Nat.add_mul_div_right
def eb:=@Option.bind_eq_bind
def ed:=@Option.bind_some
def ef:=@Nat.add_mul
def eg:=@Int.ofNat_eq_natCast
def eh:=@Bool.or_eq_true
def ej:=@decide_eq_true_eq
def ek:=@Nat.mul_le_mul_right
def eo:=@Option.map_eq_some_iff
def ep:=@Bool.and_eq_true
def et:=@Array.forIn_toList
def eu:=@List.all_eq_true
def ez:=@Nat.zero_mul
def eA:=@Option.isSome_iff_exists
def eC:=@List.map_toArray
def eD:=@List.all_cons
def eF:=@Array.empty_append
def eG:=@Prod.mk.injEq
def eH:=@Go.step_lone_ended
def eI:=@Go.Stepped.next.injEq
def eL:=@Array.mk.injEq
def eM:=@List.cons.injEq
def eN:=@Go.Goroutine.mk.injEq
def eP:=@Nat.zero_le
def eZ:=@Array.mem_iff_getElem
def ff:=@Option.some.inj
def fj:=@Array.getElem?_setIfInBounds_self_of_lt
def fq:=@Array.append_empty
def ft:=@Go.Frame.finish_at
def fv:=@Go.Frame.eval_at'
def fB:=@Go.results_tmp
def fD:=@Except.ok.injEq
def fE:=@Array.eq_empty_of_size_eq_zero
def fF:=@Option.bind_eq_some_iff
def fG:=@Nat.lt_or_ge
def fH:=@Array.getElem?_eq_none
def fM:=@List.mem_toArray
def fN:=@List.mem_cons
def fO:=@List.not_mem_nil
def fP:=@or_false
def gg:=@List.mem_range
def gi:=@List.mem_filter
def gj:=@List.length_filter_le
def gl:=@List.length_filter_eq_length_iff
def gn:=@Classical.byContradiction
def gp:=@Nat.mod_lt
def gq:=@List.reverse_singleton
def gu:=@List.singleton_append
def gv:=@List.mem_of_getElem?
def gB:=@List.getElem?_cons_succ
def gD:=@List.map_cons
def gE:=@Go.Sem.run_bind
def gF:=@List.size_toArray
def gG:=@List.length_cons
def gH:=@List.length_nil
def gI:=@Array.getElem?_append_left
def gK:=@Array.size_setIfInBounds
def gL:=@Array.size_map
def gO:=@List.map_congr_left
def gP:=@List.mem_append_right
def gR:=@Nat.add_zero
def gU:=@List.nodup_append
def gV:=@List.mem_append
def gW:=@Array.getElem?_append_right
def gX:=@Array.mem_singleton
def gZ:=@List.mem_append_left
def g8:=@Array.size_push
def ie:=@Array.getElem?_push_lt
def ig:=@List.take_of_length_le
def ij:=@List.append_nil
def ik:=@Nat.not_lt_zero
def iu:=@Go.run_underlying
def iw:=@List.push_toArray
def ix:=@List.nil_append
def iy:=@List.cons_append
def iz:=@List.setIfInBounds_toArray
def iA:=@List.set_cons_succ
def iB:=@List.set_cons_zero
def iC:=@Go.IntKind.wrap_i64
def iD:=@Nat.lt_of_le_of_lt
def iE:=@List.mem_singleton
def iF:=@List.append_assoc
def iG:=@List.contains_iff_mem
def iI:=@Classical.choose_spec
def iK:=@Go.World.block_lt_of_cell?
def iL:=@Nat.lt_succ_iff_lt_or_eq
def iM:=@Go.World.cell?_alloc_new
def iO:=@Go.World.size_alloc
def iQ:=@Go.bodyPost_ret
def iV:=@List.getElem?_eq_some_iff
def iW:=@List.length_map
def iX:=@List.length_range
def iY:=@List.mem_map
def jd:=@Nat.lt_irrefl
def jk:=@Go.World.size_setCell
def jl:=@Go.World.size_drew
def jh:=@List.length_append
def jr:=@Array.toList_append
def js:=@List.eq_nil_of_length_eq_zero
def jv:=@Go.Addr.add_lit
def jw:=@List.length_take
def jx:=@List.length_drop
def je:=@Array.length_toList
def jy:=@List.mem_of_mem_take
def jz:=@List.mem_of_mem_drop
def jB:=@Go.bodyPost_end
def jH:=@List.getElem?_eq_getElem
def jK:=@List.getD_eq_getElem?_getD
def jM:=@List.take_append_of_le_length
def jN:=@List.drop_length
def jF:=@List.getElem?_take_of_lt
def jG:=@List.getElem?_drop
def jO:=@Bool.true_eq_false
def jP:=@Go.Calls.mono
def jE:=@Go.Obj.cells.injEq
def jQ:=@Go.Value.slice.injEq
def jR:=@Array.getElem?_toList
def jS:=@Go.Result.ok.injEq
def jV:=@List.getElem?_append_left
def jW:=@List.getElem?_append_right
def jZ:=@Go.World.cell?_setCell_other
def j2:=@Go.World.frozen?_setCell
def j3:=@Go.World.cell?_setCell_same
def j5:=@List.filter_append
def j6:=@of_decide_eq_true
end Go.Proofs.YtjnkcibpkkjniaaGreat
namespace Go.Proofs.YtjnkcibpkkjniaaGreat.kx
section
structure Span where
 start:Nat
 len:Nat
 elem:TypeId×Nat
structure Place where
 block:Nat
 part:Option Span
def Place.shift (p:Place):Nat:=match p.part with|none=>0|some x=>x.start
abbrev j7:=Nat→Option Place
def j7.le (ρ ρ':j7):Prop:=∀b p,ρ b=some p→ρ' b=some p
class Scope where
 ok:FuncId→Bool
 base:Nat
 cells:TypeId→Nat
 sync:Bool
 chans:TypeId→Bool
variable [Scope]
theorem j7.le_refl(ρ:j7):ρ.le ρ:=fun _ _ h=>h
theorem j7.le_trans{a b c:j7}(h:a.le b)(k:b.le c):a.le c:=fun x p hx=>k x p (h x p hx)
def AR (ρ:j7) (a a':Addr):Prop:=Scope.base≤a.block∧∃p,ρ a.block=some p∧a'.block=p.block∧a'.off=p.shift+a.off∧a'.spot=a.spot
theorem AR.mono{ρ ρ':j7}{a a':Addr}(h:AR ρ a a')(l:ρ.le ρ'):AR ρ' a a':=by
 obtain⟨b,p,d,e⟩:=h;exact⟨b,p,l _ _ d,e⟩
theorem AR.add{ρ:j7}{a a':Addr}(h:AR ρ a a')(n:Nat):AR ρ (a.add n) (a'.add n):=by
 obtain⟨b,p,d,j,k,l⟩:=h;unfold Addr.add
 by_cases e:n=0
 ·simp only[e,dn];exact⟨b,p,d,j,k,l⟩
 ·simp only[e,dp];exact⟨b,p,d,j,by simp only;omega,rfl⟩
def nC:Value→Bool
 | .func (.method _) _ _=>false
 | .pointer (some _) | .slice (some _) _ _ | .map (some _) | .chan (some _) | .func .. | .float .. | .complex ..=>true
 |_=>false
inductive VR (ρ:j7):Value→Value→Prop
 |bool (b:Bool):VR ρ (.bool b) (.bool b)
 |int (k:IntKind) (n:Int):VR ρ (.int k n) (.int k n)
 |string (s:ByteArray):VR ρ (.string s) (.string s)
 |o4:VR ρ (.pointer none) (.pointer none)
 |ptr {a a':Addr}:AR ρ a a'→VR ρ (.pointer (some a)) (.pointer (some a'))
 |mI (l c:Nat):VR ρ (.slice none l c) (.slice none l c)
 |slice {a a':Addr} (l c:Nat):AR ρ a a'→VR ρ (.slice (some a) l c) (.slice (some a') l c)
 |qS:VR ρ (.map none) (.map none)
 |map {r r':Nat}:ρ r=some ⟨r',none⟩→VR ρ (.map (some r)) (.map (some r'))
 |rr:VR ρ (.chan none) (.chan none)
 |func {f:FuncId} {xs n9 ys oa:Array Value}:Scope.ok f=true→xs.size=n9.size→(∀(i:Nat) v v',xs[i]?=some v→n9[i]?=some v'→VR ρ v v')→ys.size=oa.size→(∀(i:Nat) v v',ys[i]?=some v→oa[i]?=some v'→VR ρ v v') →
   VR ρ (.func (.func f) xs ys) (.func (.func f) n9 oa)
 |nilFunc:VR ρ .nilFunc .nilFunc
 |iface {t:TypeId} {v v':Value}:VR ρ v v'→VR ρ (.iface t v) (.iface t v')
 |nilIface:VR ρ .nilIface .nilIface
 |agg {xs ys:Array Value}:xs.size=ys.size→(∀(i:Nat) v v',xs[i]?=some v→ys[i]?=some v'→VR ρ v v')→VR ρ (.agg xs) (.agg ys)
 |tuple {xs ys:Array Value}:xs.size=ys.size→(∀(i:Nat) v v',xs[i]?=some v→ys[i]?=some v'→VR ρ v v')→VR ρ (.tuple xs) (.tuple ys)
 |nD {a a':Addr}:Scope.sync=true→(∃b x,ρ a.block=some ⟨b,some x⟩)→VR ρ (.slice (some a) 0 0) (.slice (some a') 0 0)
 |hole {v':Value}:Scope.sync=true→nC v'=true→VR ρ (.chan (some 1)) v'
 |o7 {n:String} {xs ys:Array Value}:Scope.sync=true→VR ρ (.func (.method "") #[.iface 0 .nilFunc] #[]) (.func (.method n) xs ys)
structure ki (ρ:j7) (xs ys:Array Value):Prop where
 size:xs.size=ys.size
 get:∀(i:Nat) v v',xs[i]?=some v→ys[i]?=some v'→VR ρ v v'
theorem VR.mono{ρ ρ':j7}{v v':Value}(h:VR ρ v v')(l:ρ.le ρ'):VR ρ' v v':=by
 induction h with
 |bool b=>exact .bool b
 |int k n=>exact .int k n
 |string s=>exact .string s
 |o4=>exact .o4
 |ptr h=>exact .ptr (h.mono l)
 |mI a b=>exact .mI a b
 |slice a b h=>exact .slice a b (h.mono l)
 |qS=>exact .qS
 |map h=>exact .map (l _ _ h)
 |rr=>exact .rr
 |func m q _ y _ e j=>exact .func m q e y j
 |nilFunc=>exact .nilFunc
 |iface _ d=>exact .iface d
 |nilIface=>exact .nilIface
 |agg h _ d=>exact .agg h d
 |tuple h _ d=>exact .tuple h d
 |nD h k=>obtain⟨b,x,hp⟩:=k;exact .nD h ⟨b,x,l _ _ hp⟩
 |hole h k=>exact .hole h k
 |o7 h=>exact .o7 h
theorem ki.mono{ρ ρ':j7}{xs ys:Array Value}(h:ki ρ xs ys)(l:ρ.le ρ'):ki ρ' xs ys:=⟨h.size,fun i v v' a b=>(h.get i v v' a b).mono l⟩
theorem ki.agg{ρ:j7}{xs ys:Array Value}(h:ki ρ xs ys):VR ρ (.agg xs) (.agg ys):=.agg h.size h.get
theorem ki.tuple{ρ:j7}{xs ys:Array Value}(h:ki ρ xs ys):VR ρ (.tuple xs) (.tuple ys):=.tuple h.size h.get
theorem ki.func{ρ:j7}{f:FuncId}{xs n9 ys oa:Array Value}(b:Scope.ok f=true)(h:ki ρ xs n9)(k:ki ρ ys oa):VR ρ (.func (.func f) xs ys) (.func (.func f) n9 oa):=.func b h.size h.get k.size k.get
theorem ki.nil(ρ:j7):ki ρ #[] #[]:=⟨rfl,by simp⟩
variable {ρ:j7} {xs ys:Array Value} {v v':Value}
theorem ki.push(h:ki ρ xs ys)(k:VR ρ v v'):ki ρ (xs.push v) (ys.push v'):=by
 refine⟨by simp[h.size],fun i u d a b=>?_⟩;rw[dq]at a b;split at a
 ·rename_i e;rw[dr (e.trans h.size)]at b;cases a;cases b;exact k
 ·rename_i e;rw[dt (fun j=>e (j.trans h.size.symm))]at b;exact h.get i u d a b
theorem ki.append{n9 oa:Array Value}(h:ki ρ xs ys)(k:ki ρ n9 oa):ki ρ (xs++n9) (ys++oa):=by
 refine⟨by simp[h.size,k.size],fun i u d a b=>?_⟩;rw[du]at a b;rw[←h.size]at b;split at a
 ·rename_i e;rw[dr e]at b;exact h.get i u d a b
 ·rename_i e;rw[dt e]at b;exact k.get _ u d a b
variable {i:Nat}
theorem ki.at_(h:ki ρ xs ys)(e:xs[i]?=some v):∃v',ys[i]?=some v'∧VR ρ v v':=by
 have hi:i<ys.size:=by have:=(dv.1 e).1;rw[h.size]at this;exact this
 exact⟨ys[i],dw hi,h.get i v _ e (dw hi)⟩
theorem ki.uq(h:ki ρ xs ys)(e:xs[i]?=none):ys[i]?=none:=by
 rw[Array.getElem?_eq_none_iff]at e ⊢;have:=h.size;omega
theorem ki.set(h:ki ρ xs ys)(i:Nat)(k:VR ρ v v'):ki ρ (xs.setIfInBounds i v) (ys.setIfInBounds i v'):=by
 refine⟨by simp[h.size],fun j u d a b=>?_⟩;rw[dx]at a b;rw[←h.size]at b;split at a
 ·rename_i e;rw[dr e]at b;split at a
  ·rename_i l;rw[dr l]at b;cases a;cases b;exact k
  ·cases a
 ·rename_i e;rw[dt e]at b;exact h.get j u d a b
theorem ki.extract(h:ki ρ xs ys)(i j:Nat):ki ρ (xs.extract i j) (ys.extract i j):=by
 refine⟨by simp[h.size],fun n u d a b=>?_⟩;rw[Array.getElem?_extract]at a b;rw[←h.size]at b;split at a
 ·rename_i e;rw[dr e]at b;exact h.get _ u d a b
 ·cases a
theorem ki.replicate(n:Nat)(k:VR ρ v v'):ki ρ (Array.replicate n v) (Array.replicate n v'):=by
 refine⟨by simp,fun i u d a b=>?_⟩;simp only[dz]at a b;split at a
 ·rename_i e;rw[dr e]at b;cases a;cases b;exact k
 ·cases a
theorem ki.one(k:VR ρ v v'):ki ρ #[v] #[v']:=(ki.nil ρ).push k
theorem ki.getD(h:ki ρ xs ys)(i:Nat){d:Value}(hd:VR ρ d d):VR ρ (xs.getD i d) (ys.getD i d):=by
 simp only[dA]
 cases e:xs[i]? with
 |none=>rw[h.uq e];exact hd
 |some v=>obtain⟨v',b,k⟩:=h.at_ e;rw[b];exact k
def clear:Nat→Value→Bool
 |_,.bool _|_,.int .. | _,.string _|_,.pointer none|_,.slice none _ _|_,.map none|_,.chan none|_,.nilFunc|_,.nilIface=>true
 |n+1,.agg xs|n+1,.tuple xs=>xs.all (clear n)
 |n+1,.iface _ v=>clear n v
 |_,_=>false
theorem zm(ρ:j7):∀(n:Nat)(v:Value),clear n v=true→VR ρ v v:=by
 intro n
 induction n with
 |zero =>
  intro v h
  cases v with
  |bool b=>exact .bool b
  |int k n=>exact .int k n
  |float k n=>simp[clear]at h
  |complex k n m=>simp[clear]at h
  |string s=>exact .string s
  |pointer a=>cases a with
   |none=>exact .o4
   |some a=>simp[clear]at h
  |slice a l c=>cases a with
   |none=>exact .mI l c
   |some a=>simp[clear]at h
  |map r=>cases r with
   |none=>exact .qS
   |some a=>simp[clear]at h
  |chan r=>cases r with
   |none=>exact .rr
   |some a=>simp[clear]at h
  |func fn a b=>simp[clear]at h
  |nilFunc=>exact .nilFunc
  |iface t v=>simp[clear]at h
  |nilIface=>exact .nilIface
  |agg xs=>simp[clear]at h
  |tuple xs=>simp[clear]at h
 |succ n d =>
  intro v h;have all:∀xs:Array Value,xs.all (clear n)=true→ki ρ xs xs:=fun xs hx=>⟨rfl,fun i v v' a b=>by
   rw[a]at b;cases b
   exact d v (dB.1 hx v (dC a))⟩
  cases v with
  |bool b=>exact .bool b
  |int k n=>exact .int k n
  |float k n=>simp[clear]at h
  |complex k n m=>simp[clear]at h
  |string s=>exact .string s
  |pointer a=>cases a with
   |none=>exact .o4
   |some a=>simp[clear]at h
  |slice a l c=>cases a with
   |none=>exact .mI l c
   |some a=>simp[clear]at h
  |map r=>cases r with
   |none=>exact .qS
   |some a=>simp[clear]at h
  |chan r=>cases r with
   |none=>exact .rr
   |some a=>simp[clear]at h
  |func fn a b=>simp[clear]at h
  |nilFunc=>exact .nilFunc
  |iface t v=>exact .iface (d v (by simpa[clear]using h))
  |nilIface=>exact .nilIface
  |agg xs=>exact(all xs (by simpa only[clear]using h)).agg
  |tuple xs=>exact(all xs (by simpa only[clear]using h)).tuple
inductive OR (ρ:j7):Obj→Obj→Prop
 |cells {c C:Array Value} {e:TypeId} {fr:Nat×Nat}:ki ρ c C→OR ρ (.cells c e fr) (.cells C e fr)
 |map {es ES:Array MapEntry} {clk:Nat}:es.size=ES.size→(∀(i:Nat) x y,es[i]?=some x→ES[i]?=some y→VR ρ x.key y.key∧VR ρ x.val y.val∧x.born=y.born)→OR ρ (.map es clk) (.map ES clk)
 |number {a a':Addr} {lost:Bool}:AR ρ a a'→OR ρ (.number a lost) (.number a' lost)
theorem OR.mono{ρ ρ':j7}{o o':Obj}(h:OR ρ o o')(l:ρ.le ρ'):OR ρ' o o':=by
 cases h with
 |cells h=>exact .cells (h.mono l)
 |map h k=>exact .map h fun i x y a b=>⟨(k i x y a b).1.mono l,(k i x y a b).2.1.mono l,(k i x y a b).2.2⟩
 |number h=>exact .number (h.mono l)
structure sU (ρ:j7) (s l:Nat) (c C:Array Value):Prop where
 size:c.size=l
 room:s+l≤C.size
 get:∀(i:Nat) v,c[i]?=some v→∃v',C[s+i]?=some v'∧VR ρ v v'
structure Gx (ρ:j7) (s l:Nat) (e:TypeId) (o o':Obj):Prop where
 sync:Scope.sync=true
 start:s=0
 len:l=0
 row:∃c C fr,0<c.size∧o=.cells c e (0,c.size)∧o'=.cells C e fr∧ki ρ c C
def mD (ρ:j7) (p:Place) (o o':Obj):Prop :=
 match p.part with
 |none=>OR ρ o o'
 |some ⟨s,l,ty⟩=>Gx ρ s l ty.1 o o'∨∃c C,o=.cells c ty.1 (0,0)∧o'=.cells C ty.1 (0,0)∧((Scope.sync=false∧Scope.cells ty.1 ∣ s)∧C.size=ty.2)∧sU ρ s l c C
theorem mD.mono{ρ ρ':j7}{p:Place}{o o':Obj}(h:mD ρ p o o')(l:ρ.le ρ'):mD ρ' p o o':=by
 unfold mD at *;split at h
 ·exact h.mono l
 ·rcases h with⟨k1,k2,e,c,C,fr,j,k,m,n⟩|⟨c,C,q,s,y,d⟩
  ·exact .inl ⟨k1,k2,e,c,C,fr,j,k,m,n.mono l⟩
  ·exact .inr ⟨c,C,q,s,y,d.size,d.room,fun i v z=>by obtain⟨v',a,b⟩:=d.get i v z;exact⟨v',a,b.mono l⟩⟩
structure HR (ρ:j7) (w w':World):Prop where
 obj:∀b p,ρ b=some p→∃o o',w.heap[b]?=some o∧w'.heap[p.block]?=some o'∧mD ρ p o o'
 inj:∀b b' p p',ρ b=some p→ρ b'=some p'→p.block=p'.block→b=b'
 base:Scope.base≤w.heap.size
 os:w'.os=w.os
 sync:Scope.sync=true→w.heap.size=w'.heap.size∧∀b p,ρ b=some p→p=⟨b,none⟩∨∃ty,p=⟨b,some ⟨0,0,ty⟩⟩
structure ru where
 upto:Option Nat
 off:Int
 tape:Tape
structure TA (L:ru) (w w':World):Prop where
 off:(w'.drawn:Int)=w.drawn+L.off
 tape:w.tape=L.tape
 at_:∀j q,(∀l,L.upto=some l→w'.drawn+j<l)→w'.tape (w'.drawn+j) q=w.tape (w.drawn+j) q
def Fits (L:ru) (w:World):Prop:=∀l,L.upto=some l→w.drawn≤l
def In (ρ:j7) (a:Addr):Prop:=∃b p,ρ b=some p∧p.block=a.block∧∀s l ty,p.part=some ⟨s,l,ty⟩→Scope.sync=true∨(s≤a.off∧a.off<s+l)
theorem In.mono{ρ ρ':j7}{a:Addr}(h:In ρ a)(l:ρ.le ρ'):In ρ' a:=by
 obtain⟨b,p,d,e⟩:=h;exact⟨b,p,l _ _ d,e⟩
def nU (ρ:j7) (e:Event):Prop :=
 match e.loc with
 | .cell a=>In ρ a
 | .obj r=>∃b,ρ b=some ⟨r,none⟩
 | .mark m=>m=.noRoom
 | .output=>True
 |_=>False
theorem nU.mono{ρ ρ':j7}{e:Event}(h:nU ρ e)(l:ρ.le ρ'):nU ρ' e:=by
 unfold nU at *;split at h
 ·exact h.mono l
 ·obtain⟨b,hb⟩:=h;exact⟨b,l _ _ hb⟩
 ·exact h
 ·exact h
 ·exact h
structure Grow (ρ:j7) (w:World) (ρ':j7):Prop where
 le:ρ.le ρ'
 new:∀b p,ρ' b=some p→ρ b=some p∨(p.part=none∧w.heap.size≤p.block)
theorem Grow.refl(ρ:j7)(w:World):Grow ρ w ρ:=⟨j7.le_refl ρ,fun _ _ h=>.inl h⟩
structure Kept (ρ:j7) (w w':World):Prop where
 os:w'.os=w.os
 tape:w'.tape=w.tape
 output:w'.output=w.output
 drawn:w.drawn≤w'.drawn
 size:w.heap.size≤w'.heap.size
 other:∀B,B<w.heap.size→(∀b p,ρ b=some p→p.block≠B)→w'.heap[B]?=w.heap[B]?
 part:∀b p s l ty,ρ b=some p→p.part=some ⟨s,l,ty⟩→∃C E C' fr,(Scope.sync=true∨fr=(0,0))∧w.heap[p.block]?=some (.cells C E fr)∧w'.heap[p.block]?=some (.cells C' E fr)∧C'.size=C.size∧∀(i:Nat),(i<s∨s+l≤i)→C'[i]?=C[i]?
theorem Kept.refl{wS w:World}(h:HR ρ wS w):Kept ρ w w :=
 ⟨rfl,rfl,rfl,dD _,dD _,fun _ _ _=>rfl,fun b p s l ty hb hp=>by
  obtain⟨o,o',j,d,e⟩:=h.obj b p hb;unfold mD at e;rw[hp]at e;rcases e with⟨k1,_,_,c,C,fr,_,rfl,rfl,_⟩|⟨c,C,rfl,rfl,_⟩
  ·exact⟨C,ty.1,C,fr,.inl k1,d,d,rfl,fun _ _=>rfl⟩
  ·exact⟨C,ty.1,C,(0,0),.inr rfl,d,d,rfl,fun _ _=>rfl⟩⟩
theorem Kept.trans{ρ ρ':j7}{a b c:World}(h:Kept ρ a b)(g:Grow ρ a ρ')(k:Kept ρ' b c):Kept ρ a c:=by
 refine⟨k.os.trans h.os,k.tape.trans h.tape,k.output.trans h.output,dE h.drawn k.drawn,dE h.size k.size,fun B hB j=>?_,fun x p s l ty hx hp=>?_⟩
 ·refine(k.other B (dF hB h.size) fun y q m e=>?_).trans (h.other B hB j);rcases g.new y q m with d|⟨_,d⟩
  ·exact j y q d e
  ·omega
 ·obtain⟨C,E,C',fr,n,d,z,A,G⟩:=h.part x p s l ty hx hp;obtain⟨D,F,H,j8,_,k1,k2,I,J⟩:=k.part x p s l ty (g.le _ _ hx) hp;rw[z]at k1
  cases k1
  exact⟨C,E,H,fr,n,d,k2,I.trans A,fun i hi=>(J i hi).trans (G i hi)⟩
theorem Grow.trans{ρ ρ' d:j7}{a b:World}(h:Grow ρ a ρ')(j:a.heap.size≤b.heap.size)(k:Grow ρ' b d):Grow ρ a d :=
 ⟨j7.le_trans h.le k.le,fun x p hx=>by
  rcases k.new x p hx with e|⟨e,l⟩
  ·exact h.new x p e
  ·exact .inr ⟨e,by omega⟩⟩
end
section
variable [Scope]
theorem HR.lt{ρ:j7}{w w':World}(h:HR ρ w w'){b:Nat}{p:Place}(e:ρ b=some p):b<w.heap.size∧p.block<w'.heap.size:=by
 obtain⟨o,o',d,j,_⟩:=h.obj b p e;exact⟨(dv.1 d).1,(dv.1 j).1⟩
theorem HR.cell{ρ:j7}{w w':World}(h:HR ρ w w'){a a':Addr}(B:AR ρ a a'){v:Value}(e:w.cell? a=some v):∃v',w'.cell? a'=some v'∧VR ρ v v'∧(w.frozen? a=false→w'.frozen? a'=false)∧In ρ a':=by
 obtain⟨D,p,hp,n,q,y⟩:=B;obtain⟨o,o',k1,k2,d⟩:=h.obj _ p hp;unfold World.cell? at e ⊢;unfold World.frozen?;rw[k1]at e;rw[n,k2,k1];unfold mD at d
 cases b:p.part with
 |none =>
  rw[b]at d;have j:p.shift=0:=by simp[Place.shift,b]
  cases d with
  |cells z =>
   simp only at e ⊢;split at e
   ·cases e
   ·rename_i kp;rw[y,dt kp];obtain⟨v',m,k⟩:=z.at_ e;rw[q,j,dG];exact⟨v',m,k,fun h=>h,_,p,hp,n.symm,fun s l ty hx=>by rw[b]at hx;cases hx⟩
  |map _ _=>simp at e
  |number _=>simp at e
 |some x =>
  obtain⟨s,l,ty⟩:=x;rw[b]at d;have j:p.shift=s:=by simp[Place.shift,b]
  rcases d with⟨E,rfl,rfl,c,C,fr,_,rfl,rfl,z⟩|⟨c,C,rfl,rfl,_,hr⟩
  ·simp only at e ⊢;split at e
   ·cases e
   ·rename_i kp;rw[y,dt kp];obtain⟨v',m,k⟩:=z.at_ e;rw[q,j,dG];have A:=(dv.1 e).1;exact⟨v',m,k,fun F=>by simp[A]at F,_,p,hp,n.symm,fun _ _ _ _=>.inl E⟩
  simp only at e ⊢;split at e
  ·cases e
  ·rename_i kp;rw[y,dt kp];obtain⟨v',m,k⟩:=hr.get _ _ e;rw[q,j];have A:a.off<l:=by have:=(dv.1 e).1;rw[hr.size]at this;exact this
   refine⟨v',m,k,by simp,_,p,hp,n.symm,fun s' l' pK hx=>.inr ?_⟩;rw[b]at hx;cases hx
   rw[q,j];omega
theorem vp(w:World)(a:Addr)(v:Value)(b:Nat):(w.setCell a v).heap[b]?=if b=a.block then(w.heap[b]?).map fun
  | .cells c elem frozen=>.cells (if a.spot.isSome then c else c.setIfInBounds a.off v) elem frozen
  |o=>o else w.heap[b]?:=by
 unfold World.setCell;simp only[dH]
 by_cases h:a.block=b
 ·subst h;simp only[dn];exact dI (fun f=>Option.map f _) (funext fun x=>by cases x<;>rfl)
 ·simp[h,dJ h]
theorem HR.set{ρ:j7}{w w':World}(h:HR ρ w w'){a a':Addr}(N:AR ρ a a'){u v v':Value}(e:w.cell? a=some u)(k:w.frozen? a=false)(G:VR ρ v v'):HR ρ (w.setCell a v) (w'.setCell a' v')∧Kept ρ w' (w'.setCell a' v'):=by
 have H:=h.cell N e;obtain⟨T,p,hp,F,O,U⟩:=N;obtain⟨o,o',k1,k2,z⟩:=h.obj _ p hp;have kp:a.spot=none:=by
  unfold World.cell? at e;rw[k1]at e
  cases o<;>simp at e
  exact e.1
 have j:a'.spot=none:=U.trans kp;have blk:∀(b:Nat),b≠a.block→(w.setCell a v).heap[b]?=w.heap[b]?:=fun b hb=>by rw[vp,dt hb]
 have d:∀(b:Nat),b≠a'.block→(w'.setCell a' v').heap[b]?=w'.heap[b]?:=fun b hb=>by rw[vp,dt hb]
 have key:∃n n',(w.setCell a v).heap[a.block]?=some n∧(w'.setCell a' v').heap[p.block]?=some n'∧mD ρ p n n' ∧
   ∀s l ty,p.part=some ⟨s,l,ty⟩→∃C E C' fr,(Scope.sync=true∨fr=(0,0))∧w'.heap[p.block]?=some (.cells C E fr)∧(w'.setCell a' v').heap[p.block]?=some (.cells C' E fr)∧C'.size=C.size∧∀(i:Nat),(i<s∨s+l≤i)→C'[i]?=C[i]?:=by
  rw[vp,vp,dr rfl,dr F.symm,k1,k2];unfold mD at z ⊢
  cases m:p.part with
  |none =>
   rw[m]at z;have I:p.shift=0:=by simp[Place.shift,m]
   cases z with
   |cells V =>
    refine⟨_,_,rfl,rfl,?_,fun s l ty hx=>by cases hx⟩;simp only[kp,j,dK,dL,dp,O,I,dG];exact .cells (V.set _ G)
   |map a b=>exact⟨_,_,rfl,rfl,.map a b,fun s l ty hx=>by cases hx⟩
   |number a=>exact⟨_,_,rfl,rfl,.number a,fun s l ty hx=>by cases hx⟩
  |some x =>
   obtain⟨s,l,ty⟩:=x;rw[m]at z;have I:p.shift=s:=by simp[Place.shift,m]
   rcases z with⟨j1,rfl,rfl,c,C,fr,_,rfl,rfl,G⟩|⟨c,C,rfl,rfl,A,hr⟩
   ·exfalso;unfold World.cell? at e;rw[k1]at e;simp only[kp,dK,dL,dp]at e;have:=(dv.1 e).1;unfold World.frozen? at k;rw[k1]at k;simp[this]at k
   simp only[dM,kp,j,dK,dL,dp,O,I];have Q:a.off<l:=by
    unfold World.cell? at e;rw[k1]at e;simp only[kp,dK,dL,dp]at e;have:=(dv.1 e).1;rw[hr.size]at this;exact this
   refine⟨_,_,rfl,rfl,.inr ⟨_,_,rfl,rfl,⟨A.1,by simpa using A.2⟩,by simpa using hr.size,by simpa using hr.room,fun i x hx=>?_⟩,fun s' l' pK hx=>?_⟩
   ·rw[dx]at hx ⊢;have J:=hr.room;have hsz:=hr.size
    by_cases S:a.off=i
    ·subst S;rw[dr rfl,dr (by omega)]at hx;rw[dr rfl,dr (by omega)]
     cases hx
     exact⟨v',rfl,G⟩
    ·rw[dt S]at hx;rw[dt (by omega)];exact hr.get i x hx
   ·cases hx
    exact⟨C,ty.1,_,(0,0),.inr rfl,rfl,rfl,by simp,fun i hi=>by rw[dx,dt (by omega)]⟩
 obtain⟨n,n',W,X,Y,Z⟩:=key;refine⟨⟨fun b q hb=>?_,h.inj,by simpa[World.setCell]using h.base,h.os,fun e=>⟨by simpa[World.setCell]using(h.sync e).1,(h.sync e).2⟩⟩,rfl,rfl,rfl,dD _,by simp[World.setCell],fun B hB hn=>?_,fun b q s l ty hb m=>?_⟩
 ·by_cases y:b=a.block
  ·subst y;rw[hp]at hb;cases hb
   exact⟨n,n',W,X,Y⟩
  ·obtain⟨x,x',K,m2,M⟩:=h.obj b q hb;refine⟨x,x',(blk b y).trans K,(d _ fun D=>y (h.inj _ _ _ _ hb hp (D.trans F))).trans m2,M⟩
 ·exact d B fun D=>hn _ p hp (F.symm.trans D.symm)
 ·by_cases y:b=a.block
  ·subst y;rw[hp]at hb;cases hb
   exact Z s l ty m
  ·obtain⟨C,E,C',fr,m0,K,m2,M,m4⟩:=(Kept.refl h).part b q s l ty hb m;exact⟨C,E,C',fr,m0,K,(d _ fun D=>y (h.inj _ _ _ _ hb hp (D.trans F))).trans m2,M,m4⟩
def j7.with (ρ:j7) (b B:Nat):j7:=fun x=>if x=b then some ⟨B,none⟩ else ρ x
variable {ρ:j7} {w w':World} {o o':Obj}
theorem HR.push(h:HR ρ w w')(q:OR ρ o o'):HR (ρ.with w.heap.size w'.heap.size) { w with heap:=w.heap.push o } { w' with heap:=w'.heap.push o' }∧Grow ρ w' (ρ.with w.heap.size w'.heap.size)∧Kept ρ w' { w' with heap:=w'.heap.push o' }:=by
 have hle:ρ.le (ρ.with w.heap.size w'.heap.size):=fun b p hb=>by
  unfold j7.with
  rw[dt (by have:=(h.lt hb).1;omega)];exact hb
 have old:∀b p,(ρ.with w.heap.size w'.heap.size) b=some p→(b=w.heap.size∧p=⟨w'.heap.size,none⟩)∨(b≠w.heap.size∧ρ b=some p):=fun b p hb=>by
  unfold j7.with at hb;split at hb
  ·rename_i e;cases hb;exact .inl ⟨e,rfl⟩
  ·rename_i e;exact .inr ⟨e,hb⟩
 refine⟨⟨fun b p hb=>?_,fun b b' p p' hb d e=>?_,by have:=h.base;simp;omega,h.os,fun e=>⟨by simp[(h.sync e).1],fun b p hb=>by
  rcases old b p hb with⟨rfl,rfl⟩|⟨_,j⟩
  ·rw[(h.sync e).1];exact .inl rfl
  ·exact(h.sync e).2 b p j⟩⟩,⟨hle,fun b p hb=>?_⟩,rfl,rfl,rfl,dD _,by simp,fun B hB _=>by simp[dq,dN hB],fun b p s l ty hb y=>?_⟩
 ·rcases old b p hb with⟨rfl,rfl⟩|⟨_,d⟩
  ·exact⟨o,o',by simp,by simp,q.mono hle⟩
  ·obtain⟨x,z,k,m2,m⟩:=h.obj b p d;have:=h.lt d;exact⟨x,z,by simp[dq,dN this.1,k],by simp[dq,dN this.2,m2],m.mono hle⟩
 ·rcases old b p hb with⟨rfl,rfl⟩|⟨_,j⟩<;>rcases old b' p' d with⟨rfl,rfl⟩|⟨_,n⟩
  ·rfl
  ·have:=(h.lt n).2;simp only at e;omega
  ·have:=(h.lt j).2;simp only at e;omega
  ·exact h.inj _ _ _ _ j n e
 ·rcases old b p hb with⟨_,rfl⟩|⟨_,j⟩
  ·exact .inr ⟨rfl,dD _⟩
  ·exact .inl j
 ·obtain⟨C,E,C',fr,m0,k,m2,m,A⟩:=(Kept.refl h).part b p s l ty hb y;have:=(h.lt hb).2;exact⟨C,E,C',fr,m0,k,by simp[dq,dN this,m2],m,A⟩
variable {r':Nat}
theorem HR.lay(h:HR ρ w w'){r:Nat}(hr:ρ r=some ⟨r',none⟩)(q:OR ρ o o'):HR ρ { w with heap:=w.heap.setIfInBounds r o } { w' with heap:=w'.heap.setIfInBounds r' o' }∧Kept ρ w' { w' with heap:=w'.heap.setIfInBounds r' o' }:=by
 have m:=h.lt hr;refine⟨⟨fun b p hb=>?_,h.inj,by simpa using h.base,h.os,fun e=>⟨by simpa using(h.sync e).1,(h.sync e).2⟩⟩,rfl,rfl,rfl,dD _,by simp,fun B hB y=>?_,fun b p s l ty hb n=>?_⟩
 ·by_cases d:b=r
  ·subst d;rw[hr]at hb;cases hb
   exact⟨o,o',by simp[m.1],by simp[m.2],q⟩
  ·obtain⟨x,z,j,m2,k⟩:=h.obj b p hb;have ne:p.block≠r':=fun e=>d (h.inj _ _ _ _ hb hr e)
   exact⟨x,z,by simp[dO (dJ d),j],by simp[dO (dJ ne),m2],k⟩
 ·have ne:r'≠B:=fun e=>y _ _ hr e
  simp[dO ne]
 ·obtain⟨C,E,C',fr,m0,j,m2,k,A⟩:=(Kept.refl h).part b p s l ty hb n;have ne:p.block≠r':=fun e=>by
   have:=h.inj _ _ _ _ hb hr e;subst this;rw[hr]at hb;cases hb;cases n
  exact⟨C,E,C',fr,m0,j,by simp[dO (dJ ne),m2],k,A⟩
theorem BX(w:World)(a:Addr)(n:Nat)(o:Obj)(h:w.heap[a.block]?=some o):w.freeze a n=if n=0 then w else { w with heap:=w.heap.setIfInBounds a.block (match o with
   | .cells c elem (lo,hi)=>.cells c elem (if lo == hi then(a.off,a.off+n) else(min lo a.off,max hi (a.off+n)))
   |o=>o) }:=by
 unfold World.freeze;split
 ·rfl
 ·congr 1;apply dP;intro j;rw[dH,dx]
  by_cases e:a.block=j
  ·subst e;have b:=(dv.1 h).1;simp only[dn,h,dM,b]
   cases o<;>rfl
  ·simp[e]
theorem HR.freeze(h:HR ρ w w'){a a':Addr}(n:Nat)(hr:ρ a.block=some ⟨r',none⟩)(hb:a'.block=r')(d:a'.off=a.off):HR ρ (w.freeze a n) (w'.freeze a' n)∧Kept ρ w' (w'.freeze a' n):=by
 obtain⟨o,o',e,m2,j⟩:=h.obj _ _ hr;rw[BX w a n o e,BX w' a' n o' (by rw[hb];exact m2)];split
 ·exact⟨h,.refl h⟩
 ·subst hb;refine h.lay hr ?_;have k:OR ρ o o':=j
  cases k with
  |cells l=>simp only[d];exact .cells l
  |map a b=>exact .map a b
  |number a=>exact .number a
theorem TA.same{L:ru}{w w' v v':World}(h:TA L w w')(e:v.tape=w.tape)(b:v'.tape=w'.tape)(d:v.drawn=w.drawn)(d':v'.drawn=w'.drawn):TA L v v':=by
 refine⟨by rw[d,d'];exact h.off,e.trans h.tape,fun j q=>?_⟩;rw[e,b,d,d'];exact h.at_ j q
variable {L:ru}
theorem TA.draw(h:TA L w w'):TA L { w with drawn:=w.drawn+1 } { w' with drawn:=w'.drawn+1 }:=by
 refine⟨by have:=h.off;simp only;omega,h.tape,fun j q b=>?_⟩;have:=h.at_ (j+1) q (fun l d=>by have:=b l d;simp only at this;omega);simp only;rw[dQ,dR 1 j,dQ,dR 1 j];exact this
theorem TA.now(h:TA L w w')(b:∀l,L.upto=some l→w'.drawn<l)(q:Question):w'.tape w'.drawn q=w.tape w.drawn q:=by
 simpa using h.at_ 0 q fun l d=>by have:=b l d;omega
end
section
variable [Scope]
def ShR (p:Place) (s s':Option (TypeId×Nat)):Prop:=match p.part with
 |none=>s=s'
 |some ⟨st,l,e⟩=>(Scope.sync=true∧st=0∧∃n,s=some (e.1,n)∧s'=some (e.1,n))∨∃N,s=some (e.1,l)∧s'=some (e.1,N)∧st+l≤N∧Scope.cells e.1 ∣ st
def vq:Halt→Bool
 | .unsupported (.initOrder _)=>false
 | .unsupported _ | .stuck _=>true
 |_=>false
inductive SR (P:Program) {α β:Type} (R:j7→α→β→Prop):j7→Sem α→Sem β→Prop
 |pure {ρ:j7} {a:α} {b:β}:R ρ a b→SR P R ρ (.pure a) (.pure b)
 |load {ρ:j7} {m:Mode} {a a':Addr} {k:Value→Sem α} {k':Value→Sem β}:AR ρ a a'→(∀v v',VR ρ v v'→SR P R ρ (k v) (k' v'))→SR P R ρ (.load m a k) (.load m a' k')
 |store {ρ:j7} {m:Mode} {a a':Addr} {v v':Value} {k:Sem α} {k':Sem β}:AR ρ a a'→VR ρ v v'→SR P R ρ k k'→SR P R ρ (.store m a v k) (.store m a' v' k')
 |new {ρ:j7} {o o':Obj} {k:Nat→Sem α} {k':Nat→Sem β}:OR ρ o o'→(∀(ρ':j7) r r',ρ.le ρ'→Scope.base≤r→ρ' r=some ⟨r',none⟩→SR P R ρ' (k r) (k' r'))→SR P R ρ (.new o k) (.new o' k')
 |shape {ρ:j7} {p:Place} {r:Nat} {k:Option (TypeId×Nat)→Sem α} {k':Option (TypeId×Nat)→Sem β}:ρ r=some p→(∀s s',ShR p s s'→SR P R ρ (k s) (k' s'))→SR P R ρ (.shape r k) (.shape p.block k')
 |freeze {ρ:j7} {a a':Addr} {n:Nat} {k:Sem α} {k':Sem β}:ρ a.block=some ⟨a'.block,none⟩→a'.off=a.off→SR P R ρ k k'→SR P R ρ (.freeze a n k) (.freeze a' n k')
 |getObj {ρ:j7} {r r':Nat} {k:Obj→Sem α} {k':Obj→Sem β}:ρ r=some ⟨r',none⟩→(∀o o',OR ρ o o'→SR P R ρ (k o) (k' o'))→SR P R ρ (.getObj r k) (.getObj r' k')
 |setObj {ρ:j7} {r r':Nat} {o o':Obj} {k:Sem α} {k':Sem β}:ρ r=some ⟨r',none⟩→OR ρ o o'→SR P R ρ k k'→SR P R ρ (.setObj r o k) (.setObj r' o' k')
 |choose {ρ:j7} {q:Question} {k:Nat→Sem α} {k':Nat→Sem β}:(∀n,SR P R ρ (k n) (k' n))→SR P R ρ (.choose q k) (.choose q k')
 |program {ρ:j7} {k:Program→Sem α} {k':Program→Sem β}:SR P R ρ (k P) (k' P)→SR P R ρ (.program k) (.program k')
 |qx {ρ:j7} {k:Program→Sem α} {y:Sem β}:SR P R ρ (k P) y→SR P R ρ (.program k) y
 |vt {ρ:j7} {k:Sem α} {y:Sem β}:SR P R ρ k y→SR P R ρ (.mark .noRoom k) y
 |tD {ρ:j7} {r:Nat} {k:Option (TypeId×Nat)→Sem α} {y:Sem β}:(∀s,SR P R ρ (k s) y)→SR P R ρ (.shape r k) y
 |ur {ρ:j7} {a:Addr} {k:Bool→Sem α} {y:Sem β}:(∀s,SR P R ρ (k s) y)→SR P R ρ (.frozen a k) y
 |env {ρ:j7} {k:SysRet→Sem α} {k':SysRet→Sem β}:(∀s,SR P R ρ (k (.strings s)) (k' (.strings s)))→SR P R ρ (.sys .env k) (.sys .env k')
 |room {ρ:j7} {k:Sem α} {k':Sem β}:SR P R ρ k k'→SR P R ρ (.mark .noRoom k) (.mark .noRoom k')
 |panic {ρ:j7} {v v':Value}:VR ρ v v'→SR P R ρ (.halt (.panic v)) (.halt (.panic v'))
 |dead {ρ:j7} {h:Halt} {y:Sem β}:vq h=true→SR P R ρ (.halt h) y
section
variable {P:Program} {α β γ δ:Type}
theorem SR.bind{R:j7→α→β→Prop}{j:j7→γ→δ→Prop}{ρ:j7}{x:Sem α}{y:Sem β}{f:α→Sem γ}{g:β→Sem δ}(h:SR P R ρ x y)(k:∀(ρ':j7) a b,ρ.le ρ'→R ρ' a b→SR P j ρ' (f a) (g b)):SR P j ρ (x >>= f) (y >>= g):=by
 show SR P j ρ (x.bind f) (y.bind g)
 induction h with
 |pure h=>exact k _ _ _ (j7.le_refl _) h
 |load h _ d=>exact .load h fun v v' z=>d v v' z k
 |store h h' _ d=>exact .store h h' (d k)
 |new h _ d=>exact .new h fun ρ' r r' q hb hr=>d ρ' r r' q hb hr fun e a b l m=>k e a b (j7.le_trans q l) m
 |shape h _ d=>exact .shape h fun s s' A=>d s s' A k
 |freeze h h' _ d=>exact .freeze h h' (d k)
 |getObj h _ d=>exact .getObj h fun o o' B=>d o o' B k
 |setObj h h' _ d=>exact .setObj h h' (d k)
 |choose _ d=>exact .choose fun n=>d n k
 |program _ d=>exact .program (d k)
 |qx _ d=>exact .qx (d k)
 |vt _ d=>exact .vt (d k)
 |tD _ d=>exact .tD fun s=>d s k
 |ur _ d=>exact .ur fun s=>d s k
 |env _ d=>exact .env fun s=>d s k
 |room _ d=>exact .room (d k)
 |panic h=>exact .panic h
 |dead h=>exact .dead h
theorem SR.mono{R m:j7→α→β→Prop}{ρ:j7}{x:Sem α}{y:Sem β}(h:SR P R ρ x y)(k:∀ρ' a b,ρ.le ρ'→R ρ' a b→m ρ' a b):SR P m ρ x y:=by
 induction h with
 |pure h=>exact .pure (k _ _ _ (j7.le_refl _) h)
 |load h _ d=>exact .load h fun v v' z=>d v v' z k
 |store h h' _ d=>exact .store h h' (d k)
 |new h _ d=>exact .new h fun ρ' r r' q hb hr=>d ρ' r r' q hb hr fun e a b j l=>k e a b (j7.le_trans q j) l
 |shape h _ d=>exact .shape h fun s s' A=>d s s' A k
 |freeze h h' _ d=>exact .freeze h h' (d k)
 |getObj h _ d=>exact .getObj h fun o o' B=>d o o' B k
 |setObj h h' _ d=>exact .setObj h h' (d k)
 |choose _ d=>exact .choose fun n=>d n k
 |program _ d=>exact .program (d k)
 |qx _ d=>exact .qx (d k)
 |vt _ d=>exact .vt (d k)
 |tD _ d=>exact .tD fun s=>d s k
 |ur _ d=>exact .ur fun s=>d s k
 |env _ d=>exact .env fun s=>d s k
 |room _ d=>exact .room (d k)
 |panic h=>exact .panic h
 |dead h=>exact .dead h
variable {ρ:j7}
theorem SR.ite{R:j7→α→β→Prop}{c:Prop}[Decidable c]{x b:Sem α}{y d:Sem β}(h:c→SR P R ρ x y)(k:¬c→SR P R ρ b d):SR P R ρ (if c then x else b) (if c then y else d):=by
 by_cases e:c
 ·rw[dr e,dr e];exact h e
 ·rw[dt e,dt e];exact k e
def _root_.Go.Result.world {α:Type}:Result α→World
 | .ok _ w | .halt _ w=>w
theorem Gy(w:World):∀{α:Type}(a:Ask α),w.drawn≤(w.ask a).2.drawn:=by
 intro α a
 induction a generalizing w with
 |done a=>exact dD _
 |ask b range k d =>
  unfold World.ask;simp only;split
  ·exact d 0 w
  ·exact dE (Nat.le_succ _) (d _ { w with drawn:=w.drawn+1 })
theorem Gz(w:World)(c:Sys):w.drawn≤(w.sys c).2.drawn:=by
 have:=Gy w (Kernel.perform c w.os);unfold World.sys;split
 ·exact dD _
 ·rename_i e;rw[e]at this;exact this
theorem xX{b:Type}{x:Except b α}{f:α→Except b β}{r:β}(h:x >>= f=.ok r):∃a,x=.ok a∧f a=.ok r:=by
 cases x with
 |error e=>cases h
 |ok a=>exact⟨a,rfl,h⟩
variable {p:Program} {w:World} {a:Addr} {v:Value} {t:Bool}
theorem GA{b:Addr}{u:TypeId}{r:World×List Addr}(h:w.viewStore p b u a v t=.ok r):r.1.drawn=w.drawn:=by
 unfold World.viewStore at h;dsimp only at h;split at h
 ·obtain⟨_,d,_⟩:=xX h
  cases d
 ·obtain⟨x,_,h⟩:=xX h;obtain⟨c,e,fr,first,lZ,cells⟩:=x;dsimp only at h;split at h
  ·split at h
   ·obtain⟨_,d,_⟩:=xX h
    cases d
   ·obtain⟨y,_,h⟩:=xX h
    cases h
    rfl
  ·cases h
variable {w':World}
theorem GB{l:List Addr}(h:w.farStore p a v t=.ok (w',l)):w'.drawn=w.drawn:=by
 unfold World.farStore at h;split at h
 ·split at h
  ·rename_i e
   cases h
   exact GA e
  ·cases h
 ·cases h
theorem BZ(x:Sem α):∀w:World,w.drawn≤(x.run P w).world.drawn:=by
 induction x with
 |pure a=>exact fun w=>dD _
 |load m a k b =>
  intro w;simp only[Sem.run];split
  ·exact b _ w
  ·split
   ·exact b _ w
   ·exact dD _
 |store m a v k b =>
  intro w;have main:w.drawn≤(match w.cell? a with
     |some _=>if w.frozen? a then(.halt (.unsupported (.unsafePointer "a write to bytes that a string shares")) w:Result α) else k.run P (w.setCell a v)
     |none=>match w.farStore P a v (m == Mode.atomic)with
      | .ok (w,_)=>k.run P w
      | .error h=>.halt h w).world.drawn:=by
   split
   ·split
    ·exact dD _
    ·exact b (w.setCell a v)
   ·split
    ·rename_i w1 l e;rw[←GB e];exact b w1
    ·exact dD _
  cases v<;>first|exact main|exact dD _
 |new o k b=>exact fun w=>b _ { w with heap:=w.heap.push o }
 |shape r k b=>exact fun w=>b _ w
 |freeze a n k b =>
  intro w;have:(w.freeze a n).drawn=w.drawn:=by unfold World.freeze;split<;>rfl
  simp only[Sem.run];rw[←this];exact b (w.freeze a n)
 |frozen a k b=>exact fun w=>b _ w
 |getObj r k b =>
  intro w;simp only[Sem.run];split
  ·exact dD _
  ·exact b _ w
  ·exact dD _
 |setObj r o k b =>
  intro w;simp only[Sem.run];split
  ·exact dD _
  ·exact b { w with heap:=w.heap.setIfInBounds r o }
  ·exact dD _
 |choose q k b =>
  intro w;simp only[Sem.run];split
  ·exact b _ w
  ·exact dE (Nat.le_succ _) (b _ { w with drawn:=w.drawn+1 })
 |sys c k b=>exact fun w=>dE (Gz w c) (b _ _)
 |program k b=>exact fun w=>b _ w
 |mark m k b=>exact fun w=>b w
 |halt h=>exact fun w=>dD _
def After (L:ru) (R:j7→α→β→Prop) (ρ:j7) (w':World) (lW:Array Event):Result α→Result β×Array Event→Prop
 | .ok a wS,r=>Fits L r.1.world→∃b wB new ρ',r=(.ok b wB,lW++new)∧Grow ρ w' ρ'∧R ρ' a b∧HR ρ' wS wB∧TA L wS wB∧Kept ρ w' wB∧∀e∈new,nU ρ' e
 | .halt (.panic v) wS,r=>Fits L r.1.world→∃v' wB new ρ',r=(.halt (.panic v') wB,lW++new)∧Grow ρ w' ρ'∧VR ρ' v v'∧HR ρ' wS wB∧TA L wS wB∧Kept ρ w' wB∧∀e∈new,nU ρ' e
 | .halt h _,_=>vq h=true
variable {L:ru} {v':World} {lW:Array Event}
theorem After.step{R:j7→α→β→Prop}{ρ':j7}{l:Array Event}{x:Result α}{y:Result β×Array Event}(g:Grow ρ w' ρ')(k:Kept ρ w' v')(B:∀e∈l,nU ρ' e)(h:After L R ρ' v' (lW++l) x y):After L R ρ w' lW x y:=by
 unfold After at *;split at h
 ·intro m;obtain⟨b,wB,new,d,rfl,j,n,q,s,z,A⟩:=h m;refine⟨b,wB,l++new,d,by rw[Array.append_assoc],g.trans k.size j,n,q,s,k.trans g z,fun e he=>?_⟩;rcases dS.1 he with he|he
  ·exact(B e he).mono j.le
  ·exact A e he
 ·intro m;obtain⟨b,wB,new,d,rfl,j,n,q,s,z,A⟩:=h m;refine⟨b,wB,l++new,d,by rw[Array.append_assoc],g.trans k.size j,n,q,s,k.trans g z,fun e he=>?_⟩;rcases dS.1 he with he|he
  ·exact(B e he).mono j.le
  ·exact A e he
 ·exact h
theorem After.none{R:j7→α→β→Prop}{x:Result α}{y:Result β×Array Event}(k:Kept ρ w' v')(h:After L R ρ v' lW x y):After L R ρ w' lW x y :=
 After.step (l:=#[]) (Grow.refl _ _) k (by simp) (by simpa using h)
theorem After.dead{R:j7→α→β→Prop}{wS:World}{h:Halt}{y:Result β×Array Event}(b:vq h=true):After L R ρ w' lW (.halt h wS) y:=by
 unfold After;split
 ·rename_i e;cases e
 ·rename_i e;cases e;cases b
 ·rename_i e;cases e;exact b
theorem GC(h:HR ρ w w'){r:Nat}{p:Place}(e:ρ r=some p):ShR p (w.shape? r) (w'.shape? p.block):=by
 obtain⟨o,o',k,m,b⟩:=h.obj r p e;unfold World.shape? ShR;rw[k,m];unfold mD at b
 cases j:p.part with
 |none =>
  rw[j]at b
  cases b with
  |cells d=>simp[d.size]
  |map _ _=>rfl
  |number _=>rfl
 |some x =>
  obtain⟨s,l,ty⟩:=x;rw[j]at b;rcases b with⟨n,rfl,rfl,c,C,fr,_,rfl,rfl,d⟩|⟨c,C,rfl,rfl,hd,hr⟩
  ·exact .inl ⟨n,rfl,C.size,by simp[d.size],rfl⟩
  ·exact .inr ⟨C.size,by simp[hr.size],rfl,hr.room,hd.1.2⟩
variable {a':Addr}
theorem GF(h:HR ρ w w')(e:AR ρ a a')(t:Bool)(p:Program):∃d,w.farLoad p a t=.error d∧vq d=true:=by
 obtain⟨j,q,hp,k,l,m⟩:=e;obtain⟨o,o',k1,k2,b⟩:=h.obj _ q hp;unfold World.farLoad World.noCell;rw[k1];unfold mD at b;split at b
 ·cases b<;>exact⟨_,rfl,rfl⟩
 ·rcases b with⟨_,_,_,c,C,fr,_,rfl,rfl,_⟩|⟨c,C,rfl,rfl,_⟩
  ·exact⟨_,rfl,rfl⟩
  ·exact⟨_,rfl,rfl⟩
theorem GG(h:HR ρ w w')(e:AR ρ a a')(u:Value)(t:Bool)(p:Program):∃d,w.farStore p a u t=.error d∧vq d=true:=by
 obtain⟨j,q,hp,k,l,m⟩:=e;obtain⟨o,o',k1,k2,b⟩:=h.obj _ q hp;unfold World.farStore World.noCell;rw[k1];unfold mD at b;split at b
 ·cases b<;>exact⟨_,rfl,rfl⟩
 ·rcases b with⟨_,_,_,c,C,fr,_,rfl,rfl,_⟩|⟨c,C,rfl,rfl,_⟩
  ·exact⟨_,rfl,rfl⟩
  ·exact⟨_,rfl,rfl⟩
theorem vu{R:j7→α→β→Prop}{x:Sem α}{y:Sem β}(h:SR P R ρ x y):∀(wS wB:World)(es:Array Event),HR ρ wS wB→TA L wS wB→After L R ρ wB es (x.run P wS) (y.runT P wB es):=by
 induction h with
 |pure h=>exact fun wS wB es b d _=>⟨_,_,#[],_,by simp[Sem.runT],Grow.refl _ _,h,b,d,.refl b,by simp⟩
 | @load ρ m a a' k k' F _ j =>
  intro wS wB es b d;simp only[Sem.run,Sem.runT]
  cases e:wS.cell? a with
  |none =>
   obtain⟨q,O,hd⟩:=GF b F (m == .atomic) P;simp only[O];exact After.dead hd
  |some v =>
   obtain⟨v',Q,M,_,C⟩:=b.cell F e;simp only[Q];exact After.step (l:=#[⟨.cell a',false,m == .atomic⟩]) (Grow.refl _ _) (.refl b) (by intro e he;simp at he;subst he;exact C) (by simpa using j v v' M wS wB _ b d)
 | @store ρ m a a' v v' k k' F M _ j =>
  intro wS wB es b d;have main:(∀x,v≠.agg x)→(∀x,v≠.tuple x)→(∀x,v'≠.agg x)→(∀x,v'≠.tuple x)→After L R ρ wB es ((Sem.store m a v k).run P wS) ((Sem.store m a' v' k').runT P wB es):=by
   intro n1 n2 n3 n4;have r1:(Sem.store m a v k).run P wS=match wS.cell? a with
     |some _=>if wS.frozen? a then .halt (.unsupported (.unsafePointer "a write to bytes that a string shares")) wS else k.run P (wS.setCell a v)
     |none=>match wS.farStore P a v (m == .atomic)with
      | .ok (w,_)=>k.run P w
      | .error h=>.halt h wS:=by
    cases v<;>first|rfl|exact absurd rfl (n1 _)|exact absurd rfl (n2 _)
   have r2:(Sem.store m a' v' k').runT P wB es=match wB.cell? a' with
     |some _=>if wB.frozen? a' then(.halt (.unsupported (.unsafePointer "a write to bytes that a string shares")) wB,es) else k'.runT P (wB.setCell a' v') (es.push ⟨.cell a',true,m == .atomic⟩)
     |none=>match wB.farStore P a' v' (m == .atomic)with
      | .ok (w,s)=>k'.runT P w (es++s.toArray.map (⟨.cell ·,true,m == .atomic⟩))
      | .error h=>(.halt h wB,es):=by
    cases v'<;>first|rfl|exact absurd rfl (n3 _)|exact absurd rfl (n4 _)
   rw[r1,r2]
   cases e:wS.cell? a with
   |none =>
    obtain⟨q,O,hd⟩:=GG b F v (m == .atomic) P;simp only[O];exact After.dead hd
   |some u =>
    obtain⟨u',Q,_,N,C⟩:=b.cell F e
    by_cases G:wS.frozen? a=true
    ·simp only[G,dn];exact After.dead rfl
    ·have G:wS.frozen? a=false:=by simpa using G
     simp only[Q,N G,G,dL,dp];obtain⟨A,z⟩:=b.set F e G M;refine After.step (l:=#[⟨.cell a',true,m == .atomic⟩]) (Grow.refl _ _) z (by intro e he;simp at he;subst he;exact C) ?_;have:=j (wS.setCell a v) (wB.setCell a' v') (es.push ⟨.cell a',true,m == .atomic⟩) A (d.same rfl rfl rfl rfl);simpa using this
  cases M with
  |agg _ _=>exact After.dead rfl
  |tuple _ _=>exact After.dead rfl
  |hole _ Y=>exact main (by intro _ e;cases e) (by intro _ e;cases e) (by rintro x rfl;simp[nC]at Y) (by rintro x rfl;simp[nC]at Y)
  |_=>exact main (by intro _ e;cases e) (by intro _ e;cases e) (by intro _ e;cases e) (by intro _ e;cases e)
 |new B _ j =>
  intro wS wB es b d;obtain⟨A,z,g3⟩:=b.push B;simp only[Sem.run,Sem.runT];refine After.step (l:=#[]) z g3 (by simp) ?_;have:=j _ wS.heap.size wB.heap.size z.le b.base (by simp[j7.with]) _ _ es A (d.same rfl rfl rfl rfl);simpa using this
 |shape hr _ j=>exact fun wS wB es b d=>j _ _ (GC b hr) wS wB es b d
 |freeze hr B _ j =>
  intro wS wB es b d;obtain⟨A,z⟩:=b.freeze _ hr rfl B;exact After.none z (j _ _ es A (d.same (by unfold World.freeze;split<;>rfl) (by unfold World.freeze;split<;>rfl) (by unfold World.freeze;split<;>rfl) (by unfold World.freeze;split<;>rfl)))
 | @getObj ρ r r' k k' hr _ j =>
  intro wS wB es b d;obtain⟨o,o',S,T,U⟩:=b.obj _ _ hr;have V:OR ρ o o':=U;simp only[Sem.run,Sem.runT,S,T]
  cases V with
  |cells _=>exact After.dead rfl
  | @map W ES clk H Z =>
   refine After.step (l:=#[⟨.obj r',false,false⟩]) (Grow.refl _ _) (.refl b) (by intro e he;simp at he;subst he;exact⟨r,hr⟩) ?_;have:=j _ _ (OR.map (clk:=clk) H Z) wS wB (es.push ⟨.obj r',false,false⟩) b d;simpa[Obj.isChan]using this
  | @number a1 a2 lost H =>
   refine After.step (l:=#[⟨.obj r',false,false⟩]) (Grow.refl _ _) (.refl b) (by intro e he;simp at he;subst he;exact⟨r,hr⟩) ?_;have:=j _ _ (OR.number (lost:=lost) H) wS wB (es.push ⟨.obj r',false,false⟩) b d;simpa[Obj.isChan]using this
 | @setObj ρ r r' o1 o2 k k' hr B _ j =>
  intro wS wB es b d;obtain⟨o,o',S,T,U⟩:=b.obj _ _ hr;have V:OR ρ o o':=U;simp only[Sem.run,Sem.runT,S,T]
  cases V with
  |cells _=>exact After.dead rfl
  | @map W ES clk H Z =>
   obtain⟨A,z⟩:=b.lay hr B;have X:o2.isChan=false:=by cases B<;>rfl
   refine After.step (l:=#[⟨.obj r',true,false⟩]) (Grow.refl _ _) z (by intro e he;simp at he;subst he;exact⟨r,hr⟩) ?_;have:=j _ _ (es.push ⟨.obj r',true,false⟩) A (d.same rfl rfl rfl rfl);simpa[X]using this
  | @number a1 a2 lost H =>
   obtain⟨A,z⟩:=b.lay hr B;have X:o2.isChan=false:=by cases B<;>rfl
   refine After.step (l:=#[⟨.obj r',true,false⟩]) (Grow.refl _ _) z (by intro e he;simp at he;subst he;exact⟨r,hr⟩) ?_;have:=j _ _ (es.push ⟨.obj r',true,false⟩) A (d.same rfl rfl rfl rfl);simpa[X]using this
 | @choose ρ q k k' _ j =>
  intro wS wB es b d;simp only[Sem.run,Sem.runT]
  by_cases N:q.forced=true
  ·simp only[N,dn];exact j 0 wS wB es b d
  ·simp only[N];have I:HR ρ { wS with drawn:=wS.drawn+1 } { wB with drawn:=wB.drawn+1 }:=⟨b.obj,b.inj,b.base,b.os,b.sync⟩;have J:TA L { wS with drawn:=wS.drawn+1 } { wB with drawn:=wB.drawn+1 }:=d.draw;have D:=BZ (P:=P) (k' (q.cut (wB.tape wB.drawn q))) { wB with drawn:=wB.drawn+1 };have K:(Sem.runT P (k' (q.cut (wB.tape wB.drawn q))) { wB with drawn:=wB.drawn+1 } es).1=Sem.run P (k' (q.cut (wB.tape wB.drawn q))) { wB with drawn:=wB.drawn+1 }:=by rw[dT]
   have key:Fits L (Sem.runT P (k' (q.cut (wB.tape wB.drawn q))) { wB with drawn:=wB.drawn+1 } es).1.world→wB.tape wB.drawn q=wS.tape wS.drawn q:=fun n=>by
    rw[K]at n;exact d.now (fun l hL=>by have:=n l hL;simp only at D;omega) q
   by_cases n:Fits L (Sem.runT P (k' (q.cut (wB.tape wB.drawn q))) { wB with drawn:=wB.drawn+1 } es).1.world
   ·rw[key n];exact After.none (w':=wB) (v':={ wB with drawn:=wB.drawn+1 }) ⟨rfl,rfl,rfl,Nat.le_succ _,dD _,fun _ _ _=>rfl,(Kept.refl b).part⟩ (j _ _ _ es I J)
   ·have E:=j (q.cut (wS.tape wS.drawn q)) { wS with drawn:=wS.drawn+1 } { wB with drawn:=wB.drawn+1 } es I J;unfold After at E ⊢;generalize Sem.run P (k (q.cut (wS.tape wS.drawn q))) { wS with drawn:=wS.drawn+1 }=r at E ⊢
    cases r with
    |ok a w=>exact fun hx=>absurd hx n
    |halt h w =>
     cases h with
     |panic v=>exact fun hx=>absurd hx n
     |_=>exact E
 |program _ j=>exact fun wS wB es b d=>j wS wB es b d
 |qx _ j=>exact fun wS wB es b d=>j wS wB es b d
 |vt _ j=>exact fun wS wB es b d=>j wS wB es b d
 |tD _ j=>exact fun wS wB es b d=>j _ wS wB es b d
 |ur _ j=>exact fun wS wB es b d=>j _ wS wB es b d
 |env _ j =>
  intro wS wB es b d;have e1:wS.sys .env=(.strings wS.os.env,wS):=rfl;have e2:wB.sys .env=(.strings wS.os.env,wB):=by rw[←b.os];rfl
  simp only[Sem.run,Sem.runT,e1,e2];refine After.step (l:=#[⟨.output,true,false⟩]) (Grow.refl _ _) (.refl b) (by intro e he;simp at he;subst he;trivial) ?_;have:=j wS.os.env wS wB (es.push ⟨.output,true,false⟩) b d;simpa using this
 |room _ j =>
  intro wS wB es b d;refine After.step (l:=#[⟨.mark .noRoom,false,true⟩]) (Grow.refl _ _) (.refl b) (by intro e he;simp at he;subst he;exact rfl) ?_;have:=j wS wB (es.push ⟨.mark .noRoom,false,true⟩) b d;simpa[Sem.run,Sem.runT]using this
 |panic h=>exact fun wS wB es b d _=>⟨_,_,#[],_,by simp[Sem.runT],Grow.refl _ _,h,b,d,.refl b,by simp⟩
 |dead h=>exact fun wS wB es b d=>After.dead h
end
end
section
variable [Scope]
class kD (P:Program):Prop where
 zero:∀t i z,P.info? t=some i→i.zero=some z→clear 8 z=true
 base:P.globals.size≤Scope.base
 cells:∀t,Scope.cells t=P.cellsOf t
 align:∀t i,P.info? t=some i→i.align ∣ i.bytes
 chans:∀t d e,P.underlying t=some (.chan d e)→Scope.chans t=true
 B1:∀i,P.info? 0=some i→i.methods.find? (·.name == "")=none
section
variable {P:Program} {α β:Type} {R:j7→α→β→Prop} {ρ:j7}
theorem kr{b:String}{y:Sem β}:SR P R ρ (stuck b) y:=.dead rfl
theorem kP{u:Unsupported}{y:Sem β}(hu:vq (.unsupported u)=true:=by rfl):SR P R ρ (unsupported u) y:=.dead hu
theorem kg{a:α}{b:β}(h:R ρ a b):SR P R ρ (Pure.pure a) (Pure.pure b):=.pure h
theorem uu{v v':Value}(h:VR ρ v v'):SR P R ρ (goPanic v) (goPanic v'):=.panic h
theorem tE:SR P (fun _ a b=>a=P∧b=P) ρ program program:=.program (.pure ⟨rfl,rfl⟩)
theorem vv{f:Program→Sem α}{g:Program→Sem β}(h:SR P R ρ (f P) (g P)):SR P R ρ (program >>= f) (program >>= g):=SR.program h
theorem vw(q:Question):SR P (fun _ a b=>a=b) ρ (choose q) (choose q):=.choose fun n=>.pure rfl
theorem B2(n:Nat):SR P (fun _ _ _=>True) ρ (askRoom n) (askRoom n):=by
 unfold askRoom;split
 ·exact .room (.pure trivial)
 ·exact .pure trivial
theorem rY(t:TypeId):SR P (fun _ a b=>a=b∧P.info? t=some a) ρ (typeInfo t) (typeInfo t):=by
 unfold typeInfo;refine SR.bind tE fun ρ' a b _ h=>?_
 obtain⟨rfl,rfl⟩:=h;split
 ·rename_i i e;exact kg ⟨rfl,e⟩
 ·exact kr
theorem mi(t:TypeId):SR P (fun _ a b=>a=b∧P.underlying t=some a) ρ (underlying t) (underlying t):=by
 unfold underlying;refine SR.bind tE fun ρ' a b _ h=>?_
 obtain⟨rfl,rfl⟩:=h;split
 ·rename_i i e;exact kg ⟨rfl,e⟩
 ·exact kr
theorem qy(t:TypeId):SR P (fun _ a b=>a=b∧∃i,P.info? t=some i∧i.size=a) ρ (sizeOf t) (sizeOf t):=by
 unfold sizeOf;refine SR.bind (rY t) fun ρ' a b _ h=>?_
 obtain⟨rfl,h⟩:=h;exact kg ⟨rfl,a,h,rfl⟩
theorem B3(t:TypeId):SR P (fun _ a b=>a=b) ρ (isAgg t) (isAgg t):=by
 unfold isAgg;refine SR.bind (mi t) fun ρ' a b _ h=>?_
 obtain⟨rfl,h⟩:=h
 cases a<;>exact kg rfl
theorem uv[kD P](t:TypeId):SR P (fun ρ a b=>a=b∧∀ρ',VR ρ' a a) ρ (zeroValue t) (zeroValue t):=by
 unfold zeroValue;refine SR.bind (rY t) fun ρ' a b _ h=>?_
 obtain⟨rfl,h⟩:=h;split
 ·rename_i v e;exact kg ⟨rfl,fun ρ'=>zm ρ' _ _ (kD.zero t a v h e)⟩
 ·exact kP
end
section
variable {P:Program} {ρ:j7}
variable {a a':Addr}
theorem B4(m:Mode)(h:AR ρ a a'):SR P VR ρ (load a m) (load a' m):=.load h fun _ _ b=>.pure b
variable {v v':Value}
theorem GH(m:Mode)(h:AR ρ a a')(k:VR ρ v v'):SR P (fun _ _ _=>True) ρ (store a v m) (store a' v' m):=.store h k (.pure trivial)
theorem zn{o o':Obj}(h:OR ρ o o'):SR P (fun ρ r r'=>Scope.base≤r∧ρ r=some ⟨r',none⟩) ρ (newObj o) (newObj o'):=.new h fun _ _ _ _ hb hr=>.pure ⟨hb,hr⟩
theorem xY(e:TypeId){c C:Array Value}(h:ki ρ c C):SR P AR ρ (newRow e c) (newRow e C):=by
 unfold newRow;exact SR.bind (zn (.cells h)) fun ρ' r r' _ hr=>kg ⟨hr.1,_,hr.2,rfl,(dG _).symm,rfl⟩
theorem VR.cells{v v':Value}(h:VR ρ v v'):ki ρ v.cells v'.cells:=by
 cases h with
 |agg a b=>exact⟨a,b⟩
 |bool b=>exact ki.one (.bool b)
 |int k n=>exact ki.one (.int k n)
 |string s=>exact ki.one (.string s)
 |o4=>exact ki.one .o4
 |ptr h=>exact ki.one (.ptr h)
 |mI a b=>exact ki.one (.mI a b)
 |slice a b h=>exact ki.one (.slice a b h)
 |qS=>exact ki.one .qS
 |map h=>exact ki.one (.map h)
 |rr=>exact ki.one .rr
 |func d e j l m=>exact ki.one (.func d e j l m)
 |nilFunc=>exact ki.one .nilFunc
 |iface h=>exact ki.one (.iface h)
 |nilIface=>exact ki.one .nilIface
 |tuple a b=>exact ki.one (.tuple a b)
 |nD h k=>exact ki.one (.nD h k)
 | @hole v' h k=>cases v'<;>first|exact ki.one (.hole h k)|simp[nC]at k
 |o7 h=>exact ki.one (.o7 h)
theorem zo(t:TypeId)(h:VR ρ v v'):SR P AR ρ (newVar t v) (newVar t v'):=xY t h.cells
theorem B5:∀(n:Nat){ρ:j7}{a a':Addr}(i:Nat){acc b:Array Value},AR ρ a a'→ki ρ acc b→SR P ki ρ (loadCellsFrom a i n acc) (loadCellsFrom a' i n b)
 |0,_,_,_,_,_,_,_,h=>kg h
 |n+1,ρ,a,a',i,acc,b,d,h=>by
  unfold loadCellsFrom;exact SR.bind (B4 .plain (d.add i)) fun ρ' v v' e j=>B5 n (i+1) (d.mono e) ((h.mono e).push j)
theorem zp(n:Nat)(h:AR ρ a a'):SR P ki ρ (loadCells a n) (loadCells a' n):=B5 n 0 h (ki.nil ρ)
inductive oR (ρ:j7):List Value→List Value→Prop
 |nil:oR ρ [] []
 |cons {x y:Value} {xs ys:List Value}:VR ρ x y→oR ρ xs ys→oR ρ (x::xs) (y::ys)
theorem ki.list{xs ys:Array Value}(h:ki ρ xs ys):oR ρ xs.toList ys.toList:=by
 obtain⟨xs⟩:=xs;obtain⟨ys⟩:=ys;have d:xs.length=ys.length:=by simpa using h.size
 have e:∀(i:Nat) v v',xs[i]?=some v→ys[i]?=some v'→VR ρ v v':=fun i v v' a b=>h.get i v v' (by simpa using a) (by simpa using b)
 clear h
 induction xs generalizing ys with
 |nil=>cases ys with
  |nil=>exact .nil
  |cons=>simp at d
 |cons x xs j=>cases ys with
  |nil=>simp at d
  |cons y ys=>exact .cons (e 0 _ _ rfl rfl) (j ys (by simpa using d) fun i v v' a b=>e (i+1) v v' (by simpa using a) (by simpa using b))
theorem oR.mono{ρ':j7}{xs ys:List Value}(h:oR ρ xs ys)(l:ρ.le ρ'):oR ρ' xs ys:=by
 induction h with
 |nil=>exact .nil
 |cons a _ b=>exact .cons (a.mono l) b
theorem oR.array{xs ys:List Value}(h:oR ρ xs ys):ki ρ xs.toArray ys.toArray:=by
 have:xs.length=ys.length∧∀(i:Nat) v v',xs[i]?=some v→ys[i]?=some v'→VR ρ v v':=by
  induction h with
  |nil=>exact⟨rfl,by simp⟩
  |cons a _ b =>
   refine⟨by simp[b.1],fun i v v' p q=>?_⟩
   cases i with
   |zero=>simp at p q;subst p q;exact a
   |succ i=>exact b.2 i v v' (by simpa using p) (by simpa using q)
 exact⟨by simpa using this.1,fun i v v' p q=>this.2 i v v' (by simpa using p) (by simpa using q)⟩
theorem xZ:∀{vs b:List Value}{ρ:j7}{a a':Addr}(i:Nat),AR ρ a a'→oR ρ vs b→SR P (fun _ _ _=>True) ρ (storeCells a vs i) (storeCells a' b i)
 |[],_,_,_,_,_,_,h=>by cases h;exact kg trivial
 |v::vs,_,ρ,a,a',i,d,h=>by
  cases h with
  |cons j k =>
   unfold storeCells;exact SR.bind (GH .plain (d.add i) j) fun ρ' _ _ e _=>xZ (i+1) (d.mono e) (oR.mono k e)
theorem B6(t:TypeId)(h:AR ρ a a'):SR P VR ρ (loadVar t a) (loadVar t a'):=by
 unfold loadVar;refine SR.bind (B3 t) fun ρ' x y d e=>?_
 subst e
 cases x with
 |true =>
  refine SR.bind (qy t) fun j n m b e=>?_
  obtain⟨rfl,_⟩:=e;exact SR.bind (zp n ((h.mono d).mono b)) fun k c C _ l=>kg l.agg
 |false=>exact B4 .plain (h.mono d)
theorem GI(t:TypeId)(h:AR ρ a a')(k:VR ρ v v'):SR P (fun _ _ _=>True) ρ (storeVar t a v) (storeVar t a' v'):=by
 unfold storeVar;refine SR.bind (qy t) fun ρ' n m b e=>?_
 obtain⟨rfl,_⟩:=e;have d:=(k.mono b).cells;rw[←d.size];dsimp only;refine SR.ite (fun _=>?_) fun _=>xZ 0 (h.mono b) d.list
 exact kr
variable {α β:Type}
theorem oJ{R:j7→α→β→Prop}(e:RuntimeError)(h:match e with | .typeAssertion .. | .panicNil | .unhashable _=>False|_=>True):SR P R ρ (runtimePanic e:Sem α) (runtimePanic e:Sem β):=by
 unfold runtimePanic;refine SR.bind tE fun ρ' a b _ q=>?_
 obtain⟨rfl,rfl⟩:=q
 cases e with
 |bounds x y s c=>exact uu (.iface (ki.agg (((ki.one (.int _ _)).push (.int _ _)).push (.bool _) |>.push (.int _ _))))
 |error m=>exact uu (.iface (.string _))
 |plain m=>exact uu (.iface (.string _))
 |nilDeref=>exact uu (.iface (.string _))
 |typeAssertion=>exact h.elim
 |panicNil=>exact h.elim
 |unhashable=>exact h.elim
theorem vx{R:j7→α→β→Prop}(k:IntKind)(x y:Int)(c:BoundsCode):SR P R ρ (boundsPanic k x y c:Sem α) (boundsPanic k x y c:Sem β):=by
 unfold boundsPanic;dsimp only;refine SR.ite (fun _=>?_) fun _=>SR.bind (R:=fun _ a b=>a=b) (kg rfl) fun ρ' a b _ e=>(by subst e;exact oJ _ trivial)
 refine SR.bind (R:=fun _ a b=>a=b) ?_ fun ρ' a b _ e=>(by subst e;exact oJ _ trivial)
 exact SR.bind (vw _) fun ρ' a b _ e=>by subst e;exact kg rfl
theorem x4(h:VR ρ v v'):SR P (fun _ a b=>a=b∧v=.int a.1 a.2) ρ (asIntOf v) (asIntOf v'):=by
 cases h<;>first|exact kr|exact kP|exact kg ⟨rfl,rfl⟩
theorem wH(h:VR ρ v v'):SR P (fun _ a b=>a=b) ρ (asInt v) (asInt v'):=by
 unfold asInt;exact SR.bind (x4 h) fun ρ' a b _ e=>by rw[e.1];exact kg rfl
theorem zq(h:VR ρ v v'):SR P (fun _ a b=>a=b) ρ (asBool v) (asBool v'):=by
 cases h<;>first|exact kr|exact kg rfl
theorem GJ(h:VR ρ v v'):SR P ki ρ (asAgg v) (asAgg v'):=by
 cases h with
 |agg a b=>exact kg ⟨a,b⟩
 |_=>exact kr
theorem GK(h:VR ρ v v'):SR P AR ρ (asAddr v) (asAddr v'):=by
 cases h with
 |ptr h=>exact kg h
 |o4=>exact oJ .nilDeref trivial
 |_=>exact kr
theorem x5(h:VR ρ v v'):SR P AR ρ (Instr.sureAddr v) (Instr.sureAddr v'):=by
 cases h with
 |ptr h=>exact kg h
 |_=>exact kr
theorem x6(t:TypeId){cs b:Array Value}(h:ki ρ cs b)(off:Nat):SR P VR ρ (part t cs off) (part t b off):=by
 unfold part;refine SR.bind (B3 t) fun ρ' x y j e=>?_
 subst e;have h':=h.mono j
 cases x with
 |true =>
  refine SR.bind (qy t) fun l n m d e=>?_
  obtain⟨rfl,_⟩:=e;exact kg ((h'.mono d).extract _ _).agg
 |false =>
  simp only[dL,dp]
  cases e:cs[off]? with
  |none=>exact kr
  |some v =>
   obtain⟨v',q,k⟩:=h'.at_ e;simp only[q];exact kg k
end
end
section
variable [Scope]
section
variable {P:Program} {ρ:j7}
theorem GL[kD P](e:TypeId):SR P VR ρ (Instr.alloc e true (.tuple #[])) (Instr.alloc e true (.tuple #[])):=by
 unfold Instr.alloc;refine SR.bind (uv e) fun ρ' z j _ h=>?_
 obtain⟨rfl,h⟩:=h;exact SR.bind (zo e (h ρ')) fun b a a' _ d=>kg (.ptr d)
variable {v v':Value}
theorem GM(e:TypeId)(h:VR ρ v v'):SR P VR ρ (Instr.box e v) (Instr.box e v'):=by
 unfold Instr.box;exact SR.bind (zo e h) fun b a a' _ d=>kg (.ptr d)
theorem GN(t:TypeId)(h:VR ρ v v'):SR P VR ρ (Instr.loadAt t v) (Instr.loadAt t v'):=by
 unfold Instr.loadAt;exact SR.bind (x5 h) fun ρ' a a' _ b=>B6 t b
theorem GO(t:TypeId){u b:Value}(h:VR ρ v v')(k:VR ρ u b):SR P (fun _ _ _=>True) ρ (Instr.storeAt t v u) (Instr.storeAt t v' b):=by
 unfold Instr.storeAt;exact SR.bind (x5 h) fun ρ' a a' d e=>GI t e (k.mono d)
inductive rZ (ρ:j7):List (Nat×Value)→List (Nat×Value)→Prop
 |nil:rZ ρ [] []
 |cons {i:Nat} {x y:Value} {xs ys:List (Nat×Value)}:VR ρ x y→rZ ρ xs ys→rZ ρ ((i,x)::xs) ((i,y)::ys)
theorem rZ.mono{ρ':j7}{xs ys:List (Nat×Value)}(h:rZ ρ xs ys)(l:ρ.le ρ'):rZ ρ' xs ys:=by
 induction h with
 |nil=>exact .nil
 |cons a _ b=>exact .cons (a.mono l) b
theorem GP(off:Nat){l l':List Value}(h:oR ρ l l'):∀(j:Nat){cs b:Array Value},ki ρ cs b →
  ki ρ ((l.zipIdx j).foldl (fun cs (x:Value×Nat)=>cs.setIfInBounds (off+x.2) x.1) cs) ((l'.zipIdx j).foldl (fun cs (x:Value×Nat)=>cs.setIfInBounds (off+x.2) x.1) b):=by
 induction h with
 |nil=>exact fun j cs b h=>h
 |cons a _ d=>exact fun j cs b h=>by simp only[List.zipIdx_cons,List.foldl_cons];exact d (j+1) (h.set _ a)
theorem zr(place:Nat→Option (Nat×Nat)){ps sV:List (Nat×Value)}(h:rZ ρ ps sV):∀{cs b:Array Value},ki ρ cs b →
  (∃x y,Instr.fill place cs ps=some x∧Instr.fill place b sV=some y∧ki ρ x y)∨(Instr.fill place cs ps=none∧Instr.fill place b sV=none):=by
 induction h with
 |nil=>exact fun h=>.inl ⟨_,_,rfl,rfl,h⟩
 | @cons i x y xs ys a _ e =>
  intro cs b d;simp only[Instr.fill]
  cases place i with
  |none=>exact .inr ⟨rfl,rfl⟩
  |some p =>
   obtain⟨off,size⟩:=p;have j:=a.cells.size;simp only[←j,←d.size];split
   ·exact .inr ⟨rfl,rfl⟩
   ·have:=GP off a.cells.list 0 d;simp only[←Array.toList_zipIdx,Array.foldl_toList]at this;exact e this
theorem B7{α β:Type}(f:α→Sem β)(d:∀ρ x,SR P (fun _ a b=>a=b) ρ (f x) (f x)):∀(l:List α)(ρ:j7),SR P (fun _ a b=>a=b) ρ (l.mapM f) (l.mapM f)
 |[],ρ=>by simp only[List.mapM_nil];exact kg rfl
 |x::l,ρ=>by
  simp only[List.mapM_cons];refine SR.bind (d ρ x) fun ρ' a b _ e=>?_
  subst e;exact SR.bind (B7 f d l ρ') fun h a b _ e=>by subst e;exact kg rfl
theorem GQ{α β:Type}(f:α→Sem β)(d:∀ρ x,SR P (fun _ a b=>a=b) ρ (f x) (f x))(as:Array α)(ρ:j7):SR P (fun _ a b=>a=b) ρ (as.mapM f) (as.mapM f):=by
 rw[dU];exact SR.bind (B7 f d as.toList ρ) fun ρ' a b _ e=>by subst e;exact kg rfl
variable {ps sV:Array (Nat×Value)}
theorem GS[kD P](t:TypeId)(h:rZ ρ ps.toList sV.toList):SR P VR ρ (Instr.build t ps) (Instr.build t sV):=by
 unfold Instr.build;refine SR.bind (uv t) fun C z G D m=>?_
 obtain⟨rfl,m⟩:=m;refine SR.bind (mi t) fun q d d' E e=>?_
 obtain⟨rfl,_⟩:=e;have B:=(h.mono D).mono E
 cases d with
 |struct fields =>
  refine SR.bind (GQ _ (fun ρ f=>SR.bind (qy f.type) fun ρ' a b _ e=>by obtain⟨rfl,_⟩:=e;exact kg rfl) fields q) fun j pl qz s e=>?_
  subst e;rcases zr (pl[·]?) (B.mono s) (m j).cells with⟨x,y,k,l,A⟩|⟨k,l⟩
  ·simp only[k,l];exact kg A.agg
  ·simp only[k,l];exact kr
 |array n elem =>
  refine SR.bind (qy elem) fun j sz F s e=>?_
  obtain⟨rfl,_⟩:=e;rcases zr (fun i=>some (i*sz,sz)) (B.mono s) (m j).cells with⟨x,y,k,l,A⟩|⟨k,l⟩
  ·simp only[k,l];exact kg A.agg
  ·simp only[k,l];exact kr
 |_=>exact kr
theorem ki.zt{z j:Array Value}(h:ki ρ z j)(n:Nat)(d:VR ρ default default):ki ρ ((Array.range n).map fun i=>z[i % z.size]!) ((Array.range n).map fun i=>j[i % j.size]!):=by
 refine⟨by simp,fun i v v' a b=>?_⟩;simp only[dV,Array.getElem?_range]at a b
 by_cases hi:i<n
 ·simp only[hi,dn,dM,dW]at a b;subst a;subst b;rw[h.size];simp only[getElem!_def]
  cases e:z[i % j.size]? with
  |none=>rw[h.uq e];exact d
  |some v=>obtain⟨v',l,k⟩:=h.at_ e;rw[l];exact k
 ·simp[hi]at a
theorem zu:VR ρ (default:Value) default:=zm ρ 1 _ (by decide)
theorem GU[kD P](t:TypeId)(len:Nat)(h:rZ ρ ps.toList sV.toList):SR P VR ρ (Instr.buildSlice t len ps) (Instr.buildSlice t len sV):=by
 unfold Instr.buildSlice;refine SR.bind (mi t) fun A d d' B e=>?_
 obtain⟨rfl,_⟩:=e
 cases d with
 |slice elem =>
  refine SR.bind (qy elem) fun j sz C D e=>?_
  obtain⟨rfl,_⟩:=e;dsimp only;refine SR.ite (fun _=>kP) fun _=>?_
  have fin:∀(b:j7) z k,j.le b→ki b z k→SR P VR b (match Instr.fill (fun i=>some (i*sz,sz)) ((Array.range (len*sz)).map fun x=>z[x % z.size]!) ps.toList with
    |some cells=>do pure (.slice (some (←newRow elem cells)) len len)
    |x=>stuck "buildSlice: a part of the wrong size") (match Instr.fill (fun i=>some (i*sz,sz)) ((Array.range (len*sz)).map fun x=>k[x % k.size]!) sV.toList with
    |some cells=>do pure (.slice (some (←newRow elem cells)) len len)
    |x=>stuck "buildSlice: a part of the wrong size"):=fun b z k m l=>by
   rcases zr (fun i=>some (i*sz,sz)) (((h.mono B).mono D).mono m) (l.zt (len*sz) zu)with⟨x,y,n,q,E⟩|⟨n,q⟩
   ·simp only[n,q];exact SR.bind (xY elem E) fun F a a' _ G=>kg (.slice _ _ G)
   ·simp only[n,q];exact kr
  by_cases s:len*sz=0
  ·simp only[s,dn];have:=fin j #[] #[] (j7.le_refl _) (ki.nil _);simp only[s]at this;exact this
  ·simp only[s,dp];refine SR.bind (uv elem) fun b z k m l=>?_
   obtain⟨rfl,l⟩:=l;exact fin b _ _ m (l b).cells
 |_=>exact kr
def zw (P:Program) (s:TypeId) (f:Nat):Bool :=
 match P.underlying s with
 |some (.struct fields)=>match fields[f]? with
  |some x=>match P.info? x.type with
   |some i=>i.size != 0
   |none=>true
  |none=>true
 |_=>true
theorem GV(s:TypeId)(f:Nat)(j:zw P s f=true)(h:VR ρ v v'):SR P VR ρ (Instr.fieldAt s v f) (Instr.fieldAt s v' f):=by
 unfold Instr.fieldAt;refine SR.bind (mi s) fun l d d' m e=>?_
 obtain⟨rfl,q⟩:=e
 cases d with
 |struct fields =>
  simp only
  cases y:fields[f]? with
  |none=>exact kr
  |some x =>
   refine SR.bind (x5 (h.mono m)) fun z a a' D A=>?_
   refine SR.bind (R:=AR) ?_ fun k b b' _ hb=>kg (.ptr hb)
   unfold fieldPlace;refine SR.bind (qy x.type) fun k n n' B e=>?_
   obtain⟨rfl,i,hi,C⟩:=e;have:n≠0:=by
    unfold zw at j;rw[q]at j;simp only[y,hi]at j;simpa[C]using j
   rw[dt this,dt this];exact kg ((A.mono B).add _)
 |_=>exact kr
theorem GW(t:TypeId){i i':Value}(h:VR ρ v v')(k:VR ρ i i'):SR P VR ρ (Instr.indexAt t v i) (Instr.indexAt t v' i'):=by
 unfold Instr.indexAt;refine SR.bind (x4 k) fun A x H B e=>?_
 obtain⟨rfl,_⟩:=e;obtain⟨kk,n⟩:=x;refine SR.bind (mi t) fun q d d' C e=>?_
 obtain⟨rfl,_⟩:=e;have z:=(h.mono B).mono C;have fin:∀(j:j7)(b b':Option Addr)(len:Nat)(elem:TypeId),(b=none∧b'=none∨(∃a a',b=some a∧b'=some a'∧AR j a a')∨(∃a a',b=some a∧b'=some a'∧len=0))→SR P VR j
   (do
    let m:=len≤1&&(match ←underlying t with | .array ..=>true|_=>false)
    match b with
    |some a =>
     if 0≤n∧n<len then pure (.pointer (some (a.add (n.toNat*(←sizeOf elem)))))
     else if m then unsupported (.noEntry "op/indexAddr.an index out of range at an array of length 0 or 1 (ledger 616)")
     else boundsPanic kk n len .index
    |none=>boundsPanic kk n 0 .index)
   (do
    let m:=len≤1&&(match ←underlying t with | .array ..=>true|_=>false)
    match b' with
    |some a =>
     if 0≤n∧n<len then pure (.pointer (some (a.add (n.toNat*(←sizeOf elem)))))
     else if m then unsupported (.noEntry "op/indexAddr.an index out of range at an array of length 0 or 1 (ledger 616)")
     else boundsPanic kk n len .index
    |none=>boundsPanic kk n 0 .index):=by
  intro j b b' len elem hb;refine SR.bind (mi t) fun D d d' E e=>?_
  obtain⟨rfl,_⟩:=e;dsimp only;rcases hb with⟨rfl,rfl⟩|⟨a,a',rfl,rfl,y⟩|⟨a,a',rfl,rfl,rfl⟩
  ·exact vx _ _ _ _
  rotate_left
  ·refine SR.ite (fun h=>by omega) fun _=>SR.ite (fun _=>kP) fun _=>vx _ _ _ _
  ·refine SR.ite (fun _=>?_) fun _=>SR.ite (fun _=>kP) fun _=>vx _ _ _ _
   refine SR.bind (qy elem) fun F s s' G e=>?_
   obtain⟨rfl,_⟩:=e;exact kg (.ptr (((y.mono E).mono G).add _))
 cases d with
 |array len elem =>
  dsimp only;refine SR.bind (x5 z) fun j a a' I y=>?_
  exact fin j (some a) (some a') len elem (.inr (.inl ⟨a,a',rfl,rfl,y⟩))
 |slice elem =>
  cases z with
  |mI l c=>exact fin q none none l elem (.inl ⟨rfl,rfl⟩)
  |slice l c y=>exact fin q (some _) (some _) l elem (.inr (.inl ⟨_,_,rfl,rfl,y⟩))
  |nD h k=>exact fin q (some _) (some _) 0 elem (.inr (.inr ⟨_,_,rfl,rfl,rfl⟩))
  |_=>exact kr
 |_=>cases z<;>exact kr
end
end
section
variable [Scope]
inductive o9 (ρ:j7):Option Value→Option Value→Prop
 |none:o9 ρ none none
 |some {v v':Value}:VR ρ v v'→o9 ρ (some v) (some v')
theorem o9.mono{ρ ρ':j7}{x y:Option Value}(h:o9 ρ x y)(l:ρ.le ρ'):o9 ρ' x y:=by
 cases h with
 |none=>exact .none
 |some h=>exact .some (h.mono l)
section
variable {P:Program} {ρ:j7}
variable {v v':Value}
theorem x7(h:VR ρ v v')(y:Nat)(c:BoundsCode):SR P (fun _ a b=>a=b∧a≤y) ρ (Instr.sliceBound v y c) (Instr.sliceBound v' y c):=by
 unfold Instr.sliceBound;refine SR.bind (x4 h) fun d x j l e=>?_
 obtain⟨rfl,_⟩:=e;obtain⟨k,i⟩:=x;exact SR.ite (fun hi=>kg ⟨rfl,by omega⟩) fun _=>vx _ _ _ _
variable {lo tF hi uw mx tG:Option Value}
theorem B8(q:Bool)(len cap:Nat)(E:o9 ρ lo tF)(B:o9 ρ hi uw)(F:o9 ρ mx tG):SR P (fun _ a b=>a=b∧(cap=0→len=0→a=(0,0,0))) ρ (Instr.sliceBounds q len cap lo hi mx) (Instr.sliceBounds q len cap tF uw tG):=by
 have L:∀(ρ':j7)(m h:Nat)(c:BoundsCode),ρ.le ρ'→(cap=0→len=0→m=0∧h=0)→SR P (fun _ a b=>a=b∧(cap=0→len=0→a=(0,0,0))) ρ' (match(generalizing:=false) lo with
   |some v=>do let l ←Instr.sliceBound v h c;pure (l,h,m)
   |none=>do let l ←pure 0;pure (l,h,m)) (match(generalizing:=false) tF with
   |some v=>do let l ←Instr.sliceBound v h c;pure (l,h,m)
   |none=>do let l ←pure 0;pure (l,h,m)):=by
  intro ρ' m h c G z
  cases E with
  |none =>
   refine SR.bind (R:=fun _ a b=>a=b∧a=0) (kg ⟨rfl,rfl⟩) fun _ a b _ e=>?_
   obtain⟨rfl,rfl⟩:=e;exact kg ⟨rfl,fun j k=>by rw[(z j k).1,(z j k).2]⟩
  |some s =>
   refine SR.bind (x7 (s.mono G) _ _) fun _ a b _ e=>?_
   obtain⟨rfl,e⟩:=e;exact kg ⟨rfl,fun j k=>by
    have C:=z j k;have:a=0:=by omega
    rw[C.1,C.2,this]⟩
 unfold Instr.sliceBounds;dsimp only
 cases F with
 |none =>
  refine SR.bind (R:=fun _ a b=>a=b∧a=cap) (kg ⟨rfl,rfl⟩) fun A m H n e=>?_
  obtain⟨rfl,rfl⟩:=e
  cases B with
  |none =>
   refine SR.bind (R:=fun _ a b=>a=b∧a=len) (kg ⟨rfl,rfl⟩) fun d x D y e=>?_
   obtain⟨rfl,rfl⟩:=e;exact L d _ _ _ (j7.le_trans n y) fun j k=>⟨j,k⟩
  |some s =>
   refine SR.bind (x7 (s.mono n) _ _) fun d x D y e=>?_
   obtain⟨rfl,e⟩:=e;exact L d _ _ _ (j7.le_trans n y) fun j k=>⟨j,by omega⟩
 |some hm =>
  refine SR.bind (x7 hm _ _) fun A m H n e=>?_
  obtain⟨rfl,em⟩:=e
  cases B with
  |none=>exact kr
  |some s =>
   refine SR.bind (x7 (s.mono n) _ _) fun d x D y e=>?_
   obtain⟨rfl,e⟩:=e;exact L d _ _ _ (j7.le_trans n y) fun j k=>⟨by omega,by omega⟩
def wI (P:Program) (t:TypeId):Bool :=
 match P.underlying t with
 |some .string|some (.slice _)=>true
 |_=>false
theorem GY(t:TypeId)(y:wI P t=true)(h:VR ρ v v')(H:o9 ρ lo tF)(I:o9 ρ hi uw)(B:o9 ρ mx tG):SR P VR ρ (Instr.slice t v lo hi mx) (Instr.slice t v' tF uw tG):=by
 unfold Instr.slice;refine SR.bind (mi t) fun j d d' q e=>?_
 obtain⟨rfl,J⟩:=e;unfold wI at y;rw[J]at y;have C:=H.mono q;have D:=I.mono q;have K:=B.mono q;have E:=h.mono q
 cases d with
 |string =>
  cases E with
  |string s =>
   have em:mx.isSome=tG.isSome:=by cases B<;>rfl
   dsimp only;rw[←em];refine SR.ite (fun _=>kr) fun _=>?_
   refine SR.bind (B8 false s.size s.size C D .none) fun z x M _ e=>?_
   obtain⟨rfl,_⟩:=e;exact kg (.string _)
  |_=>exact kr
 |slice elem =>
  have fin:∀(a a':Option Addr)(len cap:Nat),(a=none∧a'=none∨(∃b b',a=some b∧a'=some b'∧AR j b b')∨(len=0∧cap=0∧VR j (.slice a 0 0) (.slice a' 0 0)))→SR P VR j
    (do
     let (l,h,m) ←Instr.sliceBounds true len cap lo hi mx
     let size ←sizeOf elem
     pure (.slice (if m=l then a else a.map (·.add (l*size))) (h-l) (m-l)))
    (do
     let (l,h,m) ←Instr.sliceBounds true len cap tF uw tG
     let size ←sizeOf elem
     pure (.slice (if m=l then a' else a'.map (·.add (l*size))) (h-l) (m-l))):=by
   intro a a' len cap A;refine SR.bind (B8 true len cap C D K) fun z x M F e=>?_
   obtain⟨rfl,N⟩:=e;obtain⟨l,V,m⟩:=x;refine SR.bind (qy elem) fun O s s' G e=>?_
   obtain⟨rfl,_⟩:=e;rcases A with⟨rfl,rfl⟩|⟨b,b',rfl,rfl,hb⟩|⟨Q,S,T⟩
   rotate_left 2
   ·cases N S Q
    exact kg ((T.mono F).mono G)
   ·simp only[Option.map_none,ite_self];exact kg (.mI _ _)
   ·have n:=(hb.mono F).mono G
    by_cases e:m=l
    ·simp only[e,dn];exact kg (.slice _ _ n)
    ·simp only[e,dp,dM];exact kg (.slice _ _ (n.add _))
  cases E with
  |mI l c=>exact fin none none l c (.inl ⟨rfl,rfl⟩)
  |slice l c A=>exact fin (some _) (some _) l c (.inr (.inl ⟨_,_,rfl,rfl,A⟩))
  |nD U k=>exact fin (some _) (some _) 0 0 (.inr (.inr ⟨rfl,rfl,.nD U k⟩))
  |_=>exact kr
 |_=>simp at y
theorem GZ(t:TypeId)(b:wI P t=true)(h:VR ρ v v')(l:o9 ρ lo tF)(m:o9 ρ hi uw)(n:o9 ρ mx tG):SR P VR ρ (Instr.sliceAt t v lo hi mx) (Instr.sliceAt t v' tF uw tG):=by
 unfold Instr.sliceAt;refine SR.bind (mi t) fun q d d' j e=>?_
 obtain⟨rfl,s⟩:=e;have k:=GY t b (h.mono j) (l.mono j) (m.mono j) (n.mono j);unfold wI at b;rw[s]at b
 cases d with
 |string=>exact k
 |slice elem=>exact k
 |_=>simp at b
theorem G0(t:TypeId)(h:VR ρ v v')(f:Nat):SR P VR ρ (Instr.field t v f) (Instr.field t v' f):=by
 unfold Instr.field;refine SR.bind (mi t) fun b d d' j e=>?_
 obtain⟨rfl,m⟩:=e
 cases d with
 |struct fields =>
  simp only
  cases fields[f]? with
  |none=>exact kr
  |some x=>exact SR.bind (GJ (h.mono j)) fun k c c' _ l=>x6 _ l _
 |_=>exact kr
theorem G1(t:TypeId){i i':Value}(h:VR ρ v v')(k:VR ρ i i'):SR P VR ρ (Instr.index t v i) (Instr.index t v' i'):=by
 unfold Instr.index;refine SR.bind (x4 k) fun l x B m e=>?_
 obtain⟨rfl,_⟩:=e;obtain⟨kk,n⟩:=x;refine SR.bind (mi t) fun q d d' y e=>?_
 obtain⟨rfl,_⟩:=e;have j:=(h.mono m).mono y
 cases d with
 |array len elem =>
  cases j with
  |agg a b =>
   dsimp only;refine SR.ite (fun _=>?_) fun _=>vx _ _ _ _
   refine SR.bind (qy elem) fun z s s' A e=>?_
   obtain⟨rfl,_⟩:=e;exact x6 _ ((ki.mk a b).mono A) _
  |_=>exact kr
 |string =>
  cases j with
  |string s =>
   dsimp only;split
   ·exact kg (.int _ _)
   ·exact vx _ _ _ _
  |_=>exact kr
 |_=>cases j<;>exact kr
theorem G2[kD P](t:TypeId){u A:Value}(h:VR ρ v v')(k:VR ρ u A):SR P VR ρ (Instr.makeSlice t v u) (Instr.makeSlice t v' A):=by
 unfold Instr.makeSlice;refine SR.bind (mi t) fun C d d' B e=>?_
 obtain⟨rfl,_⟩:=e
 cases d with
 |slice elem =>
  refine SR.bind (wH (h.mono B)) fun D n n' E e=>?_
  subst e;refine SR.bind (wH ((k.mono B).mono E)) fun F c c' J e=>?_
  subst e;refine SR.bind (rY elem) fun G i i' K e=>?_
  obtain⟨rfl,_⟩:=e;dsimp only;have fin:∀(j:j7)(c' l':Int),SR P VR j (do
     askRoom (c'.toNat*i.bytes)
     let n:=c'.toNat*(←sizeOf elem)
     let zero ←if n=0 then pure #[] else do pure (←zeroValue elem).cells
     let a ←newRow elem ((Array.range n).map (zero[· % zero.size]!))
     pure (.slice (some a) l'.toNat c'.toNat)) (do
     askRoom (c'.toNat*i.bytes)
     let n:=c'.toNat*(←sizeOf elem)
     let zero ←if n=0 then pure #[] else do pure (←zeroValue elem).cells
     let a ←newRow elem ((Array.range n).map (zero[· % zero.size]!))
     pure (.slice (some a) l'.toNat c'.toNat)):=by
   intro j c' l';refine SR.bind (B2 _) fun q _ _ _ _=>?_
   refine SR.bind (qy elem) fun y s s' _ e=>?_
   obtain⟨rfl,_⟩:=e;dsimp only;have last:∀(b:j7) z l,ki b z l→SR P VR b (do
     let a ←newRow elem ((Array.range (c'.toNat*s)).map (z[· % z.size]!))
     pure (.slice (some a) l'.toNat c'.toNat)) (do
     let a ←newRow elem ((Array.range (c'.toNat*s)).map (l[· % l.size]!))
     pure (.slice (some a) l'.toNat c'.toNat)):=fun b z l m =>
    SR.bind (xY elem (m.zt _ zu)) fun H a a' _ I=>kg (.slice _ _ I)
   by_cases e:c'.toNat*s=0
   ·simp only[e,dn];have:=last y #[] #[] (ki.nil _);rw[e]at this;exact this
   ·simp only[e,dp];refine SR.bind (uv elem) fun b z l _ m=>?_
    obtain⟨rfl,m⟩:=m;exact last b _ _ (m b).cells
  refine SR.ite (fun _=>?_) fun _=>fin _ _ _
  refine SR.ite (fun _=>?_) fun _=>SR.ite (fun _=>?_) fun _=>?_
  ·exact oJ (.error _) trivial
  ·exact oJ (.error _) trivial
  ·refine SR.bind (vw _) fun q x M _ e=>?_
   subst e;exact oJ (.error _) trivial
 |_=>exact kr
theorem G3(t:TypeId)(h:VR ρ v v'):SR P VR ρ (Instr.makeInterface t v) (Instr.makeInterface t v'):=by
 unfold Instr.makeInterface;refine SR.bind (mi t) fun b d d' j e=>?_
 obtain⟨rfl,_⟩:=e
 cases d with
 |interface m=>exact kr
 |_=>exact kg (.iface (h.mono j))
theorem G4(h:VR ρ v v')(i:Nat):SR P VR ρ (Instr.extract v i) (Instr.extract v' i):=by
 unfold Instr.extract
 cases h with
 | @tuple xs ys a b =>
  simp only
  cases e:xs[i]? with
  |none=>exact kr
  |some v =>
   obtain⟨v',d,k⟩:=(ki.mk a b).at_ e;simp only[d];exact kg k
 |_=>exact kr
theorem G5(h:VR ρ v v')(b:v≠.nilIface):SR P VR ρ (Instr.panic v) (Instr.panic v'):=by
 unfold Instr.panic
 cases h with
 |iface h=>exact uu (.iface h)
 |nilIface=>exact absurd rfl b
 |_=>exact kr
theorem G6[kD P](t a:TypeId)(h:VR ρ v v'):SR P VR ρ (Instr.typeAssert v t a true) (Instr.typeAssert v' t a true):=by
 unfold Instr.typeAssert;dsimp only;have j:∀(b:j7),SR P VR b (do pure (Value.tuple #[←zeroValue a,.bool false])) (do pure (Value.tuple #[←zeroValue a,.bool false])):=fun b =>
  SR.bind (uv a) fun n z B _ q=>by obtain⟨rfl,q⟩:=q;exact kg (((ki.one (q n)).push (.bool false)).tuple)
 have holds:∀(b:j7){u l:Value},VR b u l→SR P VR b (pure (Value.tuple #[u,.bool true]):Sem Value) (pure (Value.tuple #[l,.bool true])):=fun b u l hu=>kg (((ki.one hu).push (.bool true)).tuple)
 refine SR.bind (mi a) fun k d d' s e=>?_
 obtain⟨rfl,_⟩:=e;have y:=h.mono s
 cases y with
 |nilIface=>cases d<;>exact j k
 | @iface t' u l hu =>
  cases d with
  |interface want =>
   refine SR.bind (rY t') fun b i i' A e=>?_
   obtain⟨rfl,_⟩:=e;simp only
   cases Instr.missingMethod want i.methods with
   |none=>exact holds b ((VR.iface hu).mono A)
   |some m=>exact j b
  |_=>exact SR.ite (fun _=>holds k hu) fun _=>j k
 |_=>cases d<;>exact kr
end
end
section
variable [Scope]
section
variable {P:Program} {ρ:j7}
variable {r:Nat} {p:Place}
theorem vy(h:ρ r=some p):SR P (fun _ a b=>ShR p a b) ρ (shape r) (shape p.block):=.shape h fun s s' d=>.pure d
theorem zx{r':Nat}(h:ρ r=some ⟨r',none⟩):SR P OR ρ (getObj r) (getObj r'):=.getObj h fun o o' b=>.pure b
theorem ShR.isSome{s s':Option (TypeId×Nat)}(h:ShR p s s'):s.isSome=s'.isSome:=by
 unfold ShR at h;split at h
 ·rw[h]
 ·rcases h with⟨_,_,n,rfl,rfl⟩|⟨N,rfl,rfl,_⟩<;>rfl
inductive zy (ρ:j7):Option (Addr×Bool)→Option (Addr×Bool)→Prop
 |none:zy ρ none none
 |some {a a':Addr} {b:Bool}:AR ρ a a'→zy ρ (some (a,b)) (some (a',b))
theorem G7(h:ρ r=some p):SR P zy ρ (numberAt r) (numberAt p.block):=by
 unfold numberAt;refine SR.bind (vy h) fun d s s' j b=>?_
 have k:=j _ _ h
 (try dsimp only);rw[←b.isSome]
 by_cases e:s.isSome=true
 ·simp only[e,dn];exact kg .none
 ·simp only[e];have hp:p.part=none:=by
   unfold ShR at b;split at b
   ·assumption
   ·rcases b with⟨_,_,n,rfl,_⟩|⟨N,rfl,_⟩<;>simp at e
  obtain⟨y,pp⟩:=p;simp only at hp;subst hp;refine SR.bind (zx k) fun l o o' z m=>?_
  cases m with
  |cells _=>exact kg .none
  |map _ _=>exact kg .none
  |number q=>exact kg (.some q)
theorem B9(h:ρ r=some p):SR P (fun _ a b=>a=none∧b=none) ρ (viewAt r) (viewAt p.block):=by
 unfold viewAt;refine SR.bind (vy h) fun j s s' k d=>?_
 have l:=k _ _ h
 (try dsimp only);rw[←d.isSome]
 by_cases e:s.isSome=true
 ·simp only[e,dn];exact kg ⟨rfl,rfl⟩
 ·simp only[e];have hp:p.part=none:=by
   unfold ShR at d;split at d
   ·assumption
   ·rcases d with⟨_,_,n,rfl,_⟩|⟨N,rfl,_⟩<;>simp at e
  obtain⟨y,pp⟩:=p;simp only at hp;subst hp;refine SR.bind (zx l) fun m o o' z q=>?_
  cases q<;>exact kg ⟨rfl,rfl⟩
variable {a a':Addr}
theorem sW(h:AR ρ a a'):SR P (fun ρ x y=>AR ρ x.1 y.1∧x.2=y.2) ρ (behindNumber a) (behindNumber a'):=by
 unfold behindNumber;obtain⟨j,p,d,e,k,l⟩:=h;rw[e];refine SR.bind (G7 d) fun m x y n b=>?_
 cases b with
 |none=>exact kg ⟨⟨j,p,n _ _ d,e,k,l⟩,rfl⟩
 |some q=>exact kg ⟨q,rfl⟩
theorem G8(h:AR ρ a a')(lost:Bool):SR P VR ρ (asNumber a lost) (asNumber a' lost):=by
 unfold asNumber;exact SR.bind (zn (.number h)) fun b r r' _ hr=>kg (.ptr ⟨hr.1,_,hr.2,rfl,(dG _).symm,rfl⟩)
theorem G9[kD P]{e:TypeId}{l N st off:Nat}{n:Int}{o:Nat}(h:cellAtBytes P P.depth e (l / P.cellsOf e) off n=some o)(hr:st+l≤N)(hd:Scope.cells e ∣ st):cellAtBytes P P.depth e (N / P.cellsOf e) (st+off) n=some (st+o):=by
 rw[kD.cells (P:=P) e]at hd;unfold cellAtBytes at h ⊢;generalize P.cellsOf e=s at *;generalize P.bytesOf e=w at *
 by_cases d:(s=0 || w=0)=true
 ·simp[d]at h
 ·simp only[d,dp,dL]at h ⊢;have m:0<s:=by simp at d;omega
  have hw:0<w:=by simp at d;omega
  obtain⟨k,rfl⟩:=hd;have q:(s*k+off) % s=off % s:=by rw[dR,dX]
  have m2:(s*k+off) / s=k+off / s:=by rw[dY,dR,dZ _ _ m,dR]
  rw[q,m2]
  cases hb:byteOfCell P P.depth e (off % s)with
  |none=>simp[hb]at h
  |some here =>
   simp only[hb,eb,ed]at h ⊢;generalize y:Int.ofNat (off / s*w+here)+n=there at h;have z:Int.ofNat ((k+off / s)*w+here)+n=there+Int.ofNat (k*w):=by
    rw[←y,ef];simp only[eg];omega
   rw[z];split at h
   ·cases h
   ·rename_i b;simp only[eh,ej,not_or,Int.not_lt,Int.not_le]at b;obtain⟨D,A⟩:=b;have hN:k+l / s≤N / s:=by
     have:(s*k+l) / s≤N / s:=Nat.div_le_div_right hr;rwa[dY,dR,dZ _ _ m,dR]at this
    have j:(k+l / s)*w≤N / s*w:=ek w hN;rw[ef]at j;have B:¬((decide (there+Int.ofNat (k*w)<0) || decide (there+Int.ofNat (k*w) ≥ Int.ofNat (N / s*w)))=true):=by
     simp only[eh,ej,not_or,Int.not_lt,Int.not_le,eg,ge_iff_le]at A ⊢;omega
    rw[dt B];have C:(there+Int.ofNat (k*w)).toNat=there.toNat+k*w:=by simp only[eg];omega
    rw[C,Nat.add_mul_mod_self_right,dZ _ _ hw];obtain⟨x,hx,rfl⟩:=eo.1 h;rw[hx];simp only[dM,dW,ef];rw[dY k s];omega
def PR (ρ:j7) (v v':Value):Prop:=∃a a',v=.pointer (some a)∧v'=.pointer (some a')∧AR ρ a a'
variable {v v':Value}
theorem Ha[kD P](t:TypeId)(h:AR ρ a a')(k:VR ρ v v'):SR P PR ρ (Builtin.unsafeAdd_ #[] t #[.pointer (some a),v]) (Builtin.unsafeAdd_ #[] t #[.pointer (some a'),v']):=by
 unfold Builtin.unsafeAdd_
 (try dsimp only);refine SR.bind (wH k) fun B n n' M e=>?_
 subst e;have I:=h.mono M;have O:=I;obtain⟨C,p,hp,J,D,E⟩:=I;have rest:SR P PR B (do
   if n<0 then unsupported (.unsafePointer "Add: a move by a count below zero")
   let some (e,cells) ←shape a.block|unsupported (.unsafePointer "Add")
   let p ←program
   match cellAtBytes p p.depth e (cells / p.cellsOf e) a.off n with
   |some off=>pure (.pointer (some { a with off }))
   |none=>unsupported (.unsafePointer "Add")) (do
   if n<0 then unsupported (.unsafePointer "Add: a move by a count below zero")
   let some (e,cells) ←shape a'.block|unsupported (.unsafePointer "Add")
   let p ←program
   match cellAtBytes p p.depth e (cells / p.cellsOf e) a'.off n with
   |some off=>pure (.pointer (some { a' with off }))
   |none=>unsupported (.unsafePointer "Add")):=by
  refine SR.ite (fun _=>kP) fun _=>?_
  rw[J];refine SR.bind (vy hp) fun F s s' m j=>?_
  cases s with
  |none=>exact kP
  |some x =>
   obtain⟨K,c⟩:=x;unfold ShR at j
   cases A:p.part with
   |none =>
    rw[A]at j;subst j;refine SR.bind tE fun q b b' z hb=>?_
    obtain⟨rfl,rfl⟩:=hb;have d:p.shift=0:=by simp[Place.shift,A]
    rw[D,d,dG]
    (try dsimp only);split
    ·exact kg ⟨_,_,rfl,rfl,⟨C,p,z _ _ (m _ _ hp),rfl,by simp[d],E⟩⟩
    ·exact kP
   |some y =>
    obtain⟨st,l,e,U⟩:=y;rw[A]at j
    (try dsimp only at j);have d:p.shift=st:=by simp[Place.shift,A]
    rcases j with⟨_,rfl,n',G,rfl⟩|⟨N,G,rfl,Q,S⟩
    ·cases G
     refine SR.bind tE fun q b b' z hb=>?_
     obtain⟨rfl,rfl⟩:=hb;rw[D,d,dG]
     (try dsimp only);split
     ·exact kg ⟨_,_,rfl,rfl,⟨C,p,z _ _ (m _ _ hp),rfl,by simp[d],E⟩⟩
     ·exact kP
    cases G
    refine SR.bind tE fun q b b' z hb=>?_
    obtain⟨rfl,rfl⟩:=hb;rw[D,d]
    (try dsimp only)
    cases T:cellAtBytes b' b'.depth K (c / b'.cellsOf K) a.off n with
    |none=>exact kP
    |some o =>
     rw[G9 T Q S];exact kg ⟨_,_,rfl,rfl,⟨C,p,z _ _ (m _ _ hp),rfl,by simp[d],E⟩⟩
 refine SR.ite (fun _=>?_) fun _=>rest
 dsimp only;rw[J];refine SR.bind (B9 hp) fun F x y m H=>?_
 obtain⟨rfl,rfl⟩:=H;exact kg ⟨_,_,rfl,rfl,O.mono m⟩
theorem zz[kD P](t:TypeId)(h:AR ρ a a')(k:VR ρ v v'):SR P VR ρ (movedNumber t (.pointer (some a)) v) (movedNumber t (.pointer (some a')) v'):=by
 unfold movedNumber;refine SR.bind (mi t) fun q d d' l e=>?_
 obtain⟨rfl,_⟩:=e
 (try dsimp only);refine SR.ite (fun _=>kP) fun _=>?_
 refine SR.bind (sW (h.mono l)) fun s x y z j=>?_
 obtain⟨C,D⟩:=x;obtain⟨E,F⟩:=y;obtain⟨m,n⟩:=j;simp only at m n;subst n;refine SR.bind (Ha t m ((k.mono l).mono z)) fun A u G H hu=>?_
 obtain⟨b,b',rfl,rfl,B⟩:=hu;exact G8 B _
end
end
section
variable [Scope]
section
variable {P:Program} {ρ:j7}
variable {a a':Addr}
theorem Hd(h:AR ρ a a'):SR P (fun _ _ _=>True) ρ (noView a) (noView a'):=by
 unfold noView;obtain⟨k,p,d,e,l,m⟩:=h;rw[e];refine SR.bind (B9 d) fun j x y n b=>?_
 obtain⟨rfl,rfl⟩:=b;exact kg trivial
def wJ (P:Program) (p:Place) (x y:Nat):Prop :=
 match p.part with
 |none=>y=x
 |some sp=>∃k,y=x+k*P.bytesOf sp.elem.1∨(x=y)
theorem Hg[kD P]{p:Place}(H:Scope.base≤a.block)(B:ρ a.block=some p)(C:a'.block=p.block)(m:a'.off=p.shift+a.off)(D:a'.spot=a.spot):SR P (fun _ x y=>wJ P p x y) ρ (byteOf a) (byteOf a'):=by
 have same:∀x,wJ P p x x:=fun x=>by unfold wJ;split;rfl;exact⟨0,.inr rfl⟩
 unfold byteOf;rw[D]
 cases O:a.spot with
 |some s=>exact kg (same _)
 |none =>
  refine SR.bind tE fun z b b' E hb=>?_
  obtain⟨rfl,rfl⟩:=hb;have I:AR z a a':=⟨H,p,E _ _ B,C,m,D⟩;refine SR.bind (Hd I) fun J _ _ K _=>?_
  rw[C];refine SR.bind (vy (K _ _ (E _ _ B))) fun M s s' Q h=>?_
  cases s with
  |none=>exact kr
  |some x =>
   obtain⟨e,c⟩:=x;unfold ShR at h
   cases j:p.part with
   |none =>
    rw[j]at h;subst h
    (try dsimp only);refine SR.ite (fun _=>kg (same _)) fun n=>?_
    have d:a'.off=a.off:=by rw[m];simp[Place.shift,j]
    rw[d];split
    ·exact kg (same _)
    ·exact kr
   |some y =>
    obtain⟨st,l,ty,S⟩:=y;rw[j]at h
    (try dsimp only at h);rcases h with⟨_,rfl,n',A,rfl⟩|⟨N,A,rfl,T,F⟩
    ·cases A
     (try dsimp only);refine SR.ite (fun _=>kg (same _)) fun n=>?_
     have d:a'.off=a.off:=by rw[m];simp[Place.shift,j]
     rw[d];split
     ·exact kg (same _)
     ·exact kr
    cases A
    (try dsimp only);refine SR.ite (fun _=>kg (same _)) fun n=>?_
    rw[kD.cells (P:=b') e]at F;obtain⟨k,G⟩:=F;have q:p.shift=st:=by simp[Place.shift,j]
    have d:a'.off % b'.cellsOf e=a.off % b'.cellsOf e:=by rw[m,q,G,dR,dX]
    have hdiv:a'.off / b'.cellsOf e=a.off / b'.cellsOf e+k:=by rw[m,q,G,dY,dR,dZ _ _ (by omega)]
    rw[d,hdiv];split
    ·rename_i x hx;refine kg ?_;unfold wJ;rw[j];exact⟨k,.inl (by rw[ef];simp only;omega)⟩
    ·exact kr
theorem Ca[kD P](k:IntKind)(n:Int)(h:AR ρ a a'):SR P VR ρ (Op.addrMod k a n) (Op.addrMod k a' n):=by
 unfold Op.addrMod;obtain⟨D,p,A,B,E,F⟩:=h;rw[B];refine SR.bind (vy A) fun G s s' H d=>?_
 cases s with
 |none=>exact kP
 |some x =>
  obtain⟨e,c⟩:=x;have key:(∃c',s'=some (e,c'))∧∀sp,p.part=some sp→sp.elem.1=e:=by
   unfold ShR at d
   cases j:p.part with
   |none=>rw[j]at d;exact⟨⟨c,d.symm⟩,fun sp kp=>by cases kp⟩
   |some y =>
    obtain⟨st,l,ty,M⟩:=y;rw[j]at d
    (try dsimp only at d);rcases d with⟨O,Q,n',q,rfl⟩|⟨N,q,rfl,_⟩
    ·cases q
     exact⟨⟨c,rfl⟩,fun sp kp=>by cases kp;rfl⟩
    cases q
    exact⟨⟨N,rfl⟩,fun sp kp=>by cases kp;rfl⟩
  obtain⟨⟨c',rfl⟩,z⟩:=key;refine SR.bind (rY e) fun I i i' J hi=>?_
  obtain⟨rfl,hi⟩:=hi
  (try dsimp only);refine SR.ite (fun _=>kP) fun C=>?_
  refine SR.bind (Hg D (J _ _ (H _ _ A)) B E F) fun K x y S b=>?_
  have:x % n.toNat=y % n.toNat:=by
   unfold wJ at b
   cases j:p.part with
   |none=>rw[j]at b;rw[b]
   |some sp =>
    rw[j]at b;obtain⟨k,rfl|rfl⟩:=b
    ·rw[z sp j];have hb:P.bytesOf e=i.bytes:=by simp[Program.bytesOf,hi]
     have hd:n.toNat ∣ i.bytes:=by
      simp only[eh,ej,not_or,bne_iff_ne,ne_eq,Decidable.not_not]at C;exact Nat.dvd_trans (Nat.dvd_of_mod_eq_zero C.2) (kD.align (P:=P) e i hi)
     obtain⟨m,hm⟩:=hd;rw[hb,hm,dY k,Nat.mul_assoc,dX]
    ·rfl
  rw[this];exact kg (.int _ _)
def rv (P:Program):Nat→TypeId→Bool
 |0,_=>false
 |n+1,t =>
  (match P.info? t with
   |some { desc:=.named "sync.copyChecker" _,.. }=>false
   |_=>true) &&
  match P.underlying t with
  |some .bool|some (.int _)|some .string=>true
  |some (.struct fs)=>fs.toList.all fun f=>rv P n f.type
  |_=>false
theorem Cb{d:Type}{α:Type}(f:α→d→Sem (ForInStep d))(g:α→d→Sem (ForInStep d)):∀(l:List α)(ρ:j7)(s:d),
  (∀ρ' x s,ρ.le ρ'→x∈l→SR P (fun _ a b=>a=b) ρ' (f x s) (g x s))→SR P (fun _ a b=>a=b) ρ (forIn l s f) (forIn l s g)
 |[],ρ,s,h=>by simp only[List.forIn_nil];exact kg rfl
 |x::l,ρ,s,h=>by
  simp only[List.forIn_cons];refine SR.bind (h ρ x s (j7.le_refl _) (by simp)) fun j a b k e=>?_
  subst e
  cases a with
  |done s=>exact kg rfl
  |yield s=>exact Cb f g l j s fun ρ' y s' m n=>h ρ' y s' (j7.le_trans k m) (by simp[n])
theorem Cc[kD P]:∀(n d:Nat)(t:TypeId){ρ:j7}{x E y F:Value},rv P n t=true→VR ρ x E→VR ρ y F →
  SR P (fun _ a b=>a=b) ρ (Op.equalIn d t x y) (Op.equalIn d t E F)
 |0,_,_,_,_,_,_,_,h,_,_=>by simp[rv]at h
 |n+1,0,t,_,_,_,_,_,_,_,_=>by unfold Op.equalIn;exact kP
 |n+1,d+1,t,ρ,x,E,y,F,h,hx,M=>by
  simp only[Op.equalIn];refine SR.bind (mi t) fun G u N I e=>?_
  obtain⟨rfl,O⟩:=e;simp only[rv,ep,O]at h;obtain⟨l,B⟩:=h;have m:=hx.mono I;have j:=M.mono I
  cases u with
  |bool=>cases m<;>cases j<;>first|exact kg rfl|exact kr
  |string=>cases m<;>cases j<;>first|exact kg rfl|exact kr
  |int k =>
   cases m with
   |int k1 a =>
    cases j with
    |int k2 b=>exact SR.ite (fun _=>kg rfl) fun _=>kr
    |ptr J=>rcases a with(_|a)|a<;>first|exact kg rfl|exact kP
    |o4=>rcases a with(_|a)|a<;>first|exact kg rfl|exact kP
    |_=>exact kr
   |ptr J =>
    cases j with
    |int k2 b=>rcases b with(_|b)|b<;>first|exact kg rfl|exact kP
    |ptr hb =>
     refine SR.bind (sW J) fun Q p p' S hp=>?_
     refine SR.bind (sW (hb.mono S)) fun C q q' D hq=>?_
     refine SR.bind tE fun A g g' K T=>?_
     obtain⟨rfl,rfl⟩:=T;have b1:¬(p.1.block<g'.globals.size):=by have:=hp.1.1;have:=kD.base (P:=g');omega
     have b2:((p.1.block == q.1.block&&decide (p.1.block<g'.globals.size))=true)=False:=by simp[b1]
     simp only[b2,dp];refine SR.qx ?_;show SR g' _ A (Sem.bind (match g'.info? t with|some i=>pure i|none=>stuck "no such type") _) _
     cases hi:g'.info? t with
     |none=>exact kr
     |some i =>
      show SR g' _ A (match i.desc with | .named "sync.copyChecker" _=>_|_=>_) _;rw[hi]at l;obtain⟨desc,str,size,bytes,hp,al,fa,z,cmp,ms⟩:=i;simp only at l ⊢;split
      ·simp at l
      ·exact kP
    |_=>exact kP
   |o4=>cases j<;>first|exact kr|exact kP
   |_=>cases j<;>first|exact kr|exact kP
  |struct U =>
   cases m with
   |agg a b =>
    cases j with
    |agg c e =>
     refine vv ?_;refine SR.ite (fun _=>kP) fun _=>?_
     rw[←et,←et];have V:=(ki.mk a b);have W:=(ki.mk c e);refine SR.bind (Cb _ _ U.toList G _ fun C f s D X=>?_) fun C r r' D hr=>?_
     ·refine SR.ite (fun _=>?_) fun _=>kg rfl
      refine SR.bind (x6 f.type (V.mono D) f.offset) fun A u N K hu=>?_
      refine SR.bind (x6 f.type ((W.mono D).mono K) f.offset) fun Y v v' Z hv=>?_
      have H:rv P n f.type=true:=(eu.1 B) f X;refine SR.bind (Cc n d f.type H (hu.mono Z) hv) fun aa r r' l6 hr=>?_
      subst hr
      cases r<;>exact kg rfl
     ·subst hr;split<;>exact kg rfl
    |_=>exact kr
   |_=>cases j<;>exact kr
  |_=>simp at B
end
end
section
variable [Scope]
def lN:Operand→Bool
 | .tmp _=>true
 | .const c=>clear 3 c
 | .func f=>Scope.ok f
 | .global _=>false
structure ER (ρ:j7) (f g:Operand→Value):Prop where
 tmp:∀t,VR ρ (f (.tmp t)) (g (.tmp t))
 const:∀c,f (.const c)=c∧g (.const c)=c
 func:∀i,f (.func i)=.func (.func i) #[] #[]∧g (.func i)=.func (.func i) #[] #[]
theorem ER.get{ρ:j7}{f g:Operand→Value}(h:ER ρ f g){x:Operand}(hx:lN x=true):VR ρ (f x) (g x):=by
 cases x with
 |tmp t=>exact h.tmp t
 |const c=>rw[(h.const c).1,(h.const c).2];exact zm ρ 3 c hx
 |func i=>rw[(h.func i).1,(h.func i).2];exact ki.func hx (ki.nil ρ) (ki.nil ρ)
 |global g=>simp[lN]at hx
theorem ER.mono{ρ ρ':j7}{f g:Operand→Value}(h:ER ρ f g)(l:ρ.le ρ'):ER ρ' f g:=⟨fun t=>(h.tmp t).mono l,h.const,h.func⟩
def qT:Value→Bool
 | .pointer none | .nilIface | .nilFunc | .slice none _ _ | .map none=>true
 |_=>false
def r7:Operand→Bool
 | .const c=>qT c
 |_=>false
def tH (P:Program) (t:TypeId) (x y:Operand):Bool:=r7 x || r7 y || (rv P 12 t&&!P.eqGuardType P.depth t)
section
variable {P:Program} {ρ:j7}
variable {v v' c:Value}
theorem Hh(d:Nat)(t:TypeId)(h:VR ρ v v')(k:qT c=true):SR P (fun _ a b=>a=b) ρ (Op.equalIn (d+1) t v c) (Op.equalIn (d+1) t v' c):=by
 simp only[Op.equalIn];refine SR.bind (mi t) fun l u n m e=>?_
 obtain⟨rfl,_⟩:=e;have j:=h.mono m;unfold qT at k;split at k
 ·cases u<;>cases j<;>first|exact kg rfl|exact kr|exact kP
 ·cases u<;>cases j<;>first|exact kg rfl|exact kr|exact kP
 ·cases u<;>cases j<;>first|exact kg rfl|exact kr|exact kP
 ·cases u<;>cases j<;>first|exact kg rfl|exact kr|exact kP
 ·cases u<;>cases j<;>first|exact kg rfl|exact kr|exact kP
 ·cases k
theorem Hj(d:Nat)(t:TypeId)(h:VR ρ v v')(k:qT c=true):SR P (fun _ a b=>a=b) ρ (Op.equalIn (d+1) t c v) (Op.equalIn (d+1) t c v'):=by
 simp only[Op.equalIn];refine SR.bind (mi t) fun l u n m e=>?_
 obtain⟨rfl,_⟩:=e;have j:=h.mono m;unfold qT at k;split at k
 ·cases u<;>cases j<;>first|exact kg rfl|exact kr|exact kP
 ·cases u<;>cases j<;>first|exact kg rfl|exact kr|exact kP
 ·cases u<;>cases j<;>first|exact kg rfl|exact kr|exact kP
 ·cases u<;>cases j<;>first|exact kg rfl|exact kr|exact kP
 ·cases u<;>cases j<;>first|exact kg rfl|exact kr|exact kP
 ·cases k
theorem Hk(t:TypeId)(h:VR ρ v v')(d:qT c=true):SR P (fun _ a b=>a=b) ρ (Op.equal t v c) (Op.equal t v' c):=Hh 9999 t h d
theorem Hm(t:TypeId)(h:VR ρ v v')(d:qT c=true):SR P (fun _ a b=>a=b) ρ (Op.equal t c v) (Op.equal t c v'):=Hj 9999 t h d
theorem Ho[kD P](d:Nat)(t:TypeId)(h:rv P 12 t=true):SR P (fun _ a b=>a=false∧b=false) ρ (Op.eqGuardIn (d+1) t .nilIface .nilIface) (Op.eqGuardIn (d+1) t .nilIface .nilIface):=by
 simp only[Op.eqGuardIn];refine SR.bind (mi t) fun j u l m e=>?_
 obtain⟨rfl,k⟩:=e;have:rv P (11+1) t=true:=h;simp only[rv,k,ep]at this
 cases u<;>first|exact kg ⟨rfl,rfl⟩|simp at this
variable {f g:Operand→Value}
theorem Hq[kD P](t:TypeId)(x y:Operand)(h:tH P t x y=true)(he:ER ρ f g)(hx:lN x=true)(d:lN y=true):SR P (fun _ a b=>a=b) ρ (Op.equal t (f x) (f y)) (Op.equal t (g x) (g y)):=by
 unfold tH at h;simp only[eh,ep]at h;rcases h with(h|h)|h
 ·cases x with
  |const c=>rw[(he.const c).1,(he.const c).2];exact Hm t (he.get d) h
  |_=>simp[r7]at h
 ·cases y with
  |const c=>rw[(he.const c).1,(he.const c).2];exact Hk t (he.get hx) h
  |_=>simp[r7]at h
 ·exact Cc 12 _ t h.1 (he.get hx) (he.get d)
theorem Ht[kD P](op:BinOp)(t:TypeId)(x y:Operand)(h:(op=.eql∨op=.neq)→tH P t x y=true)(he:ER ρ f g)(hx:lN x=true)(F:lN y=true):SR P (fun _ _ _=>True) ρ (eqGuard op t x y (f x) (f y)) (eqGuard op t x y (g x) (g y)):=by
 have main:(op=.eql∨op=.neq)→SR P (fun _ _ _=>True) ρ (match f x,f y with
   | .nilIface,.nilIface=>do
    if(x matches .const _) || (y matches .const _) then return
    if ←Op.eqGuardIn Op.maxDepth t (f x) (f y) then unsupported (.noEntry "binop/eql: two nil values of an interface type with methods, neither of them the literal nil")
   | .agg _,.agg _=>do
    if !(←program).eqGuardType (←program).depth t then return
    if ←Op.eqGuardIn Op.maxDepth t (f x) (f y) then unsupported (.noEntry "binop/eql: two nil values of an interface type with methods, in a part of a struct or an array")
   |_,_=>pure ()) (match g x,g y with
   | .nilIface,.nilIface=>do
    if(x matches .const _) || (y matches .const _) then return
    if ←Op.eqGuardIn Op.maxDepth t (g x) (g y) then unsupported (.noEntry "binop/eql: two nil values of an interface type with methods, neither of them the literal nil")
   | .agg _,.agg _=>do
    if !(←program).eqGuardType (←program).depth t then return
    if ←Op.eqGuardIn Op.maxDepth t (g x) (g y) then unsupported (.noEntry "binop/eql: two nil values of an interface type with methods, in a part of a struct or an array")
   |_,_=>pure ()):=by
  intro B;have C:=h B;unfold tH at C;simp only[eh,ep]at C;have z:r7 x=true→∃c,x=.const c∧qT c=true:=by intro m;cases x<;>simp_all[r7]
  have A:r7 y=true→∃c,y=.const c∧qT c=true:=by intro m;cases y<;>simp_all[r7]
  have n:=he.get hx;have l:=he.get F;rcases C with(m|m)|m
  ·obtain⟨c,rfl,q⟩:=z m;rw[(he.const c).1,(he.const c).2];generalize f y=u,g y=k at l;unfold qT at q;split at q
   ·cases l<;>first|exact kg trivial|(cases k<;>first|exact kg trivial|(rename_i j;simp[nC]at j))
   ·cases l<;>first|exact kg trivial|exact SR.ite (fun _=>kg trivial) (fun s=>absurd rfl s)|(cases k<;>first|exact kg trivial|(rename_i j;simp[nC]at j))
   ·cases l<;>first|exact kg trivial|(cases k<;>first|exact kg trivial|(rename_i j;simp[nC]at j))
   ·cases l<;>first|exact kg trivial|(cases k<;>first|exact kg trivial|(rename_i j;simp[nC]at j))
   ·cases l<;>first|exact kg trivial|(cases k<;>first|exact kg trivial|(rename_i j;simp[nC]at j))
   ·cases q
  ·obtain⟨c,rfl,q⟩:=A m;rw[(he.const c).1,(he.const c).2];generalize f x=u,g x=k at n;unfold qT at q;split at q
   ·cases n<;>first|exact kg trivial|(cases k<;>first|exact kg trivial|(rename_i j;simp[nC]at j))
   ·cases n<;>first|exact kg trivial|exact SR.ite (fun _=>kg trivial) (fun s=>absurd (by simp) s)|(cases k<;>first|exact kg trivial|(rename_i j;simp[nC]at j))
   ·cases n<;>first|exact kg trivial|(cases k<;>first|exact kg trivial|(rename_i j;simp[nC]at j))
   ·cases n<;>first|exact kg trivial|(cases k<;>first|exact kg trivial|(rename_i j;simp[nC]at j))
   ·cases n<;>first|exact kg trivial|(cases k<;>first|exact kg trivial|(rename_i j;simp[nC]at j))
   ·cases q
  ·generalize f x=v,g x=v',f y=u,g y=k at n l;have D:=m.1;have G:P.eqGuardType P.depth t=false:=by simpa using m.2
   cases n with
   |nilIface =>
    cases l with
    |nilIface =>
     refine SR.ite (fun _=>kg trivial) fun _=>?_
     exact SR.bind (Ho 9999 t D) fun H a b I e=>by obtain⟨rfl,rfl⟩:=e;exact kg trivial
    |hole E j=>cases k<;>first|exact kg trivial|simp[nC]at j
    |_=>exact kg trivial
   |agg a b =>
    cases l with
    |agg c d =>
     refine vv ?_;refine vv ?_;simp only[G,Bool.not_false,dn];exact kg trivial
    |hole E j=>cases k<;>first|exact kg trivial|simp[nC]at j
    |_=>exact kg trivial
   |hole E j=>cases v'<;>first|exact kg trivial|simp[nC]at j
   |_=>cases l<;>first|exact kg trivial|(cases k<;>first|exact kg trivial|(rename_i j;simp[nC]at j))
 unfold eqGuard
 cases op<;>first|exact main (.inl rfl)|exact main (.inr rfl)|exact kg trivial
end
end
section
variable [Scope]
section
variable {P:Program} {ρ:j7}
theorem Cd(op:BinOp)(k:IntKind)(a b:Int):SR P VR ρ (Op.intArith op k a b) (Op.intArith op k a b):=by
 unfold Op.intArith;split<;>first|exact kg (.int _ _)|exact kr
theorem Hu(op:BinOp)(k:IntKind)(a b:Int):SR P VR ρ (Op.intDiv op k a b) (Op.intDiv op k a b):=by
 unfold Op.intDiv;refine SR.ite (fun _=>oJ (.error _) trivial) fun _=>?_
 split<;>first|exact kg (.int _ _)|exact kr
theorem Ce(op:BinOp)(k:IntKind)(a b:Int):SR P VR ρ (Op.intBits op k a b) (Op.intBits op k a b):=by
 unfold Op.intBits
 (try dsimp only);split<;>first|exact kg (.int _ _)|exact kr
theorem Hv(op:BinOp)(a b:Int):SR P VR ρ (Op.intCmp op a b) (Op.intCmp op a b):=by
 unfold Op.intCmp;split<;>first|exact kg (.bool _)|exact kr
theorem Hw(op:BinOp)(k:IntKind)(a:Int)(k':IntKind)(b:Int):SR P VR ρ (Op.shift op k a k' b) (Op.shift op k a k' b):=by
 unfold Op.shift;refine SR.ite (fun _=>oJ (.error _) trivial) fun _=>?_
 (try dsimp only);split<;>first|exact kg (.int _ _)|exact kr
theorem zA(op:BinOp)(a b:ByteArray):SR P VR ρ (Op.stringOp op a b) (Op.stringOp op a b):=by
 unfold Op.stringOp
 (try dsimp only);split
 ·exact SR.ite (fun _=>kP) fun _=>kg (.string _)
 all_goals first|exact kg (.bool _)|exact kr
variable {α:Type} {a:Addr}
theorem Cf[kD P]{R:j7→α→α→Prop}{b:Addr}(d:Scope.base≤a.block)(k:Nat×Nat→Sem α)(y:Sem α):SR P R ρ (Op.twoPlaces a b >>= k) y:=by
 unfold Op.twoPlaces;have b1:kD.base (P:=P)=kD.base:=rfl;have:=kD.base (P:=P)
 by_cases e:(a.block != b.block)=true
 ·refine SR.qx ?_;show SR P R ρ (Sem.bind (if(a.block != b.block || decide (a.block ≥ P.globals.size))=true then _ else _) k) y;rw[dr (by simp[e])];exact kP
 ·refine SR.qx ?_;show SR P R ρ (Sem.bind (if(a.block != b.block || decide (a.block ≥ P.globals.size))=true then _ else _) k) y;rw[dr (by simp;right;omega)];exact kP
theorem zB [kD P] (op:BinOp) (t:TypeId) (k k':IntKind) (a b:Int):SR P VR ρ (binOp op t (.int k a) (.int k' b)) (binOp op t (.int k a) (.int k' b)):=by
  cases op <;> unfold binOp <;> (try dsimp only) <;> first
    | exact Hw _ _ _ _ _
    | (split
       · exact kr
       · first | exact Cd _ _ _ _ | exact Hu _ _ _ _ | exact Ce _ _ _ _ | exact Hv _ _ _)
theorem zC[kD P](op:BinOp)(t:TypeId)(a b:ByteArray):SR P VR ρ (binOp op t (.string a) (.string b)) (binOp op t (.string a) (.string b)):=by
 cases op<;>unfold binOp<;>exact zA _ _ _
variable {a':Addr} {v v':Value}
theorem Hy [kD P] (op:BinOp) (t:TypeId) (h1:op≠.eql) (h2:op≠.neq) (ht:∀ d,P.underlying t=some d→d≠.unsafePointer) (ha:AR ρ a a') (hv:VR ρ v v') :
    SR P VR ρ (binOp op t (.pointer (some a)) v) (binOp op t (.pointer (some a')) v'):=by
  have add:SR P VR ρ (do if (←underlying t) matches .unsafePointer then movedPointer t (.pointer (some a)) v else movedNumber t (.pointer (some a)) v)
      (do if (←underlying t) matches .unsafePointer then movedPointer t (.pointer (some a')) v' else movedNumber t (.pointer (some a')) v'):=by
    refine SR.bind (mi t) fun ρ1 d d' l1 e=>?_
    obtain ⟨rfl,e0⟩:=e
    have:=ht d e0
    cases d <;> first | exact absurd rfl this | exact zz t (ha.mono l1) (hv.mono l1)
  have two:∀ (op:BinOp) {b b':Addr},AR ρ b b'→SR P VR ρ (do Op.addrCmp op (←behindNumber a).1 (←behindNumber b).1) (do Op.addrCmp op (←behindNumber a').1 (←behindNumber b').1):=by
    intro op b b' hb
    refine SR.bind (sW ha) fun ρ1 x x' l1 hx=>?_
    refine SR.bind (sW (hb.mono l1)) fun ρ2 y y' l2 hy=>?_
    unfold Op.addrCmp
    exact Cf hx.1.1 _ _
  by_cases ux:v=.chan (some 1)
  · subst ux;cases op <;> first | exact absurd rfl h1 | exact absurd rfl h2 | exact kr | exact kP
  cases hv with
  | hole _ _=>exact absurd rfl ux
  | int k n =>
    cases op <;> first
      | exact absurd rfl h1
      | exact absurd rfl h2
      | exact add
      | exact zz t ha (.int _ _)
      | exact kP
      | exact SR.bind (sW ha) fun ρ1 x x' l1 hx=>Ca _ _ hx.1
  | ptr hb =>
    cases op <;> first
      | exact absurd rfl h1
      | exact absurd rfl h2
      | exact two _ hb
      | exact kP
      | (refine SR.bind (sW ha) fun ρ1 x x' l1 hx=>SR.bind (sW (hb.mono l1)) fun ρ2 y y' l2 hy=>?_
         unfold Op.addrSub
         exact Cf hx.1.1 _ _)
  | _=>cases op <;> first | exact absurd rfl h1 | exact absurd rfl h2 | exact kP
theorem Hz[kD P](op:BinOp)(t:TypeId)(d:op≠.eql)(e:op≠.neq){k:IntKind}{n:Int}(b:AR ρ a a'):SR P VR ρ (binOp op t (.int k n) (.pointer (some a))) (binOp op t (.int k n) (.pointer (some a'))):=by
 cases op<;>first
  |exact absurd rfl d
  |exact absurd rfl e
  |exact zz t b (.int _ _)
  |exact kP
  |exact SR.bind (sW b) fun h x j l hx=>Ca _ _ hx.1
theorem Cg (t:TypeId) {y:Sem Value} (v:Value):SR P VR ρ (Builtin.unsafeAdd_ #[] t #[.pointer none,v]) y:=by
  unfold Builtin.unsafeAdd_
  cases v <;> first
    | exact kr
    | (rename_i k n
       by_cases h0:n=0
       · subst h0;exact kP
       · show SR P VR ρ (if n=0 then _ else _) y
         rw [dt h0]
         by_cases h1:n < 0
         · show SR P VR ρ (if n < 0 then _ else _) y
           rw [dr h1];exact kP
         · show SR P VR ρ (if n < 0 then _ else _) y
           rw [dt h1];exact kP)
    | (rename_i a;cases a <;> first | exact kr | exact kP)
theorem zD(t:TypeId)(v v':Value):SR P VR ρ (movedNumber t (.pointer none) v) (movedNumber t (.pointer none) v'):=by
 unfold movedNumber;refine SR.bind (mi t) fun b d d' h e=>?_
 obtain⟨rfl,_⟩:=e
 (try dsimp only);refine SR.ite (fun _=>kP) fun _=>?_
 exact Cg t v
theorem We(t:TypeId)(v v':Value):SR P VR ρ (do if(←underlying t) matches .unsafePointer then movedPointer t (.pointer none) v else movedNumber t (.pointer none) v)
   (do if(←underlying t) matches .unsafePointer then movedPointer t (.pointer none) v' else movedNumber t (.pointer none) v'):=by
 refine SR.bind (mi t) fun b d d' h e=>?_
 obtain⟨rfl,j⟩:=e
 cases d<;>first|exact zD t v v'|exact Cg t v
def uy (P:Program) (t:TypeId) (x u:Value):Prop:=(∀d e,P.underlying t≠some (.chan d e))∨(∀r,x≠.chan r)∨(∀r,u≠.chan r)
variable {β:Type} {x u:Value}
theorem HU{R:j7→α→β→Prop}(n:Nat)(t:TypeId)(e:uy P t x u)(h:x=.chan (some 1)∨u=.chan (some 1))(k:Bool→Sem α)(y:Sem β):SR P R ρ (Op.equalIn (n+1) t x u >>= k) y:=by
 simp only[Op.equalIn];unfold underlying;refine SR.qx ?_;show SR P R ρ (Sem.bind (Sem.bind (match P.underlying t with|some d=>Pure.pure d|none=>stuck "no such type") _) k) y;unfold uy at e
 cases hu:P.underlying t with
 |none=>exact kr
 |some d =>
  rw[hu]at e;rcases h with rfl|rfl
  ·rcases u with b|⟨k,((_|n)|n)⟩|⟨k,n⟩|⟨k,a,b⟩|s|(_|a)|⟨(_|a),l,c⟩|(_|r)|(_|r)|⟨f,a,b⟩|_|⟨t',v⟩|_|xs|xs<;>cases d<;>first|exact kr|exact kP|(exfalso;rcases e with e|e|e<;>first|exact e _ _ rfl|exact e _ rfl)
  ·rcases x with b|⟨k,((_|n)|n)⟩|⟨k,n⟩|⟨k,a,b⟩|s|(_|a)|⟨(_|a),l,c⟩|(_|r)|(_|r)|⟨f,a,b⟩|_|⟨t',v⟩|_|xs|xs<;>cases d<;>first|exact kr|exact kP|(exfalso;rcases e with e|e|e<;>first|exact e _ _ rfl|exact e _ rfl)
theorem x8{R:j7→α→β→Prop}(t:TypeId)(b:uy P t x u)(h:x=.chan (some 1)∨u=.chan (some 1))(k:Bool→Sem α)(y:Sem β):SR P R ρ (Op.equal t x u >>= k) y:=HU 9999 t b h k y
theorem HV[kD P](op:BinOp)(t:TypeId)(u:Value)(y:Sem Value)(b:(op=.eql∨op=.neq)→uy P t (.chan (some 1)) u):SR P VR ρ (binOp op t (.chan (some 1)) u) y:=by
 cases op<;>cases u<;>first|exact kr|exact kP|exact x8 t (b (.inl rfl)) (.inl rfl) _ _|exact x8 t (b (.inr rfl)) (.inl rfl) _ _
theorem HY[kD P](op:BinOp)(t:TypeId)(x:Value)(y:Sem Value)(b:(op=.eql∨op=.neq)→uy P t x (.chan (some 1))):SR P VR ρ (binOp op t x (.chan (some 1))) y:=by
 cases op<;>cases x<;>first|exact kr|exact kP|exact x8 t (b (.inl rfl)) (.inr rfl) _ _|exact x8 t (b (.inr rfl)) (.inr rfl) _ _|(rename_i a;cases a<;>first|exact kr|exact kP)
theorem H6[kD P](op:BinOp)(t:TypeId)(B:∀d,P.underlying t=some d→d≠.unsafePointer){l:Value}(A:VR ρ v v')(hu:VR ρ u l)(he:(op=.eql∨op=.neq)→SR P (fun _ a b=>a=b) ρ (Op.equal t v u) (Op.equal t v' l))(m:(op=.eql∨op=.neq)→uy P t v u):SR P VR ρ (binOp op t v u) (binOp op t v' l):=by
 by_cases z:v=.chan (some 1)
 ·subst z;exact HV op t u _ m
 by_cases h:u=.chan (some 1)
 ·subst h;exact HY op t v _ m
 by_cases j:op=.eql∨op=.neq
 ·have n:SR P VR ρ (do pure (.bool (←Op.equal t v u))) (do pure (.bool (←Op.equal t v' l))):=SR.bind (he j) fun _ a b _ e=>by subst e;exact kg (.bool _)
  have q:SR P VR ρ (do pure (.bool (!(←Op.equal t v u)))) (do pure (.bool (!(←Op.equal t v' l)))):=SR.bind (he j) fun _ a b _ e=>by subst e;exact kg (.bool _)
  rcases j with rfl|rfl
  ·cases A<;>first
    |exact absurd rfl z
    |exact n
    |(cases hu<;>first|exact absurd rfl h|exact n|exact zB _ _ _ _ _ _|exact zC _ _ _ _)
  ·cases A<;>first
    |exact absurd rfl z
    |exact q
    |(cases hu<;>first|exact absurd rfl h|exact q|exact zB _ _ _ _ _ _|exact zC _ _ _ _)
 ·have s:op≠.eql:=fun e=>j (.inl e)
  have y:op≠.neq:=fun e=>j (.inr e)
  cases A with
  |int k a =>
   cases hu with
   |int k' b=>exact zB _ _ _ _ _ _
   |ptr hb=>exact Hz op t s y hb
   |hole _ _=>exact absurd rfl h
   |_=>cases op<;>first|exact absurd rfl s|exact absurd rfl y|exact kr|exact kP|exact zD _ _ _
  |string a =>
   cases hu with
   |string b=>exact zC _ _ _ _
   |hole _ _=>exact absurd rfl h
   |_=>cases op<;>first|exact absurd rfl s|exact absurd rfl y|exact kr|exact kP
  |ptr C=>exact Hy op t s y B C hu
  |hole _ _=>exact absurd rfl z
  |_ =>
   cases hu with
   |hole _ _=>exact absurd rfl h
   |_=>cases op<;>first|exact absurd rfl s|exact absurd rfl y|exact kr|exact kP|exact zD _ _ _|exact We _ _ _
theorem H7(op:UnOp)(h:VR ρ v v'):SR P VR ρ (Op.unary op v) (Op.unary op v'):=by
 unfold Op.unary
 cases op<;>cases h<;>first|exact kr|exact kP|exact kg (.bool _)|exact Cd _ _ _ _|exact Ce _ _ _ _
end
end
section
variable [Scope]
def zE (P:Program) (s d:TypeId):Bool :=
 match P.underlying s,P.underlying d with
 |some (.int _),some (.int _)|some .string,some .string|some (.int _),some .string=>true
 |some (.slice e),some .string|some .string,some (.slice e)=>match P.underlying e with
  |some (.int .u8)=>true
  |_=>false
 |_,_=>false
section
variable {P:Program} {ρ:j7}
theorem H8(t:TypeId):SR P (fun _ a b=>a=b) ρ (elemOf t) (elemOf t):=by
 unfold elemOf;refine SR.bind (mi t) fun h d d' j e=>?_
 obtain⟨rfl,_⟩:=e
 cases d<;>first|exact kg rfl|exact kr
theorem H9{α β:Type}{R:j7→α→β→Prop}:SR P R ρ (runtimePanic .panicNil:Sem α) (runtimePanic .panicNil:Sem β):=by
 unfold runtimePanic;refine vv ?_;refine SR.bind (H8 _) fun d a b k e=>?_
 subst e;exact SR.bind (zo _ (ki.nil d).agg) fun h a a' _ j=>uu (.iface (.ptr j))
variable {v v':Value}
theorem Ch(h:VR ρ v v'):SR P VR ρ (Instr.panic v) (Instr.panic v'):=by
 by_cases d:v=.nilIface
 ·subst d
  cases h
  unfold Instr.panic;refine SR.bind (R:=fun _ a b=>a=b) ?_ fun j a b k e=>?_
  ·unfold Instr.panicnil;refine SR.env fun s=>?_
   exact vv (kg rfl)
  ·subst e;exact SR.ite (fun _=>uu .nilIface) fun _=>H9
 ·exact G5 h d
theorem Ia(e:TypeId){c C:Array Value}(h:ki ρ c C):SR P (fun ρ a a'=>Scope.base≤a.block∧ρ a.block=some ⟨a'.block,none⟩∧a'.off=a.off∧a'.spot=a.spot) ρ (newRow e c) (newRow e C):=by
 unfold newRow;exact SR.bind (zn (.cells h)) fun ρ' r r' _ hr=>kg ⟨hr.1,hr.2,rfl,rfl⟩
theorem ki.ints(f:UInt8→Value)(d:∀b,VR ρ (f b) (f b))(s:ByteArray):ki ρ (s.data.map f) (s.data.map f) :=
 ⟨rfl,fun i v v' a b=>by rw[a]at b;cases b;rw[dV]at a;obtain⟨x,_,rfl⟩:=eo.1 a;exact d x⟩
theorem Ib(e:TypeId)(s:ByteArray):SR P VR ρ (Conv.stringToBytes e s) (Conv.stringToBytes e s):=by
 unfold Conv.stringToBytes;refine SR.bind (vw _) fun l n n' B he=>?_
 subst he
 (try dsimp only);refine SR.bind (Ia e ((ki.ints (fun b=>.int .u8 b.toNat) (fun b=>.int _ _) s).append (ki.replicate _ (.int .u8 0)))) fun m a a' C q=>?_
 obtain⟨y,d,z,A⟩:=q;refine SR.bind (R:=fun _ _ _=>True) ?_ fun h _ _ j _=>kg (.slice _ _ ⟨y,_,j _ _ d,rfl,by simp[Place.shift,z],A⟩)
 unfold markStringish;refine SR.bind (vy d) fun h s s' j k=>?_
 have k:s=s':=k;subst k
 cases s with
 |none=>exact kg trivial
 |some x=>exact .freeze (j _ _ d) rfl (.pure trivial)
theorem Ci:∀ {l l':List Value} {ρ:j7} (s:ByteArray),oR ρ l l'→SR P (fun _ a b=>a=b) ρ
    (forIn l s fun c s=>do
      let .int .u8 n:=c | stuck "bytesToString: byte expected"
      pure (ForInStep.yield (s.push (UInt8.ofNat n.toNat))))
    (forIn l' s fun c s=>do
      let .int .u8 n:=c | stuck "bytesToString: byte expected"
      pure (ForInStep.yield (s.push (UInt8.ofNat n.toNat))))
  | [],_,ρ,s,h=>by cases h;simp only [List.forIn_nil];exact kg rfl
  | c::l,_,ρ,s,h=>by
    cases h with
    | cons h1 h2 =>
      simp only [List.forIn_cons]
      cases h1 with
      | int k n =>
        cases k <;> first
          | exact kr
          | exact SR.bind (R:=fun _ a b=>a=b∧a=ForInStep.yield (s.push (UInt8.ofNat n.toNat))) (kg ⟨rfl,rfl⟩) fun ρ1 a b l1 e=>by
              obtain ⟨rfl,rfl⟩:=e
              exact Ci _ (oR.mono h2 l1)
      | _=>exact kr
theorem Ic(h:VR ρ v v'):SR P VR ρ (Conv.bytesToString v) (Conv.bytesToString v'):=by
 unfold Conv.bytesToString
 cases h with
 |mI l c=>exact kg (.string _)
 |slice l c d =>
  refine SR.bind (zp l d) fun j x m n hx=>?_
  rw[←et,←et];refine SR.bind (Ci _ hx.list) fun k a b q e=>?_
  subst e;exact kg (.string _)
 |nD _ _=>exact kg (.string _)
 |_=>exact kr
theorem Ie(s d:TypeId)(b:zE P s d=true)(h:VR ρ v v'):SR P VR ρ (convert s d v) (convert s d v'):=by
 unfold convert;refine SR.bind (mi s) fun A x H B e=>?_
 obtain⟨rfl,C⟩:=e;refine SR.bind (mi d) fun m y I D e=>?_
 obtain⟨rfl,E⟩:=e;have l:=(h.mono B).mono D;unfold zE at b;rw[C,E]at b
 cases x with
 |int k =>
  cases y with
  |int k'=>cases l<;>first|exact kg (.int _ _)|exact kP
  |string=>cases l<;>first|exact kg (.string _)|exact kP
  |_=>simp at b
 |string =>
  cases y with
  |string=>cases l<;>first|exact kg (.string _)|exact kP
  |slice e =>
   have he:P.underlying e=some (.int .u8):=by
    simp only at b;split at b
    ·assumption
    ·cases b
   cases l with
   |string t =>
    refine SR.bind (mi e) fun n z F q j=>?_
    obtain⟨rfl,j⟩:=j;rw[he]at j
    cases j
    exact Ib e t
   |_=>exact kP
  |_=>simp at b
 |slice e =>
  cases y with
  |string =>
   have he:P.underlying e=some (.int .u8):=by
    simp only at b;split at b
    ·assumption
    ·cases b
   have main:SR P VR m (do match ←underlying e with
     | .int .u8=>Conv.bytesToString v
     | .int .i32=>Conv.runesToString v
     |_=>stuck "Convert: a slice of what to string?") (do match ←underlying e with
     | .int .u8=>Conv.bytesToString v'
     | .int .i32=>Conv.runesToString v'
     |_=>stuck "Convert: a slice of what to string?"):=by
    refine SR.bind (mi e) fun n z F q j=>?_
    obtain⟨rfl,j⟩:=j;rw[he]at j
    cases j
    exact Ic (l.mono q)
   cases l with
   |hole J G=>cases v'<;>first|exact main|simp[nC]at G
   |_=>first|exact kg (.string _)|exact main
  |_=>simp at b
 |_=>cases y<;>simp at b
end
end
end Go.Proofs.YtjnkcibpkkjniaaGreat.kx
