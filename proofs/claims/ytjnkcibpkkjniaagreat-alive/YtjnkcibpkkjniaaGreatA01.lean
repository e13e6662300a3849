import Derived.Conc.Events
import Derived.Control
import Derived.Laws.Tables
set_option linter.unusedVariables false
set_option linter.unusedSimpArgs false
set_option linter.unusedSectionVars false
namespace Go.Proofs.YtjnkcibpkkjniaaGreat.Sim
structure Span where
 start:Nat
 len:Nat
 elem:TypeId
structure Place where
 block:Nat
 part:Option Span
def Place.shift (p:Place):Nat:=match p.part with | none=>0 | some x=>x.start
abbrev Ren:=Nat→Option Place
def Ren.le (ρ ρ':Ren):Prop:=∀ b p,ρ b=some p→ρ' b=some p
class Scope where
 ok:FuncId→Bool
 base:Nat
 cells:TypeId→Nat
 sync:Bool
variable [Scope]
theorem Ren.le_refl (ρ:Ren):ρ.le ρ:=fun _ _ h=>h
theorem Ren.le_trans {a b c:Ren} (h:a.le b) (k:b.le c):a.le c:=fun x p hx=>k x p (h x p hx)
def AR (ρ:Ren) (a a':Addr):Prop:=Scope.base≤a.block∧∃ p,ρ a.block=some p∧a'.block=p.block∧a'.off=p.shift+a.off∧a'.spot=a.spot
theorem AR.mono {ρ ρ':Ren} {a a':Addr} (h:AR ρ a a') (l:ρ.le ρ'):AR ρ' a a':=by
 obtain ⟨h0,p,h1,h2⟩:=h
 exact ⟨h0,p,l _ _ h1,h2⟩
theorem AR.add {ρ:Ren} {a a':Addr} (h:AR ρ a a') (n:Nat):AR ρ (a.add n) (a'.add n):=by
 obtain ⟨h0,p,h1,h2,h3,h4⟩:=h
 unfold Addr.add
 by_cases e:n=0
 ·simp only [e,if_true];exact ⟨h0,p,h1,h2,h3,h4⟩
 ·simp only [e,if_false];exact ⟨h0,p,h1,h2,by simp only;omega,rfl⟩
inductive VR (ρ:Ren):Value→Value→Prop
 | bool (b:Bool):VR ρ (.bool b) (.bool b)
 | int (k:IntKind) (n:Int):VR ρ (.int k n) (.int k n)
 | string (s:ByteArray):VR ρ (.string s) (.string s)
 | ptr0:VR ρ (.pointer none) (.pointer none)
 | ptr {a a':Addr}:AR ρ a a'→VR ρ (.pointer (some a)) (.pointer (some a'))
 | slice0 (l c:Nat):VR ρ (.slice none l c) (.slice none l c)
 | slice {a a':Addr} (l c:Nat):AR ρ a a'→VR ρ (.slice (some a) l c) (.slice (some a') l c)
 | map0:VR ρ (.map none) (.map none)
 | map {r r':Nat}:ρ r=some ⟨r',none⟩→VR ρ (.map (some r)) (.map (some r'))
 | chan0:VR ρ (.chan none) (.chan none)
 | func {f:FuncId} {xs xs' ys ys':Array Value}:Scope.ok f=true→xs.size=xs'.size→(∀ (i:Nat) v v',xs[i]? = some v→xs'[i]? = some v'→VR ρ v v')→ys.size=ys'.size→(∀ (i:Nat) v v',ys[i]? = some v→ys'[i]? = some v'→VR ρ v v') →
   VR ρ (.func (.func f) xs ys) (.func (.func f) xs' ys')
 | nilFunc:VR ρ .nilFunc .nilFunc
 | iface {t:TypeId} {v v':Value}:VR ρ v v'→VR ρ (.iface t v) (.iface t v')
 | nilIface:VR ρ .nilIface .nilIface
 | agg {xs ys:Array Value}:xs.size=ys.size→(∀ (i:Nat) v v',xs[i]? = some v→ys[i]? = some v'→VR ρ v v')→VR ρ (.agg xs) (.agg ys)
 | tuple {xs ys:Array Value}:xs.size=ys.size→(∀ (i:Nat) v v',xs[i]? = some v→ys[i]? = some v'→VR ρ v v')→VR ρ (.tuple xs) (.tuple ys)
structure VsR (ρ:Ren) (xs ys:Array Value):Prop where
 size:xs.size=ys.size
 get:∀ (i:Nat) v v',xs[i]? = some v→ys[i]? = some v'→VR ρ v v'
theorem VR.mono {ρ ρ':Ren} {v v':Value} (h:VR ρ v v') (l:ρ.le ρ'):VR ρ' v v':=by
 induction h with
 | bool b=>exact .bool b
 | int k n=>exact .int k n
 | string s=>exact .string s
 | ptr0=>exact .ptr0
 | ptr h=>exact .ptr (h.mono l)
 | slice0 a b=>exact .slice0 a b
 | slice a b h=>exact .slice a b (h.mono l)
 | map0=>exact .map0
 | map h=>exact .map (l _ _ h)
 | chan0=>exact .chan0
 | func h1 h2 _ h4 _ ih1 ih2=>exact .func h1 h2 ih1 h4 ih2
 | nilFunc=>exact .nilFunc
 | iface _ ih=>exact .iface ih
 | nilIface=>exact .nilIface
 | agg h _ ih=>exact .agg h ih
 | tuple h _ ih=>exact .tuple h ih
theorem VsR.mono {ρ ρ':Ren} {xs ys:Array Value} (h:VsR ρ xs ys) (l:ρ.le ρ'):VsR ρ' xs ys:=⟨h.size,fun i v v' a b=>(h.get i v v' a b).mono l⟩
theorem VsR.agg {ρ:Ren} {xs ys:Array Value} (h:VsR ρ xs ys):VR ρ (.agg xs) (.agg ys):=.agg h.size h.get
theorem VsR.tuple {ρ:Ren} {xs ys:Array Value} (h:VsR ρ xs ys):VR ρ (.tuple xs) (.tuple ys):=.tuple h.size h.get
theorem VsR.func {ρ:Ren} {f:FuncId} {xs xs' ys ys':Array Value} (hf:Scope.ok f=true) (h:VsR ρ xs xs') (k:VsR ρ ys ys'):VR ρ (.func (.func f) xs ys) (.func (.func f) xs' ys'):=.func hf h.size h.get k.size k.get
theorem VsR.nil (ρ:Ren):VsR ρ #[] #[]:=⟨rfl,by simp⟩
theorem VsR.push {ρ:Ren} {xs ys:Array Value} {v v':Value} (h:VsR ρ xs ys) (k:VR ρ v v'):VsR ρ (xs.push v) (ys.push v'):=by
 refine ⟨by simp [h.size],fun i u u' a b=>?_⟩
 rw [Array.getElem?_push] at a b
 split at a
 ·rename_i e;rw [if_pos (e.trans h.size)] at b;cases a;cases b;exact k
 ·rename_i e;rw [if_neg (fun e'=>e (e'.trans h.size.symm))] at b;exact h.get i u u' a b
theorem VsR.append {ρ:Ren} {xs ys xs' ys':Array Value} (h:VsR ρ xs ys) (k:VsR ρ xs' ys'):VsR ρ (xs++xs') (ys++ys'):=by
 refine ⟨by simp [h.size,k.size],fun i u u' a b=>?_⟩
 rw [Array.getElem?_append] at a b
 rw [←h.size] at b
 split at a
 ·rename_i e;rw [if_pos e] at b;exact h.get i u u' a b
 ·rename_i e;rw [if_neg e] at b;exact k.get _ u u' a b
theorem VsR.at_ {ρ:Ren} {xs ys:Array Value} (h:VsR ρ xs ys) {i:Nat} {v:Value} (e:xs[i]? = some v):∃ v',ys[i]? = some v'∧VR ρ v v':=by
 have hi:i < ys.size:=by have:=(Array.getElem?_eq_some_iff.1 e).1;rw [h.size] at this;exact this
 exact ⟨ys[i],Array.getElem?_eq_getElem hi,h.get i v _ e (Array.getElem?_eq_getElem hi)⟩
theorem VsR.off_ {ρ:Ren} {xs ys:Array Value} (h:VsR ρ xs ys) {i:Nat} (e:xs[i]? = none):ys[i]? = none:=by
 rw [Array.getElem?_eq_none_iff] at e ⊢;have:=h.size;omega
theorem VsR.set {ρ:Ren} {xs ys:Array Value} (h:VsR ρ xs ys) (i:Nat) {v v':Value} (k:VR ρ v v'):VsR ρ (xs.setIfInBounds i v) (ys.setIfInBounds i v'):=by
 refine ⟨by simp [h.size],fun j u u' a b=>?_⟩
 rw [Array.getElem?_setIfInBounds] at a b
 rw [←h.size] at b
 split at a
 ·rename_i e
  rw [if_pos e] at b
  split at a
  ·rename_i e';rw [if_pos e'] at b;cases a;cases b;exact k
  ·cases a
 ·rename_i e;rw [if_neg e] at b;exact h.get j u u' a b
theorem VsR.extract {ρ:Ren} {xs ys:Array Value} (h:VsR ρ xs ys) (i j:Nat):VsR ρ (xs.extract i j) (ys.extract i j):=by
 refine ⟨by simp [h.size],fun n u u' a b=>?_⟩
 rw [Array.getElem?_extract] at a b
 rw [←h.size] at b
 split at a
 ·rename_i e;rw [if_pos e] at b;exact h.get _ u u' a b
 ·cases a
theorem VsR.replicate {ρ:Ren} (n:Nat) {v v':Value} (k:VR ρ v v'):VsR ρ (Array.replicate n v) (Array.replicate n v'):=by
 refine ⟨by simp,fun i u u' a b=>?_⟩
 simp only [Array.getElem?_replicate] at a b
 split at a
 ·rename_i e;rw [if_pos e] at b;cases a;cases b;exact k
 ·cases a
theorem VsR.one {ρ:Ren} {v v':Value} (k:VR ρ v v'):VsR ρ #[v] #[v']:=(VsR.nil ρ).push k
theorem VsR.getD {ρ:Ren} {xs ys:Array Value} (h:VsR ρ xs ys) (i:Nat) {d:Value} (hd:VR ρ d d):VR ρ (xs.getD i d) (ys.getD i d):=by
 simp only [Array.getD_eq_getD_getElem?]
 cases e:xs[i]? with
 | none=>rw [h.off_ e];exact hd
 | some v=>obtain ⟨v',e',k⟩:=h.at_ e;rw [e'];exact k
def clear:Nat→Value→Bool
 | _, .bool _ | _, .int .. | _, .string _ | _, .pointer none | _, .slice none _ _ | _, .map none | _, .chan none | _, .nilFunc | _, .nilIface=>true
 | n+1, .agg xs | n+1, .tuple xs=>xs.all (clear n)
 | n+1, .iface _ v=>clear n v
 | _,_=>false
theorem clear_VR (ρ:Ren):∀ (n:Nat) (v:Value),clear n v=true→VR ρ v v:=by
 intro n
 induction n with
 | zero =>
  intro v h
  cases v with
  | bool b=>exact .bool b
  | int k n=>exact .int k n
  | float k n=>simp [clear] at h
  | complex k n m=>simp [clear] at h
  | string s=>exact .string s
  | pointer a=>cases a with
   | none=>exact .ptr0
   | some a=>simp [clear] at h
  | slice a l c=>cases a with
   | none=>exact .slice0 l c
   | some a=>simp [clear] at h
  | map r=>cases r with
   | none=>exact .map0
   | some a=>simp [clear] at h
  | chan r=>cases r with
   | none=>exact .chan0
   | some a=>simp [clear] at h
  | func fn a b=>simp [clear] at h
  | nilFunc=>exact .nilFunc
  | iface t v=>simp [clear] at h
  | nilIface=>exact .nilIface
  | agg xs=>simp [clear] at h
  | tuple xs=>simp [clear] at h
 | succ n ih =>
  intro v h
  have all:∀ xs:Array Value,xs.all (clear n)=true→VsR ρ xs xs:=fun xs hx=>⟨rfl,fun i v v' a b=>by
   rw [a] at b;cases b
   exact ih v (Array.all_eq_true_iff_forall_mem.1 hx v (Array.mem_of_getElem? a))⟩
  cases v with
  | bool b=>exact .bool b
  | int k n=>exact .int k n
  | float k n=>simp [clear] at h
  | complex k n m=>simp [clear] at h
  | string s=>exact .string s
  | pointer a=>cases a with
   | none=>exact .ptr0
   | some a=>simp [clear] at h
  | slice a l c=>cases a with
   | none=>exact .slice0 l c
   | some a=>simp [clear] at h
  | map r=>cases r with
   | none=>exact .map0
   | some a=>simp [clear] at h
  | chan r=>cases r with
   | none=>exact .chan0
   | some a=>simp [clear] at h
  | func fn a b=>simp [clear] at h
  | nilFunc=>exact .nilFunc
  | iface t v=>exact .iface (ih v (by simpa [clear] using h))
  | nilIface=>exact .nilIface
  | agg xs=>exact (all xs (by simpa only [clear] using h)).agg
  | tuple xs=>exact (all xs (by simpa only [clear] using h)).tuple
inductive OR (ρ:Ren):Obj→Obj→Prop
 | cells {c C:Array Value} {e:TypeId} {fr:Nat×Nat}:VsR ρ c C→OR ρ (.cells c e fr) (.cells C e fr)
 | map {es ES:Array MapEntry} {clk:Nat}:es.size=ES.size→(∀ (i:Nat) x y,es[i]? = some x→ES[i]? = some y→VR ρ x.key y.key∧VR ρ x.val y.val∧x.born=y.born)→OR ρ (.map es clk) (.map ES clk)
 | number {a a':Addr} {lost:Bool}:AR ρ a a'→OR ρ (.number a lost) (.number a' lost)
theorem OR.mono {ρ ρ':Ren} {o o':Obj} (h:OR ρ o o') (l:ρ.le ρ'):OR ρ' o o':=by
 cases h with
 | cells h=>exact .cells (h.mono l)
 | map h k=>exact .map h fun i x y a b=>⟨(k i x y a b).1.mono l,(k i x y a b).2.1.mono l,(k i x y a b).2.2⟩
 | number h=>exact .number (h.mono l)
structure PartR (ρ:Ren) (s l:Nat) (c C:Array Value):Prop where
 size:c.size=l
 room:s+l≤C.size
 get:∀ (i:Nat) v,c[i]? = some v→∃ v',C[s+i]? = some v'∧VR ρ v v'
def ObjR (ρ:Ren) (p:Place) (o o':Obj):Prop :=
 match p.part with
 | none=>OR ρ o o'
 | some ⟨s,l,ty⟩=>∃ c C,o=.cells c ty (0,0)∧o'=.cells C ty (0,0)∧Scope.cells ty ∣ s∧PartR ρ s l c C
theorem ObjR.mono {ρ ρ':Ren} {p:Place} {o o':Obj} (h:ObjR ρ p o o') (l:ρ.le ρ'):ObjR ρ' p o o':=by
 unfold ObjR at *
 split at h
 ·exact h.mono l
 ·obtain ⟨c,C,h1,h2,h0,h3⟩:=h
  exact ⟨c,C,h1,h2,h0,h3.size,h3.room,fun i v hv=>by obtain ⟨v',a,b⟩:=h3.get i v hv;exact ⟨v',a,b.mono l⟩⟩
structure HR (ρ:Ren) (w w':World):Prop where
 obj:∀ b p,ρ b=some p→∃ o o',w.heap[b]? = some o∧w'.heap[p.block]? = some o'∧ObjR ρ p o o'
 inj:∀ b b' p p',ρ b=some p→ρ b'=some p'→p.block=p'.block→b=b'
 base:Scope.base≤w.heap.size
 os:w'.os=w.os
 sync:Scope.sync=true→w.heap.size=w'.heap.size∧∀ b p,ρ b=some p→p=⟨b,none⟩
structure Lim where
 upto:Option Nat
 off:Int
 tape:Tape
structure TA (L:Lim) (w w':World):Prop where
 off:(w'.drawn:Int)=w.drawn+L.off
 tape:w.tape=L.tape
 at_:∀ j q,(∀ l,L.upto=some l→w'.drawn+j < l)→w'.tape (w'.drawn+j) q=w.tape (w.drawn+j) q
def Fits (L:Lim) (w:World):Prop:=∀ l,L.upto=some l→w.drawn≤l
def In (ρ:Ren) (a:Addr):Prop:=∃ b p,ρ b=some p∧p.block=a.block∧∀ s l ty,p.part=some ⟨s,l,ty⟩→s≤a.off∧a.off < s+l
theorem In.mono {ρ ρ':Ren} {a:Addr} (h:In ρ a) (l:ρ.le ρ'):In ρ' a:=by
 obtain ⟨b,p,h1,h2⟩:=h
 exact ⟨b,p,l _ _ h1,h2⟩
def EvOk (ρ:Ren) (e:Event):Prop :=
 match e.loc with
 | .cell a=>In ρ a
 | .obj r=>∃ b,ρ b=some ⟨r,none⟩
 | .mark m=>m=.noRoom
 | .output=>True
 | _=>False
theorem EvOk.mono {ρ ρ':Ren} {e:Event} (h:EvOk ρ e) (l:ρ.le ρ'):EvOk ρ' e:=by
 unfold EvOk at *
 split at h
 ·exact h.mono l
 ·obtain ⟨b,hb⟩:=h;exact ⟨b,l _ _ hb⟩
 ·exact h
 ·exact h
 ·exact h
structure Grow (ρ:Ren) (w:World) (ρ':Ren):Prop where
 le:ρ.le ρ'
 new:∀ b p,ρ' b=some p→ρ b=some p∨(p.part=none∧w.heap.size≤p.block)
theorem Grow.refl (ρ:Ren) (w:World):Grow ρ w ρ:=⟨Ren.le_refl ρ,fun _ _ h=>.inl h⟩
structure Kept (ρ:Ren) (w w':World):Prop where
 os:w'.os=w.os
 tape:w'.tape=w.tape
 output:w'.output=w.output
 drawn:w.drawn≤w'.drawn
 size:w.heap.size≤w'.heap.size
 other:∀ B,B < w.heap.size→(∀ b p,ρ b=some p→p.block≠B)→w'.heap[B]? = w.heap[B]?
 part:∀ b p s l ty,ρ b=some p→p.part=some ⟨s,l,ty⟩→∃ C E C',w.heap[p.block]? = some (.cells C E (0,0))∧w'.heap[p.block]? = some (.cells C' E (0,0))∧C'.size=C.size∧∀ (i:Nat),(i < s∨s+l≤i)→C'[i]? = C[i]?
theorem Kept.refl {ρ:Ren} {wS w:World} (h:HR ρ wS w):Kept ρ w w :=
 ⟨rfl,rfl,rfl,Nat.le_refl _,Nat.le_refl _,fun _ _ _=>rfl,fun b p s l ty hb hp=>by
  obtain ⟨o,o',h1,h2,h3⟩:=h.obj b p hb
  unfold ObjR at h3
  rw [hp] at h3
  obtain ⟨c,C,rfl,rfl,_⟩:=h3
  exact ⟨C,ty,C,h2,h2,rfl,fun _ _=>rfl⟩⟩
theorem Kept.trans {ρ ρ':Ren} {a b c:World} (h:Kept ρ a b) (g:Grow ρ a ρ') (k:Kept ρ' b c):Kept ρ a c:=by
 refine ⟨k.os.trans h.os,k.tape.trans h.tape,k.output.trans h.output,Nat.le_trans h.drawn k.drawn,Nat.le_trans h.size k.size,fun B hB hn=>?_,fun x p s l ty hx hp=>?_⟩
 ·refine (k.other B (Nat.lt_of_lt_of_le hB h.size) fun y q hy e=>?_).trans (h.other B hB hn)
  rcases g.new y q hy with h1 | ⟨_,h1⟩
  ·exact hn y q h1 e
  ·omega
 ·obtain ⟨C,E,C',h1,h2,h3,h4⟩:=h.part x p s l ty hx hp
  obtain ⟨D,F,D',k1,k2,k3,k4⟩:=k.part x p s l ty (g.le _ _ hx) hp
  rw [h2] at k1
  cases k1
  exact ⟨C,E,D',h1,k2,k3.trans h3,fun i hi=>(k4 i hi).trans (h4 i hi)⟩
theorem Grow.trans {ρ ρ' ρ'':Ren} {a b:World} (h:Grow ρ a ρ') (hs:a.heap.size≤b.heap.size) (k:Grow ρ' b ρ''):Grow ρ a ρ'' :=
 ⟨Ren.le_trans h.le k.le,fun x p hx=>by
  rcases k.new x p hx with h1 | ⟨h1,h2⟩
  ·exact h.new x p h1
  ·exact .inr ⟨h1,by omega⟩⟩
end Go.Proofs.YtjnkcibpkkjniaaGreat.Sim
namespace Go.Proofs.YtjnkcibpkkjniaaGreat.Sim
variable [Scope]
theorem HR.lt {ρ:Ren} {w w':World} (h:HR ρ w w') {b:Nat} {p:Place} (e:ρ b=some p):b < w.heap.size∧p.block < w'.heap.size:=by
 obtain ⟨o,o',h1,h2,_⟩:=h.obj b p e
 exact ⟨(Array.getElem?_eq_some_iff.1 h1).1,(Array.getElem?_eq_some_iff.1 h2).1⟩
theorem HR.cell {ρ:Ren} {w w':World} (h:HR ρ w w') {a a':Addr} (ha:AR ρ a a') {v:Value} (e:w.cell? a=some v) :
  ∃ v',w'.cell? a'=some v'∧VR ρ v v'∧w'.frozen? a'=w.frozen? a∧In ρ a':=by
 obtain ⟨h00,p,hp,h1,h2,h3⟩:=ha
 obtain ⟨o,o',k1,k2,k3⟩:=h.obj _ p hp
 unfold World.cell? at e ⊢
 unfold World.frozen?
 rw [k1] at e
 rw [h1,k2,k1]
 unfold ObjR at k3
 cases hq:p.part with
 | none =>
  rw [hq] at k3
  have hs:p.shift=0:=by simp [Place.shift,hq]
  cases k3 with
  | cells hv =>
   simp only at e ⊢
   split at e
   ·cases e
   ·rename_i hsp
    rw [h3,if_neg hsp]
    obtain ⟨v',e',k⟩:=hv.at_ e
    rw [h2,hs,Nat.zero_add]
    exact ⟨v',e',k,rfl,_,p,hp,h1.symm,fun s l ty hx=>by rw [hq] at hx;cases hx⟩
  | map _ _=>simp at e
  | number _=>simp at e
 | some x =>
  obtain ⟨s,l,ty⟩:=x
  rw [hq] at k3
  have hs:p.shift=s:=by simp [Place.shift,hq]
  obtain ⟨c,C,rfl,rfl,_,hr⟩:=k3
  simp only at e ⊢
  split at e
  ·cases e
  ·rename_i hsp
   rw [h3,if_neg hsp]
   obtain ⟨v',e',k⟩:=hr.get _ _ e
   rw [h2,hs]
   have hl:a.off < l:=by have:=(Array.getElem?_eq_some_iff.1 e).1;rw [hr.size] at this;exact this
   refine ⟨v',e',k,by simp,_,p,hp,h1.symm,fun s' l' ty' hx=>?_⟩
   rw [hq] at hx;cases hx
   rw [h2,hs];omega
theorem setCell_get (w:World) (a:Addr) (v:Value) (b:Nat):(w.setCell a v).heap[b]? = if b=a.block then (w.heap[b]?).map fun
  | .cells c elem frozen=>.cells (if a.spot.isSome then c else c.setIfInBounds a.off v) elem frozen
  | o=>o else w.heap[b]?:=by
 unfold World.setCell
 simp only [Array.getElem?_modify]
 by_cases h:a.block=b
 ·subst h
  simp only [if_true]
  exact congrArg (fun f=>Option.map f _) (funext fun x=>by cases x <;> rfl)
 ·simp [h,Ne.symm h]
theorem HR.set {ρ:Ren} {w w':World} (h:HR ρ w w') {a a':Addr} (ha:AR ρ a a') {u v v':Value} (e:w.cell? a=some u) (hv:VR ρ v v') :
  HR ρ (w.setCell a v) (w'.setCell a' v')∧Kept ρ w' (w'.setCell a' v'):=by
 have hcell:=h.cell ha e
 obtain ⟨h00,p,hp,h1,h2,h3⟩:=ha
 obtain ⟨o,o',k1,k2,k3⟩:=h.obj _ p hp
 have hsp:a.spot=none:=by
  unfold World.cell? at e
  rw [k1] at e
  cases o <;> simp at e
  exact e.1
 have hsp':a'.spot=none:=h3.trans hsp
 have blk:∀ (b:Nat),b≠a.block→(w.setCell a v).heap[b]? = w.heap[b]?:=fun b hb=>by rw [setCell_get,if_neg hb]
 have blk':∀ (b:Nat),b≠a'.block→(w'.setCell a' v').heap[b]? = w'.heap[b]?:=fun b hb=>by rw [setCell_get,if_neg hb]
 have key:∃ n n',(w.setCell a v).heap[a.block]? = some n∧(w'.setCell a' v').heap[p.block]? = some n'∧ObjR ρ p n n' ∧
   ∀ s l ty,p.part=some ⟨s,l,ty⟩→∃ C E C',w'.heap[p.block]? = some (.cells C E (0,0))∧(w'.setCell a' v').heap[p.block]? = some (.cells C' E (0,0))∧C'.size=C.size∧∀ (i:Nat),(i < s∨s+l≤i)→C'[i]? = C[i]?:=by
  rw [setCell_get,setCell_get,if_pos rfl,if_pos h1.symm,k1,k2]
  unfold ObjR at k3 ⊢
  cases hq:p.part with
  | none =>
   rw [hq] at k3
   have hs:p.shift=0:=by simp [Place.shift,hq]
   cases k3 with
   | cells hc =>
    refine ⟨_,_,rfl,rfl,?_,fun s l ty hx=>by cases hx⟩
    simp only [hsp,hsp',Option.isSome_none,Bool.false_eq_true,if_false,h2,hs,Nat.zero_add]
    exact .cells (hc.set _ hv)
   | map a b=>exact ⟨_,_,rfl,rfl, .map a b,fun s l ty hx=>by cases hx⟩
   | number a=>exact ⟨_,_,rfl,rfl, .number a,fun s l ty hx=>by cases hx⟩
  | some x =>
   obtain ⟨s,l,ty⟩:=x
   rw [hq] at k3
   have hs:p.shift=s:=by simp [Place.shift,hq]
   obtain ⟨c,C,rfl,rfl,hdv,hr⟩:=k3
   simp only [Option.map_some,hsp,hsp',Option.isSome_none,Bool.false_eq_true,if_false,h2,hs]
   have hoff:a.off < l:=by
    unfold World.cell? at e
    rw [k1] at e
    simp only [hsp,Option.isSome_none,Bool.false_eq_true,if_false] at e
    have:=(Array.getElem?_eq_some_iff.1 e).1
    rw [hr.size] at this;exact this
   refine ⟨_,_,rfl,rfl,⟨_,_,rfl,rfl,hdv,by simpa using hr.size,by simpa using hr.room,fun i x hx=>?_⟩,fun s' l' ty' hx=>?_⟩
   ·rw [Array.getElem?_setIfInBounds] at hx ⊢
    have hroom:=hr.room
    have hsz:=hr.size
    by_cases ei:a.off=i
    ·subst ei
     rw [if_pos rfl,if_pos (by omega)] at hx
     rw [if_pos rfl,if_pos (by omega)]
     cases hx
     exact ⟨v',rfl,hv⟩
    ·rw [if_neg ei] at hx
     rw [if_neg (by omega)]
     exact hr.get i x hx
   ·cases hx
    exact ⟨C,ty,_,rfl,rfl,by simp,fun i hi=>by rw [Array.getElem?_setIfInBounds,if_neg (by omega)]⟩
 obtain ⟨n,n',q1,q2,q3,q4⟩:=key
 refine ⟨⟨fun b q hb=>?_,h.inj,by simpa [World.setCell] using h.base,h.os,fun e=>⟨by simpa [World.setCell] using (h.sync e).1,(h.sync e).2⟩⟩,rfl,rfl,rfl,Nat.le_refl _,by simp [World.setCell],fun B hB hn=>?_,fun b q s l ty hb hq=>?_⟩
 ·by_cases eb:b=a.block
  ·subst eb
   rw [hp] at hb;cases hb
   exact ⟨n,n',q1,q2,q3⟩
  ·obtain ⟨x,x',m1,m2,m3⟩:=h.obj b q hb
   refine ⟨x,x',(blk b eb).trans m1,(blk' _ fun e'=>eb (h.inj _ _ _ _ hb hp (e'.trans h1))).trans m2,m3⟩
 ·exact blk' B fun e'=>hn _ p hp (h1.symm.trans e'.symm)
 ·by_cases eb:b=a.block
  ·subst eb
   rw [hp] at hb;cases hb
   exact q4 s l ty hq
  ·obtain ⟨C,E,C',m1,m2,m3,m4⟩:=(Kept.refl h).part b q s l ty hb hq
   exact ⟨C,E,C',m1,(blk' _ fun e'=>eb (h.inj _ _ _ _ hb hp (e'.trans h1))).trans m2,m3,m4⟩
def Ren.with (ρ:Ren) (b B:Nat):Ren:=fun x=>if x=b then some ⟨B,none⟩ else ρ x
theorem HR.push {ρ:Ren} {w w':World} (h:HR ρ w w') {o o':Obj} (ho:OR ρ o o') :
  HR (ρ.with w.heap.size w'.heap.size) { w with heap:=w.heap.push o } { w' with heap:=w'.heap.push o' }∧Grow ρ w' (ρ.with w.heap.size w'.heap.size)∧Kept ρ w' { w' with heap:=w'.heap.push o' }:=by
 have hle:ρ.le (ρ.with w.heap.size w'.heap.size):=fun b p hb=>by
  unfold Ren.with
  rw [if_neg (by have:=(h.lt hb).1;omega)];exact hb
 have old:∀ b p,(ρ.with w.heap.size w'.heap.size) b=some p→(b=w.heap.size∧p=⟨w'.heap.size,none⟩)∨(b≠w.heap.size∧ρ b=some p):=fun b p hb=>by
  unfold Ren.with at hb
  split at hb
  ·rename_i e;cases hb;exact .inl ⟨e,rfl⟩
  ·rename_i e;exact .inr ⟨e,hb⟩
 refine ⟨⟨fun b p hb=>?_,fun b b' p p' hb hb' e=>?_,by have:=h.base;simp;omega,h.os,fun e=>⟨by simp [(h.sync e).1],fun b p hb=>by
  rcases old b p hb with ⟨rfl,rfl⟩ | ⟨_,h1⟩
  ·rw [(h.sync e).1]
  ·exact (h.sync e).2 b p h1⟩⟩,⟨hle,fun b p hb=>?_⟩,rfl,rfl,rfl,Nat.le_refl _,by simp,fun B hB _=>by simp [Array.getElem?_push,Nat.ne_of_lt hB],fun b p s l ty hb hq=>?_⟩
 ·rcases old b p hb with ⟨rfl,rfl⟩ | ⟨_,hb'⟩
  ·exact ⟨o,o',by simp,by simp,ho.mono hle⟩
  ·obtain ⟨x,x',m1,m2,m3⟩:=h.obj b p hb'
   have:=h.lt hb'
   exact ⟨x,x',by simp [Array.getElem?_push,Nat.ne_of_lt this.1,m1],by simp [Array.getElem?_push,Nat.ne_of_lt this.2,m2],m3.mono hle⟩
 ·rcases old b p hb with ⟨rfl,rfl⟩ | ⟨_,h1⟩ <;> rcases old b' p' hb' with ⟨rfl,rfl⟩ | ⟨_,h2⟩
  ·rfl
  ·have:=(h.lt h2).2;simp only at e;omega
  ·have:=(h.lt h1).2;simp only at e;omega
  ·exact h.inj _ _ _ _ h1 h2 e
 ·rcases old b p hb with ⟨_,rfl⟩ | ⟨_,h1⟩
  ·exact .inr ⟨rfl,Nat.le_refl _⟩
  ·exact .inl h1
 ·obtain ⟨C,E,C',m1,m2,m3,m4⟩:=(Kept.refl h).part b p s l ty hb hq
  have:=(h.lt hb).2
  exact ⟨C,E,C',m1,by simp [Array.getElem?_push,Nat.ne_of_lt this,m2],m3,m4⟩
theorem HR.lay {ρ:Ren} {w w':World} (h:HR ρ w w') {r r':Nat} {o o':Obj} (hr:ρ r=some ⟨r',none⟩) (ho:OR ρ o o') :
  HR ρ { w with heap:=w.heap.setIfInBounds r o } { w' with heap:=w'.heap.setIfInBounds r' o' }∧Kept ρ w' { w' with heap:=w'.heap.setIfInBounds r' o' }:=by
 have hl:=h.lt hr
 refine ⟨⟨fun b p hb=>?_,h.inj,by simpa using h.base,h.os,fun e=>⟨by simpa using (h.sync e).1,(h.sync e).2⟩⟩,rfl,rfl,rfl,Nat.le_refl _,by simp,fun B hB hn=>?_,fun b p s l ty hb hq=>?_⟩
 ·by_cases eb:b=r
  ·subst eb
   rw [hr] at hb;cases hb
   exact ⟨o,o',by simp [hl.1],by simp [hl.2],ho⟩
  ·obtain ⟨x,x',m1,m2,m3⟩:=h.obj b p hb
   have ne:p.block≠r':=fun e=>eb (h.inj _ _ _ _ hb hr e)
   exact ⟨x,x',by simp [Array.getElem?_setIfInBounds_ne (Ne.symm eb),m1],by simp [Array.getElem?_setIfInBounds_ne (Ne.symm ne),m2],m3⟩
 ·have ne:r'≠B:=fun e=>hn _ _ hr e
  simp [Array.getElem?_setIfInBounds_ne ne]
 ·obtain ⟨C,E,C',m1,m2,m3,m4⟩:=(Kept.refl h).part b p s l ty hb hq
  have ne:p.block≠r':=fun e=>by
   have:=h.inj _ _ _ _ hb hr e
   subst this
   rw [hr] at hb;cases hb;cases hq
  exact ⟨C,E,C',m1,by simp [Array.getElem?_setIfInBounds_ne (Ne.symm ne),m2],m3,m4⟩
theorem freeze_eq (w:World) (a:Addr) (n:Nat) (o:Obj) (h:w.heap[a.block]? = some o):w.freeze a n=if n=0 then w else { w with heap:=w.heap.setIfInBounds a.block (match o with
   | .cells c elem (lo,hi)=>.cells c elem (if lo == hi then (a.off,a.off+n) else (min lo a.off,max hi (a.off+n)))
   | o=>o) }:=by
 unfold World.freeze
 split
 ·rfl
 ·congr 1
  apply Array.ext_getElem?
  intro j
  rw [Array.getElem?_modify,Array.getElem?_setIfInBounds]
  by_cases e:a.block=j
  ·subst e
   have hl:=(Array.getElem?_eq_some_iff.1 h).1
   simp only [if_true,h,Option.map_some,hl]
   cases o <;> rfl
  ·simp [e]
theorem HR.freeze {ρ:Ren} {w w':World} (h:HR ρ w w') {a a':Addr} (n:Nat) {r':Nat} (hr:ρ a.block=some ⟨r',none⟩) (hb:a'.block=r') (ho:a'.off=a.off) :
  HR ρ (w.freeze a n) (w'.freeze a' n)∧Kept ρ w' (w'.freeze a' n):=by
 obtain ⟨o,o',m1,m2,m3⟩:=h.obj _ _ hr
 rw [freeze_eq w a n o m1,freeze_eq w' a' n o' (by rw [hb];exact m2)]
 split
 ·exact ⟨h, .refl h⟩
 ·subst hb
  refine h.lay hr ?_
  have m4:OR ρ o o':=m3
  cases m4 with
  | cells hv=>simp only [ho];exact .cells hv
  | map a b=>exact .map a b
  | number a=>exact .number a
theorem TA.same {L:Lim} {w w' v v':World} (h:TA L w w') (e:v.tape=w.tape) (e':v'.tape=w'.tape) (d:v.drawn=w.drawn) (d':v'.drawn=w'.drawn):TA L v v':=by
 refine ⟨by rw [d,d'];exact h.off,e.trans h.tape,fun j q=>?_⟩
 rw [e,e',d,d'];exact h.at_ j q
theorem TA.draw {L:Lim} {w w':World} (h:TA L w w'):TA L { w with drawn:=w.drawn+1 } { w' with drawn:=w'.drawn+1 }:=by
 refine ⟨by have:=h.off;simp only;omega,h.tape,fun j q hl=>?_⟩
 have:=h.at_ (j+1) q (fun l hL=>by have:=hl l hL;simp only at this;omega)
 simp only
 rw [Nat.add_assoc,Nat.add_comm 1 j,Nat.add_assoc,Nat.add_comm 1 j]
 exact this
theorem TA.now {L:Lim} {w w':World} (h:TA L w w') (hf:∀ l,L.upto=some l→w'.drawn < l) (q:Question):w'.tape w'.drawn q=w.tape w.drawn q:=by
 simpa using h.at_ 0 q fun l hL=>by have:=hf l hL;omega
end Go.Proofs.YtjnkcibpkkjniaaGreat.Sim
namespace Go.Proofs.YtjnkcibpkkjniaaGreat.Sim
variable [Scope]
def ShR (p:Place) (s s':Option (TypeId×Nat)):Prop:=match p.part with
 | none=>s=s'
 | some ⟨st,l,e⟩=>∃ N,s=some (e,l)∧s'=some (e,N)∧st+l≤N∧Scope.cells e ∣ st
def deadly:Halt→Bool
 | .unsupported (.initOrder _)=>false
 | .unsupported _ | .stuck _=>true
 | _=>false
inductive SR (P:Program) {α β:Type} (R:Ren→α→β→Prop):Ren→Sem α→Sem β→Prop
 | pure {ρ:Ren} {a:α} {b:β}:R ρ a b→SR P R ρ (.pure a) (.pure b)
 | load {ρ:Ren} {m:Mode} {a a':Addr} {k:Value→Sem α} {k':Value→Sem β}:AR ρ a a'→(∀ v v',VR ρ v v'→SR P R ρ (k v) (k' v'))→SR P R ρ (.load m a k) (.load m a' k')
 | store {ρ:Ren} {m:Mode} {a a':Addr} {v v':Value} {k:Sem α} {k':Sem β}:AR ρ a a'→VR ρ v v'→SR P R ρ k k'→SR P R ρ (.store m a v k) (.store m a' v' k')
 | new {ρ:Ren} {o o':Obj} {k:Nat→Sem α} {k':Nat→Sem β}:OR ρ o o'→(∀ (ρ':Ren) r r',ρ.le ρ'→Scope.base≤r→ρ' r=some ⟨r',none⟩→SR P R ρ' (k r) (k' r'))→SR P R ρ (.new o k) (.new o' k')
 | shape {ρ:Ren} {p:Place} {r:Nat} {k:Option (TypeId×Nat)→Sem α} {k':Option (TypeId×Nat)→Sem β}:ρ r=some p→(∀ s s',ShR p s s'→SR P R ρ (k s) (k' s'))→SR P R ρ (.shape r k) (.shape p.block k')
 | freeze {ρ:Ren} {a a':Addr} {n:Nat} {k:Sem α} {k':Sem β}:ρ a.block=some ⟨a'.block,none⟩→a'.off=a.off→SR P R ρ k k'→SR P R ρ (.freeze a n k) (.freeze a' n k')
 | frozen {ρ:Ren} {a a':Addr} {k:Bool→Sem α} {k':Bool→Sem β}:AR ρ a a'→(∀ b,SR P R ρ (k b) (k' b))→SR P R ρ (.frozen a k) (.frozen a' k')
 | getObj {ρ:Ren} {r r':Nat} {k:Obj→Sem α} {k':Obj→Sem β}:ρ r=some ⟨r',none⟩→(∀ o o',OR ρ o o'→SR P R ρ (k o) (k' o'))→SR P R ρ (.getObj r k) (.getObj r' k')
 | setObj {ρ:Ren} {r r':Nat} {o o':Obj} {k:Sem α} {k':Sem β}:ρ r=some ⟨r',none⟩→OR ρ o o'→SR P R ρ k k'→SR P R ρ (.setObj r o k) (.setObj r' o' k')
 | choose {ρ:Ren} {q:Question} {k:Nat→Sem α} {k':Nat→Sem β}:(∀ n,SR P R ρ (k n) (k' n))→SR P R ρ (.choose q k) (.choose q k')
 | program {ρ:Ren} {k:Program→Sem α} {k':Program→Sem β}:SR P R ρ (k P) (k' P)→SR P R ρ (.program k) (.program k')
 | programL {ρ:Ren} {k:Program→Sem α} {y:Sem β}:SR P R ρ (k P) y→SR P R ρ (.program k) y
 | roomL {ρ:Ren} {k:Sem α} {y:Sem β}:SR P R ρ k y→SR P R ρ (.mark .noRoom k) y
 | shapeL {ρ:Ren} {r:Nat} {k:Option (TypeId×Nat)→Sem α} {y:Sem β}:(∀ s,SR P R ρ (k s) y)→SR P R ρ (.shape r k) y
 | frozenL {ρ:Ren} {a:Addr} {k:Bool→Sem α} {y:Sem β}:(∀ s,SR P R ρ (k s) y)→SR P R ρ (.frozen a k) y
 | env {ρ:Ren} {k:SysRet→Sem α} {k':SysRet→Sem β}:(∀ s,SR P R ρ (k (.strings s)) (k' (.strings s)))→SR P R ρ (.sys .env k) (.sys .env k')
 | room {ρ:Ren} {k:Sem α} {k':Sem β}:SR P R ρ k k'→SR P R ρ (.mark .noRoom k) (.mark .noRoom k')
 | panic {ρ:Ren} {v v':Value}:VR ρ v v'→SR P R ρ (.halt (.panic v)) (.halt (.panic v'))
 | dead {ρ:Ren} {h:Halt} {y:Sem β}:deadly h=true→SR P R ρ (.halt h) y
section
variable {P:Program} {α β γ δ:Type}
theorem SR.bind {R:Ren→α→β→Prop} {R':Ren→γ→δ→Prop} {ρ:Ren} {x:Sem α} {y:Sem β} {f:α→Sem γ} {g:β→Sem δ} (h:SR P R ρ x y)
  (k:∀ (ρ':Ren) a b,ρ.le ρ'→R ρ' a b→SR P R' ρ' (f a) (g b)):SR P R' ρ (x >>= f) (y >>= g):=by
 show SR P R' ρ (x.bind f) (y.bind g)
 induction h with
 | pure h=>exact k _ _ _ (Ren.le_refl _) h
 | load h _ ih=>exact .load h fun v v' hv=>ih v v' hv k
 | store h h' _ ih=>exact .store h h' (ih k)
 | new h _ ih=>exact .new h fun ρ' r r' hl hb hr=>ih ρ' r r' hl hb hr fun ρ'' a b hl' hab=>k ρ'' a b (Ren.le_trans hl hl') hab
 | shape h _ ih=>exact .shape h fun s s' hs=>ih s s' hs k
 | freeze h h' _ ih=>exact .freeze h h' (ih k)
 | frozen h _ ih=>exact .frozen h fun b=>ih b k
 | getObj h _ ih=>exact .getObj h fun o o' ho=>ih o o' ho k
 | setObj h h' _ ih=>exact .setObj h h' (ih k)
 | choose _ ih=>exact .choose fun n=>ih n k
 | program _ ih=>exact .program (ih k)
 | programL _ ih=>exact .programL (ih k)
 | roomL _ ih=>exact .roomL (ih k)
 | shapeL _ ih=>exact .shapeL fun s=>ih s k
 | frozenL _ ih=>exact .frozenL fun s=>ih s k
 | env _ ih=>exact .env fun s=>ih s k
 | room _ ih=>exact .room (ih k)
 | panic h=>exact .panic h
 | dead h=>exact .dead h
theorem SR.mono {R R':Ren→α→β→Prop} {ρ:Ren} {x:Sem α} {y:Sem β} (h:SR P R ρ x y) (k:∀ ρ' a b,ρ.le ρ'→R ρ' a b→R' ρ' a b):SR P R' ρ x y:=by
 induction h with
 | pure h=>exact .pure (k _ _ _ (Ren.le_refl _) h)
 | load h _ ih=>exact .load h fun v v' hv=>ih v v' hv k
 | store h h' _ ih=>exact .store h h' (ih k)
 | new h _ ih=>exact .new h fun ρ' r r' hl hb hr=>ih ρ' r r' hl hb hr fun ρ'' a b hl' hab=>k ρ'' a b (Ren.le_trans hl hl') hab
 | shape h _ ih=>exact .shape h fun s s' hs=>ih s s' hs k
 | freeze h h' _ ih=>exact .freeze h h' (ih k)
 | frozen h _ ih=>exact .frozen h fun b=>ih b k
 | getObj h _ ih=>exact .getObj h fun o o' ho=>ih o o' ho k
 | setObj h h' _ ih=>exact .setObj h h' (ih k)
 | choose _ ih=>exact .choose fun n=>ih n k
 | program _ ih=>exact .program (ih k)
 | programL _ ih=>exact .programL (ih k)
 | roomL _ ih=>exact .roomL (ih k)
 | shapeL _ ih=>exact .shapeL fun s=>ih s k
 | frozenL _ ih=>exact .frozenL fun s=>ih s k
 | env _ ih=>exact .env fun s=>ih s k
 | room _ ih=>exact .room (ih k)
 | panic h=>exact .panic h
 | dead h=>exact .dead h
theorem SR.ite {R:Ren→α→β→Prop} {ρ:Ren} {c:Prop} [Decidable c] {x x':Sem α} {y y':Sem β} (h:c→SR P R ρ x y) (k:¬ c→SR P R ρ x' y'):SR P R ρ (if c then x else x') (if c then y else y'):=by
 by_cases e:c
 ·rw [if_pos e,if_pos e];exact h e
 ·rw [if_neg e,if_neg e];exact k e
def _root_.Go.Result.world {α:Type}:Result α→World
 | .ok _ w | .halt _ w=>w
theorem ask_mono (w:World):∀ {α:Type} (a:Ask α),w.drawn≤(w.ask a).2.drawn:=by
 intro α a
 induction a generalizing w with
 | done a=>exact Nat.le_refl _
 | ask what range k ih =>
  unfold World.ask
  simp only
  split
  ·exact ih 0 w
  ·exact Nat.le_trans (Nat.le_succ _) (ih _ { w with drawn:=w.drawn+1 })
theorem sys_mono (w:World) (c:Sys):w.drawn≤(w.sys c).2.drawn:=by
 have:=ask_mono w (Kernel.perform c w.os)
 unfold World.sys
 split
 ·exact Nat.le_refl _
 ·rename_i e
  rw [e] at this
  exact this
theorem except_bind {ε α β:Type} {x:Except ε α} {f:α→Except ε β} {r:β} (h:x >>= f=.ok r):∃ a,x=.ok a∧f a=.ok r:=by
 cases x with
 | error e=>cases h
 | ok a=>exact ⟨a,rfl,h⟩
theorem viewStore_drawn {p:Program} {w:World} {b:Addr} {u:TypeId} {a:Addr} {v:Value} {t:Bool} {r:World×List Addr} (h:w.viewStore p b u a v t=.ok r):r.1.drawn=w.drawn:=by
 unfold World.viewStore at h
 dsimp only at h
 split at h
 ·obtain ⟨_,h1,_⟩:=except_bind h
  cases h1
 ·obtain ⟨x,_,h⟩:=except_bind h
  obtain ⟨c,e,fr,first,like,cells⟩:=x
  dsimp only at h
  split at h
  ·split at h
   ·obtain ⟨_,h1,_⟩:=except_bind h
    cases h1
   ·obtain ⟨y,_,h⟩:=except_bind h
    cases h
    rfl
  ·cases h
theorem farStore_drawn {p:Program} {w w':World} {a:Addr} {v:Value} {t:Bool} {l:List Addr} (h:w.farStore p a v t=.ok (w',l)):w'.drawn=w.drawn:=by
 unfold World.farStore at h
 split at h
 ·split at h
  ·rename_i e
   cases h
   exact viewStore_drawn e
  ·cases h
 ·cases h
theorem run_mono (x:Sem α):∀ w:World,w.drawn≤(x.run P w).world.drawn:=by
 induction x with
 | pure a=>exact fun w=>Nat.le_refl _
 | load m a k ih =>
  intro w
  simp only [Sem.run]
  split
  ·exact ih _ w
  ·split
   ·exact ih _ w
   ·exact Nat.le_refl _
 | store m a v k ih =>
  intro w
  have main:w.drawn≤(match w.cell? a with
     | some _=>if w.frozen? a then (.halt (.unsupported (.unsafePointer "a write to bytes that a string shares")) w:Result α) else k.run P (w.setCell a v)
     | none=>match w.farStore P a v (m == Mode.atomic) with
      | .ok (w,_)=>k.run P w
      | .error h=>.halt h w).world.drawn:=by
   split
   ·split
    ·exact Nat.le_refl _
    ·exact ih (w.setCell a v)
   ·split
    ·rename_i w1 l e
     rw [←farStore_drawn e];exact ih w1
    ·exact Nat.le_refl _
  cases v <;> first | exact main | exact Nat.le_refl _
 | new o k ih=>exact fun w=>ih _ { w with heap:=w.heap.push o }
 | shape r k ih=>exact fun w=>ih _ w
 | freeze a n k ih =>
  intro w
  have:(w.freeze a n).drawn=w.drawn:=by unfold World.freeze;split <;> rfl
  simp only [Sem.run]
  rw [←this];exact ih (w.freeze a n)
 | frozen a k ih=>exact fun w=>ih _ w
 | getObj r k ih =>
  intro w
  simp only [Sem.run]
  split
  ·exact Nat.le_refl _
  ·exact ih _ w
  ·exact Nat.le_refl _
 | setObj r o k ih =>
  intro w
  simp only [Sem.run]
  split
  ·exact Nat.le_refl _
  ·exact ih { w with heap:=w.heap.setIfInBounds r o }
  ·exact Nat.le_refl _
 | choose q k ih =>
  intro w
  simp only [Sem.run]
  split
  ·exact ih _ w
  ·exact Nat.le_trans (Nat.le_succ _) (ih _ { w with drawn:=w.drawn+1 })
 | sys c k ih=>exact fun w=>Nat.le_trans (sys_mono w c) (ih _ _)
 | program k ih=>exact fun w=>ih _ w
 | mark m k ih=>exact fun w=>ih w
 | halt h=>exact fun w=>Nat.le_refl _
def After (L:Lim) (R:Ren→α→β→Prop) (ρ:Ren) (w':World) (es':Array Event):Result α→Result β×Array Event→Prop
 | .ok a wS,r=>Fits L r.1.world→∃ b wB new ρ',r=(.ok b wB,es'++new)∧Grow ρ w' ρ'∧R ρ' a b∧HR ρ' wS wB∧TA L wS wB∧Kept ρ w' wB∧∀ e∈new,EvOk ρ' e
 | .halt (.panic v) wS,r=>Fits L r.1.world→∃ v' wB new ρ',r=(.halt (.panic v') wB,es'++new)∧Grow ρ w' ρ'∧VR ρ' v v'∧HR ρ' wS wB∧TA L wS wB∧Kept ρ w' wB∧∀ e∈new,EvOk ρ' e
 | .halt h _,_=>deadly h=true
theorem After.step {L:Lim} {R:Ren→α→β→Prop} {ρ ρ':Ren} {w' v':World} {es':Array Event} {l:Array Event} {x:Result α} {y:Result β×Array Event} (g:Grow ρ w' ρ') (k:Kept ρ w' v') (hl:∀ e∈l,EvOk ρ' e)
  (h:After L R ρ' v' (es'++l) x y):After L R ρ w' es' x y:=by
 unfold After at *
 split at h
 ·intro hf
  obtain ⟨b,wB,new,ρ2,rfl,h1,h2,h3,h4,h5,h6⟩:=h hf
  refine ⟨b,wB,l++new,ρ2,by rw [Array.append_assoc],g.trans k.size h1,h2,h3,h4,k.trans g h5,fun e he=>?_⟩
  rcases Array.mem_append.1 he with he | he
  ·exact (hl e he).mono h1.le
  ·exact h6 e he
 ·intro hf
  obtain ⟨b,wB,new,ρ2,rfl,h1,h2,h3,h4,h5,h6⟩:=h hf
  refine ⟨b,wB,l++new,ρ2,by rw [Array.append_assoc],g.trans k.size h1,h2,h3,h4,k.trans g h5,fun e he=>?_⟩
  rcases Array.mem_append.1 he with he | he
  ·exact (hl e he).mono h1.le
  ·exact h6 e he
 ·exact h
theorem After.none {L:Lim} {R:Ren→α→β→Prop} {ρ:Ren} {w' v':World} {es':Array Event} {x:Result α} {y:Result β×Array Event} (k:Kept ρ w' v') (h:After L R ρ v' es' x y):After L R ρ w' es' x y :=
 After.step (l:=#[]) (Grow.refl _ _) k (by simp) (by simpa using h)
theorem After.dead {L:Lim} {R:Ren→α→β→Prop} {ρ:Ren} {w' wS:World} {es':Array Event} {h:Halt} {y:Result β×Array Event} (hh:deadly h=true):After L R ρ w' es' (.halt h wS) y:=by
 unfold After
 split
 ·rename_i e;cases e
 ·rename_i e;cases e;cases hh
 ·rename_i e;cases e;exact hh
theorem shape_alike {ρ:Ren} {w w':World} (h:HR ρ w w') {r:Nat} {p:Place} (e:ρ r=some p):ShR p (w.shape? r) (w'.shape? p.block):=by
 obtain ⟨o,o',h1,h2,h3⟩:=h.obj r p e
 unfold World.shape? ShR
 rw [h1,h2]
 unfold ObjR at h3
 cases hq:p.part with
 | none =>
  rw [hq] at h3
  cases h3 with
  | cells hv=>simp [hv.size]
  | map _ _=>rfl
  | number _=>rfl
 | some x =>
  obtain ⟨s,l,ty⟩:=x
  rw [hq] at h3
  obtain ⟨c,C,rfl,rfl,hd,hr⟩:=h3
  exact ⟨C.size,by simp [hr.size],rfl,hr.room,hd⟩
theorem frozen_alike {ρ:Ren} {w w':World} (h:HR ρ w w') {a a':Addr} (ha:AR ρ a a'):w'.frozen? a'=w.frozen? a:=by
 obtain ⟨h00,p,hp,h1,h2,h3⟩:=ha
 obtain ⟨o,o',k1,k2,k3⟩:=h.obj _ p hp
 unfold World.frozen?
 rw [h1,k2,k1]
 unfold ObjR at k3
 cases hq:p.part with
 | none =>
  rw [hq] at k3
  have hs:p.shift=0:=by simp [Place.shift,hq]
  cases k3 with
  | cells hv=>simp only [h2,hs,Nat.zero_add]
  | map _ _=>rfl
  | number _=>rfl
 | some x =>
  obtain ⟨s,l,ty⟩:=x
  rw [hq] at k3
  obtain ⟨c,C,rfl,rfl,_⟩:=k3
  simp
theorem farLoad_dead {ρ:Ren} {w w':World} (h:HR ρ w w') {a a':Addr} (ha:AR ρ a a') (t:Bool) (p:Program):∃ hh,w.farLoad p a t=.error hh∧deadly hh=true:=by
 obtain ⟨h00,q,hp,h1,h2,h3⟩:=ha
 obtain ⟨o,o',k1,k2,k3⟩:=h.obj _ q hp
 unfold World.farLoad World.noCell
 rw [k1]
 unfold ObjR at k3
 split at k3
 ·cases k3 <;> exact ⟨_,rfl,rfl⟩
 ·obtain ⟨c,C,rfl,rfl,_⟩:=k3
  exact ⟨_,rfl,rfl⟩
theorem farStore_dead {ρ:Ren} {w w':World} (h:HR ρ w w') {a a':Addr} (ha:AR ρ a a') (u:Value) (t:Bool) (p:Program):∃ hh,w.farStore p a u t=.error hh∧deadly hh=true:=by
 obtain ⟨h00,q,hp,h1,h2,h3⟩:=ha
 obtain ⟨o,o',k1,k2,k3⟩:=h.obj _ q hp
 unfold World.farStore World.noCell
 rw [k1]
 unfold ObjR at k3
 split at k3
 ·cases k3 <;> exact ⟨_,rfl,rfl⟩
 ·obtain ⟨c,C,rfl,rfl,_⟩:=k3
  exact ⟨_,rfl,rfl⟩
theorem run_alike {R:Ren→α→β→Prop} {ρ:Ren} {x:Sem α} {y:Sem β} (h:SR P R ρ x y) {L:Lim} :
  ∀ (wS wB:World) (es:Array Event),HR ρ wS wB→TA L wS wB→After L R ρ wB es (x.run P wS) (y.runT P wB es):=by
 induction h with
 | pure h=>exact fun wS wB es hh ht _=>⟨_,_,#[],_,by simp [Sem.runT],Grow.refl _ _,h,hh,ht, .refl hh,by simp⟩
 | @load ρ m a a' k k' ha _ ih =>
  intro wS wB es hh ht
  simp only [Sem.run,Sem.runT]
  cases e:wS.cell? a with
  | none =>
   obtain ⟨q,hq,hd⟩:=farLoad_dead hh ha (m == .atomic) P
   simp only [hq]
   exact After.dead hd
  | some v =>
   obtain ⟨v',e',hv,_,hin⟩:=hh.cell ha e
   simp only [e']
   exact After.step (l:=#[⟨.cell a',false,m == .atomic⟩]) (Grow.refl _ _) (.refl hh) (by intro e he;simp at he;subst he;exact hin) (by simpa using ih v v' hv wS wB _ hh ht)
 | @store ρ m a a' v v' k k' ha hv _ ih =>
  intro wS wB es hh ht
  have main:(∀ x,v≠.agg x)→(∀ x,v≠.tuple x)→(∀ x,v'≠.agg x)→(∀ x,v'≠.tuple x)→After L R ρ wB es ((Sem.store m a v k).run P wS) ((Sem.store m a' v' k').runT P wB es):=by
   intro n1 n2 n3 n4
   have r1:(Sem.store m a v k).run P wS=match wS.cell? a with
     | some _=>if wS.frozen? a then .halt (.unsupported (.unsafePointer "a write to bytes that a string shares")) wS else k.run P (wS.setCell a v)
     | none=>match wS.farStore P a v (m == .atomic) with
      | .ok (w,_)=>k.run P w
      | .error h=>.halt h wS:=by
    cases v <;> first | rfl | exact absurd rfl (n1 _) | exact absurd rfl (n2 _)
   have r2:(Sem.store m a' v' k').runT P wB es=match wB.cell? a' with
     | some _=>if wB.frozen? a' then (.halt (.unsupported (.unsafePointer "a write to bytes that a string shares")) wB,es) else k'.runT P (wB.setCell a' v') (es.push ⟨.cell a',true,m == .atomic⟩)
     | none=>match wB.farStore P a' v' (m == .atomic) with
      | .ok (w,touched)=>k'.runT P w (es++touched.toArray.map (⟨.cell ·,true,m == .atomic⟩))
      | .error h=>(.halt h wB,es):=by
    cases v' <;> first | rfl | exact absurd rfl (n3 _) | exact absurd rfl (n4 _)
   rw [r1,r2]
   cases e:wS.cell? a with
   | none =>
    obtain ⟨q,hq,hd⟩:=farStore_dead hh ha v (m == .atomic) P
    simp only [hq]
    exact After.dead hd
   | some u =>
    obtain ⟨u',e',_,hf,hin⟩:=hh.cell ha e
    simp only [e',hf]
    by_cases hz:wS.frozen? a=true
    ·simp only [hz,if_true]
     exact After.dead rfl
    ·simp only [hz,if_false]
     obtain ⟨g1,g2⟩:=hh.set ha e hv
     refine After.step (l:=#[⟨.cell a',true,m == .atomic⟩]) (Grow.refl _ _) g2 (by intro e he;simp at he;subst he;exact hin) ?_
     have:=ih (wS.setCell a v) (wB.setCell a' v') (es.push ⟨.cell a',true,m == .atomic⟩) g1 (ht.same rfl rfl rfl rfl)
     simpa using this
  cases hv with
  | agg _ _=>exact After.dead rfl
  | tuple _ _=>exact After.dead rfl
  | _=>exact main (by intro _ e;cases e) (by intro _ e;cases e) (by intro _ e;cases e) (by intro _ e;cases e)
 | new ho _ ih =>
  intro wS wB es hh ht
  obtain ⟨g1,g2,g3⟩:=hh.push ho
  simp only [Sem.run,Sem.runT]
  refine After.step (l:=#[]) g2 g3 (by simp) ?_
  have:=ih _ wS.heap.size wB.heap.size g2.le hh.base (by simp [Ren.with]) _ _ es g1 (ht.same rfl rfl rfl rfl)
  simpa using this
 | shape hr _ ih=>exact fun wS wB es hh ht=>ih _ _ (shape_alike hh hr) wS wB es hh ht
 | freeze hr ho _ ih =>
  intro wS wB es hh ht
  obtain ⟨g1,g2⟩:=hh.freeze _ hr rfl ho
  exact After.none g2 (ih _ _ es g1 (ht.same (by unfold World.freeze;split <;> rfl) (by unfold World.freeze;split <;> rfl) (by unfold World.freeze;split <;> rfl) (by unfold World.freeze;split <;> rfl)))
 | frozen ha _ ih =>
  intro wS wB es hh ht
  simp only [Sem.run,Sem.runT,frozen_alike hh ha]
  exact ih _ wS wB es hh ht
 | @getObj ρ r r' k k' hr _ ih =>
  intro wS wB es hh ht
  obtain ⟨o,o',h1,h2,h3⟩:=hh.obj _ _ hr
  have h4:OR ρ o o':=h3
  simp only [Sem.run,Sem.runT,h1,h2]
  cases h4 with
  | cells _=>exact After.dead rfl
  | @map es1 ES clk q1 q2 =>
   refine After.step (l:=#[⟨.obj r',false,false⟩]) (Grow.refl _ _) (.refl hh) (by intro e he;simp at he;subst he;exact ⟨r,hr⟩) ?_
   have:=ih _ _ (OR.map (clk:=clk) q1 q2) wS wB (es.push ⟨.obj r',false,false⟩) hh ht
   simpa [Obj.isChan] using this
  | @number a1 a2 lost q1 =>
   refine After.step (l:=#[⟨.obj r',false,false⟩]) (Grow.refl _ _) (.refl hh) (by intro e he;simp at he;subst he;exact ⟨r,hr⟩) ?_
   have:=ih _ _ (OR.number (lost:=lost) q1) wS wB (es.push ⟨.obj r',false,false⟩) hh ht
   simpa [Obj.isChan] using this
 | @setObj ρ r r' o1 o2 k k' hr ho _ ih =>
  intro wS wB es hh ht
  obtain ⟨o,o',h1,h2,h3⟩:=hh.obj _ _ hr
  have h4:OR ρ o o':=h3
  simp only [Sem.run,Sem.runT,h1,h2]
  cases h4 with
  | cells _=>exact After.dead rfl
  | @map es1 ES clk q1 q2 =>
   obtain ⟨g1,g2⟩:=hh.lay hr ho
   have hc:o2.isChan=false:=by cases ho <;> rfl
   refine After.step (l:=#[⟨.obj r',true,false⟩]) (Grow.refl _ _) g2 (by intro e he;simp at he;subst he;exact ⟨r,hr⟩) ?_
   have:=ih _ _ (es.push ⟨.obj r',true,false⟩) g1 (ht.same rfl rfl rfl rfl)
   simpa [hc] using this
  | @number a1 a2 lost q1 =>
   obtain ⟨g1,g2⟩:=hh.lay hr ho
   have hc:o2.isChan=false:=by cases ho <;> rfl
   refine After.step (l:=#[⟨.obj r',true,false⟩]) (Grow.refl _ _) g2 (by intro e he;simp at he;subst he;exact ⟨r,hr⟩) ?_
   have:=ih _ _ (es.push ⟨.obj r',true,false⟩) g1 (ht.same rfl rfl rfl rfl)
   simpa [hc] using this
 | @choose ρ q k k' _ ih =>
  intro wS wB es hh ht
  simp only [Sem.run,Sem.runT]
  by_cases hf:q.forced=true
  ·simp only [hf,if_true];exact ih 0 wS wB es hh ht
  ·simp only [hf,if_false]
   have hh':HR ρ { wS with drawn:=wS.drawn+1 } { wB with drawn:=wB.drawn+1 }:=⟨hh.obj,hh.inj,hh.base,hh.os,hh.sync⟩
   have ht':TA L { wS with drawn:=wS.drawn+1 } { wB with drawn:=wB.drawn+1 }:=ht.draw
   have hmono:=run_mono (P:=P) (k' (q.cut (wB.tape wB.drawn q))) { wB with drawn:=wB.drawn+1 }
   have hfst:(Sem.runT P (k' (q.cut (wB.tape wB.drawn q))) { wB with drawn:=wB.drawn+1 } es).1=Sem.run P (k' (q.cut (wB.tape wB.drawn q))) { wB with drawn:=wB.drawn+1 }:=by rw [Sem.runT_eq]
   have key:Fits L (Sem.runT P (k' (q.cut (wB.tape wB.drawn q))) { wB with drawn:=wB.drawn+1 } es).1.world→wB.tape wB.drawn q=wS.tape wS.drawn q:=fun hfit=>by
    rw [hfst] at hfit
    exact ht.now (fun l hL=>by have:=hfit l hL;simp only at hmono;omega) q
   by_cases hfit:Fits L (Sem.runT P (k' (q.cut (wB.tape wB.drawn q))) { wB with drawn:=wB.drawn+1 } es).1.world
   ·rw [key hfit]
    exact After.none (w':=wB) (v':={ wB with drawn:=wB.drawn+1 }) ⟨rfl,rfl,rfl,Nat.le_succ _,Nat.le_refl _,fun _ _ _=>rfl,(Kept.refl hh).part⟩ (ih _ _ _ es hh' ht')
   ·have hih:=ih (q.cut (wS.tape wS.drawn q)) { wS with drawn:=wS.drawn+1 } { wB with drawn:=wB.drawn+1 } es hh' ht'
    unfold After at hih ⊢
    generalize Sem.run P (k (q.cut (wS.tape wS.drawn q))) { wS with drawn:=wS.drawn+1 }=r at hih ⊢
    cases r with
    | ok a w=>exact fun hx=>absurd hx hfit
    | halt h w =>
     cases h with
     | panic v=>exact fun hx=>absurd hx hfit
     | _=>exact hih
 | program _ ih=>exact fun wS wB es hh ht=>ih wS wB es hh ht
 | programL _ ih=>exact fun wS wB es hh ht=>ih wS wB es hh ht
 | roomL _ ih=>exact fun wS wB es hh ht=>ih wS wB es hh ht
 | shapeL _ ih=>exact fun wS wB es hh ht=>ih _ wS wB es hh ht
 | frozenL _ ih=>exact fun wS wB es hh ht=>ih _ wS wB es hh ht
 | env _ ih =>
  intro wS wB es hh ht
  have e1:wS.sys .env=(.strings wS.os.env,wS):=rfl
  have e2:wB.sys .env=(.strings wS.os.env,wB):=by rw [←hh.os];rfl
  simp only [Sem.run,Sem.runT,e1,e2]
  refine After.step (l:=#[⟨.output,true,false⟩]) (Grow.refl _ _) (.refl hh) (by intro e he;simp at he;subst he;trivial) ?_
  have:=ih wS.os.env wS wB (es.push ⟨.output,true,false⟩) hh ht
  simpa using this
 | room _ ih =>
  intro wS wB es hh ht
  refine After.step (l:=#[⟨.mark .noRoom,false,true⟩]) (Grow.refl _ _) (.refl hh) (by intro e he;simp at he;subst he;exact rfl) ?_
  have:=ih wS wB (es.push ⟨.mark .noRoom,false,true⟩) hh ht
  simpa [Sem.run,Sem.runT] using this
 | panic h=>exact fun wS wB es hh ht _=>⟨_,_,#[],_,by simp [Sem.runT],Grow.refl _ _,h,hh,ht, .refl hh,by simp⟩
 | dead h=>exact fun wS wB es hh ht=>After.dead h
end
end Go.Proofs.YtjnkcibpkkjniaaGreat.Sim
namespace Go.Proofs.YtjnkcibpkkjniaaGreat.Sim
variable [Scope]
class Zeros (P:Program):Prop where
 zero:∀ t i z,P.info? t=some i→i.zero=some z→clear 8 z=true
 base:P.globals.size≤Scope.base
 cells:∀ t,Scope.cells t=P.cellsOf t
 align:∀ t i,P.info? t=some i→i.align ∣ i.bytes
section
variable {P:Program} {α β:Type} {R:Ren→α→β→Prop} {ρ:Ren}
theorem SR_stuck {why:String} {y:Sem β}:SR P R ρ (stuck why) y:=.dead rfl
theorem SR_unsupported {u:Unsupported} {y:Sem β} (hu:deadly (.unsupported u)=true:=by rfl):SR P R ρ (unsupported u) y:=.dead hu
theorem SR_ret {a:α} {b:β} (h:R ρ a b):SR P R ρ (Pure.pure a) (Pure.pure b):=.pure h
theorem SR_goPanic {v v':Value} (h:VR ρ v v'):SR P R ρ (goPanic v) (goPanic v'):=.panic h
theorem SR_program:SR P (fun _ a b=>a=P∧b=P) ρ program program:=.program (.pure ⟨rfl,rfl⟩)
theorem SR_prog {f:Program→Sem α} {g:Program→Sem β} (h:SR P R ρ (f P) (g P)):SR P R ρ (program >>= f) (program >>= g):=SR.program h
theorem SR_choose (q:Question):SR P (fun _ a b=>a=b) ρ (choose q) (choose q):=.choose fun n=>.pure rfl
theorem SR_room (n:Nat):SR P (fun _ _ _=>True) ρ (askRoom n) (askRoom n):=by
 unfold askRoom
 split
 ·exact .room (.pure trivial)
 ·exact .pure trivial
theorem SR_typeInfo (t:TypeId):SR P (fun _ a b=>a=b∧P.info? t=some a) ρ (typeInfo t) (typeInfo t):=by
 unfold typeInfo
 refine SR.bind SR_program fun ρ' a b _ h=>?_
 obtain ⟨rfl,rfl⟩:=h
 split
 ·rename_i i e;exact SR_ret ⟨rfl,e⟩
 ·exact SR_stuck
theorem SR_underlying (t:TypeId):SR P (fun _ a b=>a=b∧P.underlying t=some a) ρ (underlying t) (underlying t):=by
 unfold underlying
 refine SR.bind SR_program fun ρ' a b _ h=>?_
 obtain ⟨rfl,rfl⟩:=h
 split
 ·rename_i i e;exact SR_ret ⟨rfl,e⟩
 ·exact SR_stuck
theorem SR_sizeOf (t:TypeId):SR P (fun _ a b=>a=b∧∃ i,P.info? t=some i∧i.size=a) ρ (sizeOf t) (sizeOf t):=by
 unfold sizeOf
 refine SR.bind (SR_typeInfo t) fun ρ' a b _ h=>?_
 obtain ⟨rfl,h⟩:=h
 exact SR_ret ⟨rfl,a,h,rfl⟩
theorem SR_isAgg (t:TypeId):SR P (fun _ a b=>a=b) ρ (isAgg t) (isAgg t):=by
 unfold isAgg
 refine SR.bind (SR_underlying t) fun ρ' a b _ h=>?_
 obtain ⟨rfl,h⟩:=h
 cases a <;> exact SR_ret rfl
theorem SR_zeroValue [Zeros P] (t:TypeId):SR P (fun ρ a b=>a=b∧∀ ρ',VR ρ' a a) ρ (zeroValue t) (zeroValue t):=by
 unfold zeroValue
 refine SR.bind (SR_typeInfo t) fun ρ' a b _ h=>?_
 obtain ⟨rfl,h⟩:=h
 split
 ·rename_i v e;exact SR_ret ⟨rfl,fun ρ'=>clear_VR ρ' _ _ (Zeros.zero t a v h e)⟩
 ·exact SR_unsupported
end
section
variable {P:Program} {ρ:Ren}
theorem SR_load {a a':Addr} (m:Mode) (h:AR ρ a a'):SR P VR ρ (load a m) (load a' m):=.load h fun _ _ hv=>.pure hv
theorem SR_store {a a':Addr} {v v':Value} (m:Mode) (h:AR ρ a a') (k:VR ρ v v'):SR P (fun _ _ _=>True) ρ (store a v m) (store a' v' m):=.store h k (.pure trivial)
theorem SR_newObj {o o':Obj} (h:OR ρ o o'):SR P (fun ρ r r'=>Scope.base≤r∧ρ r=some ⟨r',none⟩) ρ (newObj o) (newObj o'):=.new h fun _ _ _ _ hb hr=>.pure ⟨hb,hr⟩
theorem SR_newRow (e:TypeId) {c C:Array Value} (h:VsR ρ c C):SR P AR ρ (newRow e c) (newRow e C):=by
 unfold newRow
 exact SR.bind (SR_newObj (.cells h)) fun ρ' r r' _ hr=>SR_ret ⟨hr.1,_,hr.2,rfl,(Nat.zero_add _).symm,rfl⟩
theorem VR.cells {v v':Value} (h:VR ρ v v'):VsR ρ v.cells v'.cells:=by
 cases h with
 | agg a b=>exact ⟨a,b⟩
 | bool b=>exact VsR.one (.bool b)
 | int k n=>exact VsR.one (.int k n)
 | string s=>exact VsR.one (.string s)
 | ptr0=>exact VsR.one .ptr0
 | ptr h=>exact VsR.one (.ptr h)
 | slice0 a b=>exact VsR.one (.slice0 a b)
 | slice a b h=>exact VsR.one (.slice a b h)
 | map0=>exact VsR.one .map0
 | map h=>exact VsR.one (.map h)
 | chan0=>exact VsR.one .chan0
 | func h1 h2 h3 h4 h5=>exact VsR.one (.func h1 h2 h3 h4 h5)
 | nilFunc=>exact VsR.one .nilFunc
 | iface h=>exact VsR.one (.iface h)
 | nilIface=>exact VsR.one .nilIface
 | tuple a b=>exact VsR.one (.tuple a b)
theorem SR_newVar (t:TypeId) {v v':Value} (h:VR ρ v v'):SR P AR ρ (newVar t v) (newVar t v'):=SR_newRow t h.cells
theorem SR_loadCellsFrom:∀ (n:Nat) {ρ:Ren} {a a':Addr} (i:Nat) {acc acc':Array Value},AR ρ a a'→VsR ρ acc acc'→SR P VsR ρ (loadCellsFrom a i n acc) (loadCellsFrom a' i n acc')
 | 0,_,_,_,_,_,_,_,h=>SR_ret h
 | n+1,ρ,a,a',i,acc,acc',ha,h=>by
  unfold loadCellsFrom
  exact SR.bind (SR_load .plain (ha.add i)) fun ρ' v v' hl hv=>SR_loadCellsFrom n (i+1) (ha.mono hl) ((h.mono hl).push hv)
theorem SR_loadCells {a a':Addr} (n:Nat) (h:AR ρ a a'):SR P VsR ρ (loadCells a n) (loadCells a' n):=SR_loadCellsFrom n 0 h (VsR.nil ρ)
inductive LsR (ρ:Ren):List Value→List Value→Prop
 | nil:LsR ρ [] []
 | cons {x y:Value} {xs ys:List Value}:VR ρ x y→LsR ρ xs ys→LsR ρ (x::xs) (y::ys)
theorem VsR.list {xs ys:Array Value} (h:VsR ρ xs ys):LsR ρ xs.toList ys.toList:=by
 obtain ⟨xs⟩:=xs
 obtain ⟨ys⟩:=ys
 have hs:xs.length=ys.length:=by simpa using h.size
 have hg:∀ (i:Nat) v v',xs[i]? = some v→ys[i]? = some v'→VR ρ v v':=fun i v v' a b=>h.get i v v' (by simpa using a) (by simpa using b)
 clear h
 induction xs generalizing ys with
 | nil=>cases ys with
  | nil=>exact .nil
  | cons=>simp at hs
 | cons x xs ih=>cases ys with
  | nil=>simp at hs
  | cons y ys=>exact .cons (hg 0 _ _ rfl rfl) (ih ys (by simpa using hs) fun i v v' a b=>hg (i+1) v v' (by simpa using a) (by simpa using b))
theorem LsR.mono {ρ':Ren} {xs ys:List Value} (h:LsR ρ xs ys) (l:ρ.le ρ'):LsR ρ' xs ys:=by
 induction h with
 | nil=>exact .nil
 | cons a _ ih=>exact .cons (a.mono l) ih
theorem LsR.array {xs ys:List Value} (h:LsR ρ xs ys):VsR ρ xs.toArray ys.toArray:=by
 have:xs.length=ys.length∧∀ (i:Nat) v v',xs[i]? = some v→ys[i]? = some v'→VR ρ v v':=by
  induction h with
  | nil=>exact ⟨rfl,by simp⟩
  | cons a _ ih =>
   refine ⟨by simp [ih.1],fun i v v' p q=>?_⟩
   cases i with
   | zero=>simp at p q;subst p q;exact a
   | succ i=>exact ih.2 i v v' (by simpa using p) (by simpa using q)
 exact ⟨by simpa using this.1,fun i v v' p q=>this.2 i v v' (by simpa using p) (by simpa using q)⟩
theorem SR_storeCells:∀ {vs vs':List Value} {ρ:Ren} {a a':Addr} (i:Nat),AR ρ a a'→LsR ρ vs vs'→SR P (fun _ _ _=>True) ρ (storeCells a vs i) (storeCells a' vs' i)
 | [],_,_,_,_,_,_,h=>by cases h;exact SR_ret trivial
 | v::vs,_,ρ,a,a',i,ha,h=>by
  cases h with
  | cons h1 h2 =>
   unfold storeCells
   exact SR.bind (SR_store .plain (ha.add i) h1) fun ρ' _ _ hl _=>SR_storeCells (i+1) (ha.mono hl) (LsR.mono h2 hl)
theorem SR_loadVar (t:TypeId) {a a':Addr} (h:AR ρ a a'):SR P VR ρ (loadVar t a) (loadVar t a'):=by
 unfold loadVar
 refine SR.bind (SR_isAgg t) fun ρ' x y hl e=>?_
 subst e
 cases x with
 | true =>
  refine SR.bind (SR_sizeOf t) fun ρ2 n m hl2 e=>?_
  obtain ⟨rfl,_⟩:=e
  exact SR.bind (SR_loadCells n ((h.mono hl).mono hl2)) fun ρ3 c C _ hc=>SR_ret hc.agg
 | false=>exact SR_load .plain (h.mono hl)
theorem SR_storeVar (t:TypeId) {a a':Addr} {v v':Value} (h:AR ρ a a') (k:VR ρ v v'):SR P (fun _ _ _=>True) ρ (storeVar t a v) (storeVar t a' v'):=by
 unfold storeVar
 refine SR.bind (SR_sizeOf t) fun ρ' n m hl e=>?_
 obtain ⟨rfl,_⟩:=e
 have hc:=(k.mono hl).cells
 rw [←hc.size]
 dsimp only
 refine SR.ite (fun _=>?_) fun _=>SR_storeCells 0 (h.mono hl) hc.list
 exact SR_stuck
theorem SR_panicOf {α β:Type} {R:Ren→α→β→Prop} (e:RuntimeError) (h:match e with | .typeAssertion .. | .panicNil | .unhashable _=>False | _=>True):SR P R ρ (runtimePanic e:Sem α) (runtimePanic e:Sem β):=by
 unfold runtimePanic
 refine SR.bind SR_program fun ρ' a b _ q=>?_
 obtain ⟨rfl,rfl⟩:=q
 cases e with
 | bounds x y s c=>exact SR_goPanic (.iface (VsR.agg (((VsR.one (.int _ _)).push (.int _ _)).push (.bool _) |>.push (.int _ _))))
 | error m=>exact SR_goPanic (.iface (.string _))
 | plain m=>exact SR_goPanic (.iface (.string _))
 | nilDeref=>exact SR_goPanic (.iface (.string _))
 | typeAssertion=>exact h.elim
 | panicNil=>exact h.elim
 | unhashable=>exact h.elim
theorem SR_bounds {α β:Type} {R:Ren→α→β→Prop} (k:IntKind) (x y:Int) (c:BoundsCode):SR P R ρ (boundsPanic k x y c:Sem α) (boundsPanic k x y c:Sem β):=by
 unfold boundsPanic
 dsimp only
 refine SR.ite (fun _=>?_) fun _=>SR.bind (R:=fun _ a b=>a=b) (SR_ret rfl) fun ρ' a b _ e=>(by subst e;exact SR_panicOf _ trivial)
 refine SR.bind (R:=fun _ a b=>a=b) ?_ fun ρ' a b _ e=>(by subst e;exact SR_panicOf _ trivial)
 exact SR.bind (SR_choose _) fun ρ' a b _ e=>by subst e;exact SR_ret rfl
theorem SR_asIntOf {v v':Value} (h:VR ρ v v'):SR P (fun _ a b=>a=b∧v=.int a.1 a.2) ρ (asIntOf v) (asIntOf v'):=by
 cases h <;> first | exact SR_stuck | exact SR_unsupported | exact SR_ret ⟨rfl,rfl⟩
theorem SR_asInt {v v':Value} (h:VR ρ v v'):SR P (fun _ a b=>a=b) ρ (asInt v) (asInt v'):=by
 unfold asInt
 exact SR.bind (SR_asIntOf h) fun ρ' a b _ e=>by rw [e.1];exact SR_ret rfl
theorem SR_asBool {v v':Value} (h:VR ρ v v'):SR P (fun _ a b=>a=b) ρ (asBool v) (asBool v'):=by
 cases h <;> first | exact SR_stuck | exact SR_ret rfl
theorem SR_asAgg {v v':Value} (h:VR ρ v v'):SR P VsR ρ (asAgg v) (asAgg v'):=by
 cases h with
 | agg a b=>exact SR_ret ⟨a,b⟩
 | _=>exact SR_stuck
theorem SR_asAddr {v v':Value} (h:VR ρ v v'):SR P AR ρ (asAddr v) (asAddr v'):=by
 cases h with
 | ptr h=>exact SR_ret h
 | ptr0=>exact SR_panicOf .nilDeref trivial
 | _=>exact SR_stuck
theorem SR_sureAddr {v v':Value} (h:VR ρ v v'):SR P AR ρ (Instr.sureAddr v) (Instr.sureAddr v'):=by
 cases h with
 | ptr h=>exact SR_ret h
 | _=>exact SR_stuck
theorem SR_part (t:TypeId) {cs cs':Array Value} (h:VsR ρ cs cs') (off:Nat):SR P VR ρ (part t cs off) (part t cs' off):=by
 unfold part
 refine SR.bind (SR_isAgg t) fun ρ' x y hl e=>?_
 subst e
 have h':=h.mono hl
 cases x with
 | true =>
  refine SR.bind (SR_sizeOf t) fun ρ2 n m hl2 e=>?_
  obtain ⟨rfl,_⟩:=e
  exact SR_ret ((h'.mono hl2).extract _ _).agg
 | false =>
  simp only [Bool.false_eq_true,if_false]
  cases e:cs[off]? with
  | none=>exact SR_stuck
  | some v =>
   obtain ⟨v',e',k⟩:=h'.at_ e
   simp only [e']
   exact SR_ret k
end
end Go.Proofs.YtjnkcibpkkjniaaGreat.Sim
namespace Go.Proofs.YtjnkcibpkkjniaaGreat.Sim
variable [Scope]
section
variable {P:Program} {ρ:Ren}
theorem SR_alloc [Zeros P] (e:TypeId):SR P VR ρ (Instr.alloc e true (.tuple #[])) (Instr.alloc e true (.tuple #[])):=by
 unfold Instr.alloc
 refine SR.bind (SR_zeroValue e) fun ρ' z z' _ h=>?_
 obtain ⟨rfl,h⟩:=h
 exact SR.bind (SR_newVar e (h ρ')) fun ρ2 a a' _ ha=>SR_ret (.ptr ha)
theorem SR_box (e:TypeId) {v v':Value} (h:VR ρ v v'):SR P VR ρ (Instr.box e v) (Instr.box e v'):=by
 unfold Instr.box
 exact SR.bind (SR_newVar e h) fun ρ2 a a' _ ha=>SR_ret (.ptr ha)
theorem SR_loadAt (t:TypeId) {v v':Value} (h:VR ρ v v'):SR P VR ρ (Instr.loadAt t v) (Instr.loadAt t v'):=by
 unfold Instr.loadAt
 exact SR.bind (SR_sureAddr h) fun ρ' a a' _ ha=>SR_loadVar t ha
theorem SR_storeAt (t:TypeId) {v v' u u':Value} (h:VR ρ v v') (k:VR ρ u u'):SR P (fun _ _ _=>True) ρ (Instr.storeAt t v u) (Instr.storeAt t v' u'):=by
 unfold Instr.storeAt
 exact SR.bind (SR_sureAddr h) fun ρ' a a' hl ha=>SR_storeVar t ha (k.mono hl)
inductive PsR (ρ:Ren):List (Nat×Value)→List (Nat×Value)→Prop
 | nil:PsR ρ [] []
 | cons {i:Nat} {x y:Value} {xs ys:List (Nat×Value)}:VR ρ x y→PsR ρ xs ys→PsR ρ ((i,x)::xs) ((i,y)::ys)
theorem PsR.mono {ρ':Ren} {xs ys:List (Nat×Value)} (h:PsR ρ xs ys) (l:ρ.le ρ'):PsR ρ' xs ys:=by
 induction h with
 | nil=>exact .nil
 | cons a _ ih=>exact .cons (a.mono l) ih
theorem lay_alike (off:Nat) {l l':List Value} (h:LsR ρ l l'):∀ (j:Nat) {cs cs':Array Value},VsR ρ cs cs' →
  VsR ρ ((l.zipIdx j).foldl (fun cs (x:Value×Nat)=>cs.setIfInBounds (off+x.2) x.1) cs) ((l'.zipIdx j).foldl (fun cs (x:Value×Nat)=>cs.setIfInBounds (off+x.2) x.1) cs'):=by
 induction h with
 | nil=>exact fun j cs cs' h=>h
 | cons a _ ih=>exact fun j cs cs' h=>by simp only [List.zipIdx_cons,List.foldl_cons];exact ih (j+1) (h.set _ a)
theorem fill_alike (place:Nat→Option (Nat×Nat)) {ps ps':List (Nat×Value)} (h:PsR ρ ps ps'):∀ {cs cs':Array Value},VsR ρ cs cs' →
  (∃ x y,Instr.fill place cs ps=some x∧Instr.fill place cs' ps'=some y∧VsR ρ x y)∨(Instr.fill place cs ps=none∧Instr.fill place cs' ps'=none):=by
 induction h with
 | nil=>exact fun h=>.inl ⟨_,_,rfl,rfl,h⟩
 | @cons i x y xs ys a _ ih =>
  intro cs cs' hc
  simp only [Instr.fill]
  cases place i with
  | none=>exact .inr ⟨rfl,rfl⟩
  | some p =>
   obtain ⟨off,size⟩:=p
   have hs:=a.cells.size
   simp only [←hs,←hc.size]
   split
   ·exact .inr ⟨rfl,rfl⟩
   ·have:=lay_alike off a.cells.list 0 hc
    simp only [←Array.toList_zipIdx,Array.foldl_toList] at this
    exact ih this
theorem SR_mapM {α β:Type} (f:α→Sem β) (hf:∀ ρ x,SR P (fun _ a b=>a=b) ρ (f x) (f x)):∀ (l:List α) (ρ:Ren),SR P (fun _ a b=>a=b) ρ (l.mapM f) (l.mapM f)
 | [],ρ=>by simp only [List.mapM_nil];exact SR_ret rfl
 | x::l,ρ=>by
  simp only [List.mapM_cons]
  refine SR.bind (hf ρ x) fun ρ' a b _ e=>?_
  subst e
  exact SR.bind (SR_mapM f hf l ρ') fun ρ2 a b _ e=>by subst e;exact SR_ret rfl
theorem SR_mapA {α β:Type} (f:α→Sem β) (hf:∀ ρ x,SR P (fun _ a b=>a=b) ρ (f x) (f x)) (as:Array α) (ρ:Ren):SR P (fun _ a b=>a=b) ρ (as.mapM f) (as.mapM f):=by
 rw [Array.mapM_eq_mapM_toList]
 exact SR.bind (SR_mapM f hf as.toList ρ) fun ρ' a b _ e=>by subst e;exact SR_ret rfl
theorem SR_build [Zeros P] (t:TypeId) {ps ps':Array (Nat×Value)} (h:PsR ρ ps.toList ps'.toList):SR P VR ρ (Instr.build t ps) (Instr.build t ps'):=by
 unfold Instr.build
 refine SR.bind (SR_zeroValue t) fun ρ1 z z' l1 hz=>?_
 obtain ⟨rfl,hz⟩:=hz
 refine SR.bind (SR_underlying t) fun ρ2 d d' l2 e=>?_
 obtain ⟨rfl,_⟩:=e
 have h2:=(h.mono l1).mono l2
 cases d with
 | struct fields =>
  refine SR.bind (SR_mapA _ (fun ρ f=>SR.bind (SR_sizeOf f.type) fun ρ' a b _ e=>by obtain ⟨rfl,_⟩:=e;exact SR_ret rfl) fields ρ2) fun ρ3 pl pl' l3 e=>?_
  subst e
  rcases fill_alike (pl[·]?) (h2.mono l3) (hz ρ3).cells with ⟨x,y,e1,e2,hv⟩ | ⟨e1,e2⟩
  ·simp only [e1,e2];exact SR_ret hv.agg
  ·simp only [e1,e2];exact SR_stuck
 | array n elem =>
  refine SR.bind (SR_sizeOf elem) fun ρ3 sz sz' l3 e=>?_
  obtain ⟨rfl,_⟩:=e
  rcases fill_alike (fun i=>some (i * sz,sz)) (h2.mono l3) (hz ρ3).cells with ⟨x,y,e1,e2,hv⟩ | ⟨e1,e2⟩
  ·simp only [e1,e2];exact SR_ret hv.agg
  ·simp only [e1,e2];exact SR_stuck
 | _=>exact SR_stuck
theorem VsR.tile {z z':Array Value} (h:VsR ρ z z') (n:Nat) (d:VR ρ default default):VsR ρ ((Array.range n).map fun i=>z[i % z.size]!) ((Array.range n).map fun i=>z'[i % z'.size]!):=by
 refine ⟨by simp,fun i v v' a b=>?_⟩
 simp only [Array.getElem?_map,Array.getElem?_range] at a b
 by_cases hi:i < n
 ·simp only [hi,if_true,Option.map_some,Option.some.injEq] at a b
  subst a;subst b
  rw [h.size]
  simp only [getElem!_def]
  cases e:z[i % z'.size]? with
  | none=>rw [h.off_ e];exact d
  | some v=>obtain ⟨v',e',k⟩:=h.at_ e;rw [e'];exact k
 ·simp [hi] at a
theorem VR_default:VR ρ (default:Value) default:=clear_VR ρ 1 _ (by decide)
theorem SR_buildSlice [Zeros P] (t:TypeId) (len:Nat) {ps ps':Array (Nat×Value)} (h:PsR ρ ps.toList ps'.toList):SR P VR ρ (Instr.buildSlice t len ps) (Instr.buildSlice t len ps'):=by
 unfold Instr.buildSlice
 refine SR.bind (SR_underlying t) fun ρ2 d d' l2 e=>?_
 obtain ⟨rfl,_⟩:=e
 cases d with
 | slice elem =>
  refine SR.bind (SR_sizeOf elem) fun ρ3 sz sz' l3 e=>?_
  obtain ⟨rfl,_⟩:=e
  dsimp only
  refine SR.ite (fun _=>SR_unsupported) fun _=>?_
  have fin:∀ (ρ4:Ren) z z',ρ3.le ρ4→VsR ρ4 z z'→SR P VR ρ4 (match Instr.fill (fun i=>some (i * sz,sz)) ((Array.range (len * sz)).map fun x=>z[x % z.size]!) ps.toList with
    | some cells=>do pure (.slice (some (←newRow elem cells)) len len)
    | x=>stuck "buildSlice: a part of the wrong size") (match Instr.fill (fun i=>some (i * sz,sz)) ((Array.range (len * sz)).map fun x=>z'[x % z'.size]!) ps'.toList with
    | some cells=>do pure (.slice (some (←newRow elem cells)) len len)
    | x=>stuck "buildSlice: a part of the wrong size"):=fun ρ4 z z' l4 hz=>by
   rcases fill_alike (fun i=>some (i * sz,sz)) (((h.mono l2).mono l3).mono l4) (hz.tile (len * sz) VR_default) with ⟨x,y,e1,e2,hv⟩ | ⟨e1,e2⟩
   ·simp only [e1,e2]
    exact SR.bind (SR_newRow elem hv) fun ρ5 a a' _ ha=>SR_ret (.slice _ _ ha)
   ·simp only [e1,e2];exact SR_stuck
  by_cases e0:len * sz=0
  ·simp only [e0,if_true]
   have:=fin ρ3 #[] #[] (Ren.le_refl _) (VsR.nil _)
   simp only [e0] at this
   exact this
  ·simp only [e0,if_false]
   refine SR.bind (SR_zeroValue elem) fun ρ4 z z' l4 hz=>?_
   obtain ⟨rfl,hz⟩:=hz
   exact fin ρ4 _ _ l4 (hz ρ4).cells
 | _=>exact SR_stuck
def fieldsFull (P:Program) (s:TypeId) (f:Nat):Bool :=
 match P.underlying s with
 | some (.struct fields)=>match fields[f]? with
  | some x=>match P.info? x.type with
   | some i=>i.size != 0
   | none=>true
  | none=>true
 | _=>true
theorem SR_fieldAt (s:TypeId) (f:Nat) (hf:fieldsFull P s f=true) {v v':Value} (h:VR ρ v v'):SR P VR ρ (Instr.fieldAt s v f) (Instr.fieldAt s v' f):=by
 unfold Instr.fieldAt
 refine SR.bind (SR_underlying s) fun ρ2 d d' l2 e=>?_
 obtain ⟨rfl,e0⟩:=e
 cases d with
 | struct fields =>
  simp only
  cases ef:fields[f]? with
  | none=>exact SR_stuck
  | some x =>
   refine SR.bind (SR_sureAddr (h.mono l2)) fun ρ3 a a' l3 ha=>?_
   refine SR.bind (R:=AR) ?_ fun ρ4 b b' _ hb=>SR_ret (.ptr hb)
   unfold fieldPlace
   refine SR.bind (SR_sizeOf x.type) fun ρ4 n n' l4 e=>?_
   obtain ⟨rfl,i,hi,hn⟩:=e
   have:n≠0:=by
    unfold fieldsFull at hf
    rw [e0] at hf
    simp only [ef,hi] at hf
    simpa [hn] using hf
   rw [if_neg this,if_neg this]
   exact SR_ret ((ha.mono l4).add _)
 | _=>exact SR_stuck
theorem SR_indexAt (t:TypeId) {v v' i i':Value} (h:VR ρ v v') (k:VR ρ i i'):SR P VR ρ (Instr.indexAt t v i) (Instr.indexAt t v' i'):=by
 unfold Instr.indexAt
 refine SR.bind (SR_asIntOf k) fun ρ1 x x' l1 e=>?_
 obtain ⟨rfl,_⟩:=e
 obtain ⟨kk,n⟩:=x
 refine SR.bind (SR_underlying t) fun ρ2 d d' l2 e=>?_
 obtain ⟨rfl,_⟩:=e
 have h2:=(h.mono l1).mono l2
 have fin:∀ (ρ3:Ren) (b b':Option Addr) (len:Nat) (elem:TypeId),(b=none∧b'=none∨∃ a a',b=some a∧b'=some a'∧AR ρ3 a a')→SR P VR ρ3
   (do
    let tiny:=len≤1 && (match ←underlying t with | .array ..=>true | _=>false)
    match b with
    | some a =>
     if 0≤n∧n < len then pure (.pointer (some (a.add (n.toNat * (←sizeOf elem)))))
     else if tiny then unsupported (.noEntry "op/indexAddr.an index out of range at an array of length 0 or 1 (ledger 616)")
     else boundsPanic kk n len .index
    | none=>boundsPanic kk n 0 .index)
   (do
    let tiny:=len≤1 && (match ←underlying t with | .array ..=>true | _=>false)
    match b' with
    | some a =>
     if 0≤n∧n < len then pure (.pointer (some (a.add (n.toNat * (←sizeOf elem)))))
     else if tiny then unsupported (.noEntry "op/indexAddr.an index out of range at an array of length 0 or 1 (ledger 616)")
     else boundsPanic kk n len .index
    | none=>boundsPanic kk n 0 .index):=by
  intro ρ3 b b' len elem hb
  refine SR.bind (SR_underlying t) fun ρ4 d d' l4 e=>?_
  obtain ⟨rfl,_⟩:=e
  dsimp only
  rcases hb with ⟨rfl,rfl⟩ | ⟨a,a',rfl,rfl,ha⟩
  ·exact SR_bounds _ _ _ _
  ·refine SR.ite (fun _=>?_) fun _=>SR.ite (fun _=>SR_unsupported) fun _=>SR_bounds _ _ _ _
   refine SR.bind (SR_sizeOf elem) fun ρ5 s s' l5 e=>?_
   obtain ⟨rfl,_⟩:=e
   exact SR_ret (.ptr (((ha.mono l4).mono l5).add _))
 cases d with
 | array len elem =>
  dsimp only
  refine SR.bind (SR_sureAddr h2) fun ρ3 a a' l3 ha=>?_
  exact fin ρ3 (some a) (some a') len elem (.inr ⟨a,a',rfl,rfl,ha⟩)
 | slice elem =>
  cases h2 with
  | slice0 l c=>exact fin ρ2 none none l elem (.inl ⟨rfl,rfl⟩)
  | slice l c ha=>exact fin ρ2 (some _) (some _) l elem (.inr ⟨_,_,rfl,rfl,ha⟩)
  | _=>exact SR_stuck
 | _=>cases h2 <;> exact SR_stuck
end
end Go.Proofs.YtjnkcibpkkjniaaGreat.Sim
namespace Go.Proofs.YtjnkcibpkkjniaaGreat.Sim
variable [Scope]
inductive OvR (ρ:Ren):Option Value→Option Value→Prop
 | none:OvR ρ none none
 | some {v v':Value}:VR ρ v v'→OvR ρ (some v) (some v')
theorem OvR.mono {ρ ρ':Ren} {x y:Option Value} (h:OvR ρ x y) (l:ρ.le ρ'):OvR ρ' x y:=by
 cases h with
 | none=>exact .none
 | some h=>exact .some (h.mono l)
section
variable {P:Program} {ρ:Ren}
theorem SR_sliceBound {v v':Value} (h:VR ρ v v') (y:Nat) (c:BoundsCode):SR P (fun _ a b=>a=b) ρ (Instr.sliceBound v y c) (Instr.sliceBound v' y c):=by
 unfold Instr.sliceBound
 refine SR.bind (SR_asIntOf h) fun ρ1 x x' l1 e=>?_
 obtain ⟨rfl,_⟩:=e
 obtain ⟨k,i⟩:=x
 exact SR.ite (fun _=>SR_ret rfl) fun _=>SR_bounds _ _ _ _
theorem SR_sliceBounds (isS:Bool) (len cap:Nat) {lo lo' hi hi' mx mx':Option Value} (h1:OvR ρ lo lo') (h2:OvR ρ hi hi') (h3:OvR ρ mx mx') :
  SR P (fun _ a b=>a=b) ρ (Instr.sliceBounds isS len cap lo hi mx) (Instr.sliceBounds isS len cap lo' hi' mx'):=by
 have L:∀ (ρ':Ren) (m h:Nat) (c:BoundsCode),ρ.le ρ'→SR P (fun _ a b=>a=b) ρ' (match (generalizing:=false) lo with
   | some v=>do let l ←Instr.sliceBound v h c;pure (l,h,m)
   | none=>do let l ←pure 0;pure (l,h,m)) (match (generalizing:=false) lo' with
   | some v=>do let l ←Instr.sliceBound v h c;pure (l,h,m)
   | none=>do let l ←pure 0;pure (l,h,m)):=by
  intro ρ' m h c hl
  cases h1 with
  | none=>exact SR.bind (R:=fun _ a b=>a=b) (SR_ret rfl) fun _ a b _ e=>by subst e;exact SR_ret rfl
  | some hv=>exact SR.bind (SR_sliceBound (hv.mono hl) _ _) fun _ a b _ e=>by subst e;exact SR_ret rfl
 unfold Instr.sliceBounds
 dsimp only
 cases h3 with
 | none =>
  refine SR.bind (R:=fun _ a b=>a=b) (SR_ret rfl) fun ρ1 m m' l1 e=>?_
  subst e
  cases h2 with
  | none =>
   refine SR.bind (R:=fun _ a b=>a=b) (SR_ret rfl) fun ρ2 x x' l2 e=>?_
   subst e
   exact L ρ2 _ _ _ (Ren.le_trans l1 l2)
  | some hv =>
   refine SR.bind (SR_sliceBound (hv.mono l1) _ _) fun ρ2 x x' l2 e=>?_
   subst e
   exact L ρ2 _ _ _ (Ren.le_trans l1 l2)
 | some hm =>
  refine SR.bind (SR_sliceBound hm _ _) fun ρ1 m m' l1 e=>?_
  subst e
  cases h2 with
  | none=>exact SR_stuck
  | some hv =>
   refine SR.bind (SR_sliceBound (hv.mono l1) _ _) fun ρ2 x x' l2 e=>?_
   subst e
   exact L ρ2 _ _ _ (Ren.le_trans l1 l2)
def slicePlain (P:Program) (t:TypeId):Bool :=
 match P.underlying t with
 | some .string | some (.slice _)=>true
 | _=>false
theorem SR_slice (t:TypeId) (ht:slicePlain P t=true) {v v':Value} {lo lo' hi hi' mx mx':Option Value} (h:VR ρ v v') (h1:OvR ρ lo lo') (h2:OvR ρ hi hi') (h3:OvR ρ mx mx') :
  SR P VR ρ (Instr.slice t v lo hi mx) (Instr.slice t v' lo' hi' mx'):=by
 unfold Instr.slice
 refine SR.bind (SR_underlying t) fun ρ1 d d' l1 e=>?_
 obtain ⟨rfl,e0⟩:=e
 unfold slicePlain at ht
 rw [e0] at ht
 have g1:=h1.mono l1
 have g2:=h2.mono l1
 have g3:=h3.mono l1
 have gh:=h.mono l1
 cases d with
 | string =>
  cases gh with
  | string s =>
   have em:mx.isSome=mx'.isSome:=by cases h3 <;> rfl
   dsimp only
   rw [←em]
   refine SR.ite (fun _=>SR_stuck) fun _=>?_
   refine SR.bind (SR_sliceBounds false s.size s.size g1 g2 .none) fun ρ2 x x' _ e=>?_
   subst e
   exact SR_ret (.string _)
  | _=>exact SR_stuck
 | slice elem =>
  have fin:∀ (a a':Option Addr) (len cap:Nat),(a=none∧a'=none∨∃ b b',a=some b∧a'=some b'∧AR ρ1 b b')→SR P VR ρ1
    (do
     let (l,h,m) ←Instr.sliceBounds true len cap lo hi mx
     let size ←sizeOf elem
     pure (.slice (if m=l then a else a.map (·.add (l * size))) (h - l) (m - l)))
    (do
     let (l,h,m) ←Instr.sliceBounds true len cap lo' hi' mx'
     let size ←sizeOf elem
     pure (.slice (if m=l then a' else a'.map (·.add (l * size))) (h - l) (m - l))):=by
   intro a a' len cap ha
   refine SR.bind (SR_sliceBounds true len cap g1 g2 g3) fun ρ2 x x' l2 e=>?_
   subst e
   obtain ⟨l,hh,m⟩:=x
   refine SR.bind (SR_sizeOf elem) fun ρ3 s s' l3 e=>?_
   obtain ⟨rfl,_⟩:=e
   rcases ha with ⟨rfl,rfl⟩ | ⟨b,b',rfl,rfl,hb⟩
   ·simp only [Option.map_none,ite_self];exact SR_ret (.slice0 _ _)
   ·have hb':=(hb.mono l2).mono l3
    by_cases e:m=l
    ·simp only [e,if_true];exact SR_ret (.slice _ _ hb')
    ·simp only [e,if_false,Option.map_some];exact SR_ret (.slice _ _ (hb'.add _))
  cases gh with
  | slice0 l c=>exact fin none none l c (.inl ⟨rfl,rfl⟩)
  | slice l c ha=>exact fin (some _) (some _) l c (.inr ⟨_,_,rfl,rfl,ha⟩)
  | _=>exact SR_stuck
 | _=>simp at ht
theorem SR_sliceAt (t:TypeId) (ht:slicePlain P t=true) {v v':Value} {lo lo' hi hi' mx mx':Option Value} (h:VR ρ v v') (h1:OvR ρ lo lo') (h2:OvR ρ hi hi') (h3:OvR ρ mx mx') :
  SR P VR ρ (Instr.sliceAt t v lo hi mx) (Instr.sliceAt t v' lo' hi' mx'):=by
 unfold Instr.sliceAt
 refine SR.bind (SR_underlying t) fun ρ1 d d' l1 e=>?_
 obtain ⟨rfl,e0⟩:=e
 have hs:=SR_slice t ht (h.mono l1) (h1.mono l1) (h2.mono l1) (h3.mono l1)
 unfold slicePlain at ht
 rw [e0] at ht
 cases d with
 | string=>exact hs
 | slice elem=>exact hs
 | _=>simp at ht
theorem SR_field (t:TypeId) {v v':Value} (h:VR ρ v v') (f:Nat):SR P VR ρ (Instr.field t v f) (Instr.field t v' f):=by
 unfold Instr.field
 refine SR.bind (SR_underlying t) fun ρ1 d d' l1 e=>?_
 obtain ⟨rfl,e0⟩:=e
 cases d with
 | struct fields =>
  simp only
  cases fields[f]? with
  | none=>exact SR_stuck
  | some x=>exact SR.bind (SR_asAgg (h.mono l1)) fun ρ2 c c' _ hc=>SR_part _ hc _
 | _=>exact SR_stuck
theorem SR_index (t:TypeId) {v v' i i':Value} (h:VR ρ v v') (k:VR ρ i i'):SR P VR ρ (Instr.index t v i) (Instr.index t v' i'):=by
 unfold Instr.index
 refine SR.bind (SR_asIntOf k) fun ρ1 x x' l1 e=>?_
 obtain ⟨rfl,_⟩:=e
 obtain ⟨kk,n⟩:=x
 refine SR.bind (SR_underlying t) fun ρ2 d d' l2 e=>?_
 obtain ⟨rfl,_⟩:=e
 have h2:=(h.mono l1).mono l2
 cases d with
 | array len elem =>
  cases h2 with
  | agg a b =>
   dsimp only
   refine SR.ite (fun _=>?_) fun _=>SR_bounds _ _ _ _
   refine SR.bind (SR_sizeOf elem) fun ρ3 s s' l3 e=>?_
   obtain ⟨rfl,_⟩:=e
   exact SR_part _ ((VsR.mk a b).mono l3) _
  | _=>exact SR_stuck
 | string =>
  cases h2 with
  | string s =>
   dsimp only
   split
   ·exact SR_ret (.int _ _)
   ·exact SR_bounds _ _ _ _
  | _=>exact SR_stuck
 | _=>cases h2 <;> exact SR_stuck
theorem SR_makeSlice [Zeros P] (t:TypeId) {v v' u u':Value} (h:VR ρ v v') (k:VR ρ u u'):SR P VR ρ (Instr.makeSlice t v u) (Instr.makeSlice t v' u'):=by
 unfold Instr.makeSlice
 refine SR.bind (SR_underlying t) fun ρ1 d d' l1 e=>?_
 obtain ⟨rfl,_⟩:=e
 cases d with
 | slice elem =>
  refine SR.bind (SR_asInt (h.mono l1)) fun ρ2 n n' l2 e=>?_
  subst e
  refine SR.bind (SR_asInt ((k.mono l1).mono l2)) fun ρ3 c c' l3 e=>?_
  subst e
  refine SR.bind (SR_typeInfo elem) fun ρ4 i i' l4 e=>?_
  obtain ⟨rfl,_⟩:=e
  dsimp only
  have fin:∀ (ρ5:Ren) (c' l':Int),SR P VR ρ5 (do
     askRoom (c'.toNat * i.bytes)
     let n:=c'.toNat * (←sizeOf elem)
     let zero ←if n=0 then pure #[] else do pure (←zeroValue elem).cells
     let a ←newRow elem ((Array.range n).map (zero[· % zero.size]!))
     pure (.slice (some a) l'.toNat c'.toNat)) (do
     askRoom (c'.toNat * i.bytes)
     let n:=c'.toNat * (←sizeOf elem)
     let zero ←if n=0 then pure #[] else do pure (←zeroValue elem).cells
     let a ←newRow elem ((Array.range n).map (zero[· % zero.size]!))
     pure (.slice (some a) l'.toNat c'.toNat)):=by
   intro ρ5 c' l'
   refine SR.bind (SR_room _) fun ρ6 _ _ _ _=>?_
   refine SR.bind (SR_sizeOf elem) fun ρ7 s s' _ e=>?_
   obtain ⟨rfl,_⟩:=e
   dsimp only
   have last:∀ (ρ8:Ren) z z',VsR ρ8 z z'→SR P VR ρ8 (do
     let a ←newRow elem ((Array.range (c'.toNat * s)).map (z[· % z.size]!))
     pure (.slice (some a) l'.toNat c'.toNat)) (do
     let a ←newRow elem ((Array.range (c'.toNat * s)).map (z'[· % z'.size]!))
     pure (.slice (some a) l'.toNat c'.toNat)):=fun ρ8 z z' hz =>
    SR.bind (SR_newRow elem (hz.tile _ VR_default)) fun ρ9 a a' _ ha=>SR_ret (.slice _ _ ha)
   by_cases e:c'.toNat * s=0
   ·simp only [e,if_true]
    have:=last ρ7 #[] #[] (VsR.nil _)
    rw [e] at this
    exact this
   ·simp only [e,if_false]
    refine SR.bind (SR_zeroValue elem) fun ρ8 z z' _ hz=>?_
    obtain ⟨rfl,hz⟩:=hz
    exact last ρ8 _ _ (hz ρ8).cells
  refine SR.ite (fun _=>?_) fun _=>fin _ _ _
  refine SR.ite (fun _=>?_) fun _=>SR.ite (fun _=>?_) fun _=>?_
  ·exact SR_panicOf (.error _) trivial
  ·exact SR_panicOf (.error _) trivial
  ·refine SR.bind (SR_choose _) fun ρ6 x x' _ e=>?_
   subst e
   exact SR_panicOf (.error _) trivial
 | _=>exact SR_stuck
theorem SR_makeInterface (t:TypeId) {v v':Value} (h:VR ρ v v'):SR P VR ρ (Instr.makeInterface t v) (Instr.makeInterface t v'):=by
 unfold Instr.makeInterface
 refine SR.bind (SR_underlying t) fun ρ1 d d' l1 e=>?_
 obtain ⟨rfl,_⟩:=e
 cases d with
 | interface m=>exact SR_stuck
 | _=>exact SR_ret (.iface (h.mono l1))
theorem SR_extract {v v':Value} (h:VR ρ v v') (i:Nat):SR P VR ρ (Instr.extract v i) (Instr.extract v' i):=by
 unfold Instr.extract
 cases h with
 | @tuple xs ys a b =>
  simp only
  cases e:xs[i]? with
  | none=>exact SR_stuck
  | some v =>
   obtain ⟨v',e',k⟩:=(VsR.mk a b).at_ e
   simp only [e']
   exact SR_ret k
 | _=>exact SR_stuck
theorem SR_panic {v v':Value} (h:VR ρ v v') (hn:v≠.nilIface):SR P VR ρ (Instr.panic v) (Instr.panic v'):=by
 unfold Instr.panic
 cases h with
 | iface h=>exact SR_goPanic (.iface h)
 | nilIface=>exact absurd rfl hn
 | _=>exact SR_stuck
theorem SR_typeAssert [Zeros P] (t a:TypeId) {v v':Value} (h:VR ρ v v'):SR P VR ρ (Instr.typeAssert v t a true) (Instr.typeAssert v' t a true):=by
 unfold Instr.typeAssert
 dsimp only
 have fails:∀ (ρ2:Ren),SR P VR ρ2 (do pure (Value.tuple #[←zeroValue a, .bool false])) (do pure (Value.tuple #[←zeroValue a, .bool false])):=fun ρ2 =>
  SR.bind (SR_zeroValue a) fun ρ3 z z' _ hz=>by obtain ⟨rfl,hz⟩:=hz;exact SR_ret (((VsR.one (hz ρ3)).push (.bool false)).tuple)
 have holds:∀ (ρ2:Ren) {u u':Value},VR ρ2 u u'→SR P VR ρ2 (pure (Value.tuple #[u, .bool true]):Sem Value) (pure (Value.tuple #[u', .bool true])):=fun ρ2 u u' hu=>SR_ret (((VsR.one hu).push (.bool true)).tuple)
 refine SR.bind (SR_underlying a) fun ρ1 d d' l1 e=>?_
 obtain ⟨rfl,_⟩:=e
 have h1:=h.mono l1
 cases h1 with
 | nilIface=>cases d <;> exact fails ρ1
 | @iface t' u u' hu =>
  cases d with
  | interface want =>
   refine SR.bind (SR_typeInfo t') fun ρ2 i i' l2 e=>?_
   obtain ⟨rfl,_⟩:=e
   simp only
   cases Instr.missingMethod want i.methods with
   | none=>exact holds ρ2 ((VR.iface hu).mono l2)
   | some m=>exact fails ρ2
  | _=>exact SR.ite (fun _=>holds ρ1 hu) fun _=>fails ρ1
 | _=>cases d <;> exact SR_stuck
end
end Go.Proofs.YtjnkcibpkkjniaaGreat.Sim
namespace Go.Proofs.YtjnkcibpkkjniaaGreat.Sim
variable [Scope]
section
variable {P:Program} {ρ:Ren}
theorem SR_shape {r:Nat} {p:Place} (h:ρ r=some p):SR P (fun _ a b=>ShR p a b) ρ (shape r) (shape p.block):=.shape h fun s s' hs=>.pure hs
theorem SR_getObj {r r':Nat} (h:ρ r=some ⟨r',none⟩):SR P OR ρ (getObj r) (getObj r'):=.getObj h fun o o' ho=>.pure ho
theorem ShR.isSome {p:Place} {s s':Option (TypeId×Nat)} (h:ShR p s s'):s.isSome=s'.isSome:=by
 unfold ShR at h
 split at h
 ·rw [h]
 ·obtain ⟨N,rfl,rfl,_⟩:=h;rfl
inductive NbR (ρ:Ren):Option (Addr×Bool)→Option (Addr×Bool)→Prop
 | none:NbR ρ none none
 | some {a a':Addr} {b:Bool}:AR ρ a a'→NbR ρ (some (a,b)) (some (a',b))
theorem SR_numberAt {r:Nat} {p:Place} (h:ρ r=some p):SR P NbR ρ (numberAt r) (numberAt p.block):=by
 unfold numberAt
 refine SR.bind (SR_shape h) fun ρ1 s s' l1 hs=>?_
 have h1:=l1 _ _ h
 (try dsimp only)
 rw [←hs.isSome]
 by_cases e:s.isSome=true
 ·simp only [e,if_true];exact SR_ret .none
 ·simp only [e,if_false]
  have hp:p.part=none:=by
   unfold ShR at hs
   split at hs
   ·assumption
   ·obtain ⟨N,rfl,_⟩:=hs;simp at e
  obtain ⟨pb,pp⟩:=p
  simp only at hp
  subst hp
  refine SR.bind (SR_getObj h1) fun ρ2 o o' l2 ho=>?_
  cases ho with
  | cells _=>exact SR_ret .none
  | map _ _=>exact SR_ret .none
  | number ha=>exact SR_ret (.some ha)
theorem SR_viewAt {r:Nat} {p:Place} (h:ρ r=some p):SR P (fun _ a b=>a=none∧b=none) ρ (viewAt r) (viewAt p.block):=by
 unfold viewAt
 refine SR.bind (SR_shape h) fun ρ1 s s' l1 hs=>?_
 have h1:=l1 _ _ h
 (try dsimp only)
 rw [←hs.isSome]
 by_cases e:s.isSome=true
 ·simp only [e,if_true];exact SR_ret ⟨rfl,rfl⟩
 ·simp only [e,if_false]
  have hp:p.part=none:=by
   unfold ShR at hs
   split at hs
   ·assumption
   ·obtain ⟨N,rfl,_⟩:=hs;simp at e
  obtain ⟨pb,pp⟩:=p
  simp only at hp
  subst hp
  refine SR.bind (SR_getObj h1) fun ρ2 o o' l2 ho=>?_
  cases ho <;> exact SR_ret ⟨rfl,rfl⟩
theorem SR_behind {a a':Addr} (h:AR ρ a a'):SR P (fun ρ x y=>AR ρ x.1 y.1∧x.2=y.2) ρ (behindNumber a) (behindNumber a'):=by
 unfold behindNumber
 obtain ⟨h0,p,h1,h2,h3,h4⟩:=h
 rw [h2]
 refine SR.bind (SR_numberAt h1) fun ρ1 x y l1 hxy=>?_
 cases hxy with
 | none=>exact SR_ret ⟨⟨h0,p,l1 _ _ h1,h2,h3,h4⟩,rfl⟩
 | some ha=>exact SR_ret ⟨ha,rfl⟩
theorem SR_asNumber {a a':Addr} (h:AR ρ a a') (lost:Bool):SR P VR ρ (asNumber a lost) (asNumber a' lost):=by
 unfold asNumber
 exact SR.bind (SR_newObj (.number h)) fun ρ1 r r' _ hr=>SR_ret (.ptr ⟨hr.1,_,hr.2,rfl,(Nat.zero_add _).symm,rfl⟩)
theorem cellAtBytes_part [Zeros P] {e:TypeId} {l N st off:Nat} {n:Int} {o:Nat} (h:cellAtBytes P P.depth e (l / P.cellsOf e) off n=some o) (hr:st+l≤N) (hd:Scope.cells e ∣ st) :
  cellAtBytes P P.depth e (N / P.cellsOf e) (st+off) n=some (st+o):=by
 rw [Zeros.cells (P:=P) e] at hd
 unfold cellAtBytes at h ⊢
 generalize P.cellsOf e=s at *
 generalize P.bytesOf e=w at *
 by_cases h0:(s=0 || w=0)=true
 ·simp [h0] at h
 ·simp only [h0,if_false,Bool.false_eq_true] at h ⊢
  have hs:0 < s:=by simp at h0;omega
  have hw:0 < w:=by simp at h0;omega
  obtain ⟨k,rfl⟩:=hd
  have m1:(s * k+off) % s=off % s:=by rw [Nat.add_comm,Nat.add_mul_mod_self_left]
  have m2:(s * k+off) / s=k+off / s:=by rw [Nat.mul_comm,Nat.add_comm,Nat.add_mul_div_right _ _ hs,Nat.add_comm]
  rw [m1,m2]
  cases hb:byteOfCell P P.depth e (off % s) with
  | none=>simp [hb] at h
  | some here =>
   simp only [hb,Option.bind_eq_bind,Option.bind_some] at h ⊢
   generalize ht:Int.ofNat (off / s * w+here)+n=there at h
   have e1:Int.ofNat ((k+off / s) * w+here)+n=there+Int.ofNat (k * w):=by
    rw [←ht,Nat.add_mul];simp only [Int.ofNat_eq_natCast];omega
   rw [e1]
   split at h
   ·cases h
   ·rename_i hlt
    simp only [Bool.or_eq_true,decide_eq_true_eq,not_or,Int.not_lt,Int.not_le] at hlt
    obtain ⟨g1,g2⟩:=hlt
    have hN:k+l / s≤N / s:=by
     have:(s * k+l) / s≤N / s:=Nat.div_le_div_right hr
     rwa [Nat.mul_comm,Nat.add_comm,Nat.add_mul_div_right _ _ hs,Nat.add_comm] at this
    have hNw:(k+l / s) * w≤N / s * w:=Nat.mul_le_mul_right w hN
    rw [Nat.add_mul] at hNw
    have g3:¬ ((decide (there+Int.ofNat (k * w) < 0) || decide (there+Int.ofNat (k * w) ≥ Int.ofNat (N / s * w)))=true):=by
     simp only [Bool.or_eq_true,decide_eq_true_eq,not_or,Int.not_lt,Int.not_le,Int.ofNat_eq_natCast,ge_iff_le] at g2 ⊢
     omega
    rw [if_neg g3]
    have e2:(there+Int.ofNat (k * w)).toNat=there.toNat+k * w:=by simp only [Int.ofNat_eq_natCast];omega
    rw [e2,Nat.add_mul_mod_self_right,Nat.add_mul_div_right _ _ hw]
    obtain ⟨x,hx,rfl⟩:=Option.map_eq_some_iff.1 h
    rw [hx]
    simp only [Option.map_some,Option.some.injEq,Nat.add_mul]
    rw [Nat.mul_comm k s]
    omega
theorem SR_unsafeAdd [Zeros P] (t:TypeId) {a a':Addr} {v v':Value} (h:AR ρ a a') (k:VR ρ v v') :
  SR P VR ρ (Builtin.unsafeAdd_ #[] t #[.pointer (some a),v]) (Builtin.unsafeAdd_ #[] t #[.pointer (some a'),v']):=by
 unfold Builtin.unsafeAdd_
 (try dsimp only)
 refine SR.bind (SR_asInt k) fun ρ1 n n' l1 e=>?_
 subst e
 have h1:=h.mono l1
 have hv:=h1
 obtain ⟨h0,p,hp,h2,h3,h4⟩:=h1
 have rest:SR P VR ρ1 (do
   if n < 0 then unsupported (.unsafePointer "Add: a move by a count below zero")
   let some (e,cells) ←shape a.block | unsupported (.unsafePointer "Add")
   let p ←program
   match cellAtBytes p p.depth e (cells / p.cellsOf e) a.off n with
   | some off=>pure (.pointer (some { a with off }))
   | none=>unsupported (.unsafePointer "Add")) (do
   if n < 0 then unsupported (.unsafePointer "Add: a move by a count below zero")
   let some (e,cells) ←shape a'.block | unsupported (.unsafePointer "Add")
   let p ←program
   match cellAtBytes p p.depth e (cells / p.cellsOf e) a'.off n with
   | some off=>pure (.pointer (some { a' with off }))
   | none=>unsupported (.unsafePointer "Add")):=by
  refine SR.ite (fun _=>SR_unsupported) fun _=>?_
  rw [h2]
  refine SR.bind (SR_shape hp) fun ρ2 s s' l2 hs=>?_
  cases s with
  | none=>exact SR_unsupported
  | some x =>
   obtain ⟨e0,c⟩:=x
   unfold ShR at hs
   cases hq:p.part with
   | none =>
    rw [hq] at hs
    subst hs
    refine SR.bind SR_program fun ρ3 b b' l3 hb=>?_
    obtain ⟨rfl,rfl⟩:=hb
    have hs0:p.shift=0:=by simp [Place.shift,hq]
    rw [h3,hs0,Nat.zero_add]
    (try dsimp only)
    split
    ·exact SR_ret (.ptr ⟨h0,p,l3 _ _ (l2 _ _ hp),rfl,by simp [hs0],h4⟩)
    ·exact SR_unsupported
   | some y =>
    obtain ⟨st,l,e⟩:=y
    rw [hq] at hs
    obtain ⟨N,q1,rfl,q3,q4⟩:=hs
    cases q1
    refine SR.bind SR_program fun ρ3 b b' l3 hb=>?_
    obtain ⟨rfl,rfl⟩:=hb
    have hs0:p.shift=st:=by simp [Place.shift,hq]
    rw [h3,hs0]
    (try dsimp only)
    cases hc:cellAtBytes b' b'.depth e0 (c / b'.cellsOf e0) a.off n with
    | none=>exact SR_unsupported
    | some o =>
     rw [cellAtBytes_part hc q3 q4]
     exact SR_ret (.ptr ⟨h0,p,l3 _ _ (l2 _ _ hp),rfl,by simp [hs0],h4⟩)
 refine SR.ite (fun _=>?_) fun _=>rest
 dsimp only
 rw [h2]
 refine SR.bind (SR_viewAt hp) fun ρ2 x y l2 hxy=>?_
 obtain ⟨rfl,rfl⟩:=hxy
 exact SR_ret (.ptr (hv.mono l2))
theorem SR_movedNumber [Zeros P] (t:TypeId) {a a':Addr} {v v':Value} (h:AR ρ a a') (k:VR ρ v v'):SR P VR ρ (movedNumber t (.pointer (some a)) v) (movedNumber t (.pointer (some a')) v'):=by
 unfold movedNumber
 refine SR.bind (SR_underlying t) fun ρ1 d d' l1 e=>?_
 obtain ⟨rfl,_⟩:=e
 (try dsimp only)
 refine SR.ite (fun _=>SR_unsupported) fun _=>?_
 refine SR.bind (SR_behind (h.mono l1)) fun ρ2 x y l2 hxy=>?_
 obtain ⟨x1,x2⟩:=x
 obtain ⟨y1,y2⟩:=y
 obtain ⟨g1,g2⟩:=hxy
 simp only at g1 g2
 subst g2
 refine SR.bind (SR_unsafeAdd t g1 ((k.mono l1).mono l2)) fun ρ3 u u' l3 hu=>?_
 cases hu with
 | ptr ha=>exact SR_asNumber ha _
 | _=>exact SR_ret (by constructor <;> assumption)
end
end Go.Proofs.YtjnkcibpkkjniaaGreat.Sim
namespace Go.Proofs.YtjnkcibpkkjniaaGreat.Sim
variable [Scope]
section
variable {P:Program} {ρ:Ren}
theorem SR_noView {a a':Addr} (h:AR ρ a a'):SR P (fun _ _ _=>True) ρ (noView a) (noView a'):=by
 unfold noView
 obtain ⟨h0,p,h1,h2,h3,h4⟩:=h
 rw [h2]
 refine SR.bind (SR_viewAt h1) fun ρ1 x y l1 hxy=>?_
 obtain ⟨rfl,rfl⟩:=hxy
 exact SR_ret trivial
def Off (P:Program) (p:Place) (x y:Nat):Prop :=
 match p.part with
 | none=>y=x
 | some sp=>∃ k,y=x+k * P.bytesOf sp.elem∨(x=y)
theorem SR_byteOf [Zeros P] {a a':Addr} {p:Place} (h0:Scope.base≤a.block) (h1:ρ a.block=some p) (h2:a'.block=p.block) (h3:a'.off=p.shift+a.off) (h4:a'.spot=a.spot) :
  SR P (fun _ x y=>Off P p x y) ρ (byteOf a) (byteOf a'):=by
 have same:∀ x,Off P p x x:=fun x=>by unfold Off;split;rfl;exact ⟨0, .inr rfl⟩
 unfold byteOf
 rw [h4]
 cases hs:a.spot with
 | some s=>exact SR_ret (same _)
 | none =>
  refine SR.bind SR_program fun ρ1 b b' l1 hb=>?_
  obtain ⟨rfl,rfl⟩:=hb
  have ha:AR ρ1 a a':=⟨h0,p,l1 _ _ h1,h2,h3,h4⟩
  refine SR.bind (SR_noView ha) fun ρ2 _ _ l2 _=>?_
  rw [h2]
  refine SR.bind (SR_shape (l2 _ _ (l1 _ _ h1))) fun ρ3 s s' l3 hss=>?_
  cases s with
  | none=>exact SR_stuck
  | some x =>
   obtain ⟨e,c⟩:=x
   unfold ShR at hss
   cases hq:p.part with
   | none =>
    rw [hq] at hss
    subst hss
    (try dsimp only)
    refine SR.ite (fun _=>SR_ret (same _)) fun hne=>?_
    have hmod:a'.off=a.off:=by rw [h3];simp [Place.shift,hq]
    rw [hmod]
    split
    ·exact SR_ret (same _)
    ·exact SR_stuck
   | some y =>
    obtain ⟨st,l,ty⟩:=y
    rw [hq] at hss
    obtain ⟨N,q1,rfl,q3,q4⟩:=hss
    cases q1
    (try dsimp only)
    refine SR.ite (fun _=>SR_ret (same _)) fun hne=>?_
    rw [Zeros.cells (P:=b') e] at q4
    obtain ⟨k,hk⟩:=q4
    have hsh:p.shift=st:=by simp [Place.shift,hq]
    have hmod:a'.off % b'.cellsOf e=a.off % b'.cellsOf e:=by rw [h3,hsh,hk,Nat.add_comm,Nat.add_mul_mod_self_left]
    have hdiv:a'.off / b'.cellsOf e=a.off / b'.cellsOf e+k:=by rw [h3,hsh,hk,Nat.mul_comm,Nat.add_comm,Nat.add_mul_div_right _ _ (by omega)]
    rw [hmod,hdiv]
    split
    ·rename_i x hx
     refine SR_ret ?_
     unfold Off
     rw [hq]
     exact ⟨k, .inl (by rw [Nat.add_mul];simp only;omega)⟩
    ·exact SR_stuck
theorem SR_addrMod [Zeros P] (k:IntKind) (n:Int) {a a':Addr} (h:AR ρ a a'):SR P VR ρ (Op.addrMod k a n) (Op.addrMod k a' n):=by
 unfold Op.addrMod
 obtain ⟨h0,p,h1,h2,h3,h4⟩:=h
 rw [h2]
 refine SR.bind (SR_shape h1) fun ρ1 s s' l1 hs=>?_
 cases s with
 | none=>exact SR_unsupported
 | some x =>
  obtain ⟨e,c⟩:=x
  have key:(∃ c',s'=some (e,c'))∧∀ sp,p.part=some sp→sp.elem=e:=by
   unfold ShR at hs
   cases hq:p.part with
   | none=>rw [hq] at hs;exact ⟨⟨c,hs.symm⟩,fun sp hsp=>by cases hsp⟩
   | some y =>
    obtain ⟨st,l,ty⟩:=y
    rw [hq] at hs
    obtain ⟨N,q1,rfl,_⟩:=hs
    cases q1
    exact ⟨⟨N,rfl⟩,fun sp hsp=>by cases hsp;rfl⟩
  obtain ⟨⟨c',rfl⟩,hel⟩:=key
  refine SR.bind (SR_typeInfo e) fun ρ2 i i' l2 hi=>?_
  obtain ⟨rfl,hi⟩:=hi
  (try dsimp only)
  refine SR.ite (fun _=>SR_unsupported) fun hc=>?_
  refine SR.bind (SR_byteOf h0 (l2 _ _ (l1 _ _ h1)) h2 h3 h4) fun ρ3 x y l3 hxy=>?_
  have:x % n.toNat=y % n.toNat:=by
   unfold Off at hxy
   cases hq:p.part with
   | none=>rw [hq] at hxy;rw [hxy]
   | some sp =>
    rw [hq] at hxy
    obtain ⟨k,rfl | rfl⟩:=hxy
    ·rw [hel sp hq]
     have hb:P.bytesOf e=i.bytes:=by simp [Program.bytesOf,hi]
     have hd:n.toNat ∣ i.bytes:=by
      simp only [Bool.or_eq_true,decide_eq_true_eq,not_or,bne_iff_ne,ne_eq,Decidable.not_not] at hc
      exact Nat.dvd_trans (Nat.dvd_of_mod_eq_zero hc.2) (Zeros.align (P:=P) e i hi)
     obtain ⟨m,hm⟩:=hd
     rw [hb,hm,Nat.mul_comm k,Nat.mul_assoc,Nat.add_mul_mod_self_left]
    ·rfl
  rw [this]
  exact SR_ret (.int _ _)
def eqPlain (P:Program):Nat→TypeId→Bool
 | 0,_=>false
 | n+1,t =>
  (match P.info? t with
   | some { desc:=.named "sync.copyChecker" _, .. }=>false
   | _=>true) &&
  match P.underlying t with
  | some .bool | some (.int _) | some .string=>true
  | some (.struct fs)=>fs.toList.all fun f=>eqPlain P n f.type
  | _=>false
theorem SR_forIn {σ:Type} {α:Type} (f:α→σ→Sem (ForInStep σ)) (g:α→σ→Sem (ForInStep σ)):∀ (l:List α) (ρ:Ren) (s:σ),
  (∀ ρ' x s,ρ.le ρ'→x∈l→SR P (fun _ a b=>a=b) ρ' (f x s) (g x s))→SR P (fun _ a b=>a=b) ρ (forIn l s f) (forIn l s g)
 | [],ρ,s,h=>by simp only [List.forIn_nil];exact SR_ret rfl
 | x::l,ρ,s,h=>by
  simp only [List.forIn_cons]
  refine SR.bind (h ρ x s (Ren.le_refl _) (by simp)) fun ρ1 a b l1 e=>?_
  subst e
  cases a with
  | done s=>exact SR_ret rfl
  | yield s=>exact SR_forIn f g l ρ1 s fun ρ' y s' hl hy=>h ρ' y s' (Ren.le_trans l1 hl) (by simp [hy])
theorem SR_equalIn [Zeros P]:∀ (n d:Nat) (t:TypeId) {ρ:Ren} {x x' y y':Value},eqPlain P n t=true→VR ρ x x'→VR ρ y y' →
  SR P (fun _ a b=>a=b) ρ (Op.equalIn d t x y) (Op.equalIn d t x' y')
 | 0,_,_,_,_,_,_,_,h,_,_=>by simp [eqPlain] at h
 | n+1,0,t,_,_,_,_,_,_,_,_=>by unfold Op.equalIn;exact SR_unsupported
 | n+1,d+1,t,ρ,x,x',y,y',h,hx,hy=>by
  simp only [Op.equalIn]
  refine SR.bind (SR_underlying t) fun ρ1 u u' l1 e=>?_
  obtain ⟨rfl,e0⟩:=e
  simp only [eqPlain,Bool.and_eq_true,e0] at h
  obtain ⟨hcop,hpl⟩:=h
  have hx1:=hx.mono l1
  have hy1:=hy.mono l1
  cases u with
  | bool=>cases hx1 <;> cases hy1 <;> first | exact SR_ret rfl | exact SR_stuck
  | string=>cases hx1 <;> cases hy1 <;> first | exact SR_ret rfl | exact SR_stuck
  | int k =>
   cases hx1 with
   | int k1 a =>
    cases hy1 with
    | int k2 b=>exact SR.ite (fun _=>SR_ret rfl) fun _=>SR_stuck
    | ptr ha=>rcases a with (_ | a) | a <;> first | exact SR_ret rfl | exact SR_unsupported
    | ptr0=>rcases a with (_ | a) | a <;> first | exact SR_ret rfl | exact SR_unsupported
    | _=>exact SR_stuck
   | ptr ha =>
    cases hy1 with
    | int k2 b=>rcases b with (_ | b) | b <;> first | exact SR_ret rfl | exact SR_unsupported
    | ptr hb =>
     refine SR.bind (SR_behind ha) fun ρ2 p p' l2 hp=>?_
     refine SR.bind (SR_behind (hb.mono l2)) fun ρ3 q q' l3 hq=>?_
     refine SR.bind SR_program fun ρ4 g g' l4 hg=>?_
     obtain ⟨rfl,rfl⟩:=hg
     have b1:¬ (p.1.block < g'.globals.size):=by have:=hp.1.1;have:=Zeros.base (P:=g');omega
     have b2:((p.1.block == q.1.block && decide (p.1.block < g'.globals.size))=true)=False:=by simp [b1]
     simp only [b2,if_false]
     refine SR.programL ?_
     show SR g' _ ρ4 (Sem.bind (match g'.info? t with | some i=>pure i | none=>stuck "no such type") _) _
     cases hi:g'.info? t with
     | none=>exact SR_stuck
     | some i =>
      show SR g' _ ρ4 (match i.desc with | .named "sync.copyChecker" _=>_ | _=>_) _
      rw [hi] at hcop
      obtain ⟨desc,str,size,bytes,hp,al,fa,z,cmp,ms⟩:=i
      simp only at hcop ⊢
      split
      ·simp at hcop
      ·exact SR_unsupported
    | _=>exact SR_unsupported
   | ptr0=>cases hy1 <;> first | exact SR_stuck | exact SR_unsupported
   | _=>cases hy1 <;> first | exact SR_stuck | exact SR_unsupported
  | struct fs =>
   cases hx1 with
   | agg a b =>
    cases hy1 with
    | agg c e =>
     refine SR_prog ?_
     refine SR.ite (fun _=>SR_unsupported) fun _=>?_
     rw [←Array.forIn_toList,←Array.forIn_toList]
     have hX:=(VsR.mk a b)
     have hY:=(VsR.mk c e)
     refine SR.bind (SR_forIn _ _ fs.toList ρ1 _ fun ρ3 f s l3 hf=>?_) fun ρ3 r r' l3 hr=>?_
     ·refine SR.ite (fun _=>?_) fun _=>SR_ret rfl
      refine SR.bind (SR_part f.type (hX.mono l3) f.offset) fun ρ4 u u' l4 hu=>?_
      refine SR.bind (SR_part f.type ((hY.mono l3).mono l4) f.offset) fun ρ5 v v' l5 hv=>?_
      have hpf:eqPlain P n f.type=true:=(List.all_eq_true.1 hpl) f hf
      refine SR.bind (SR_equalIn n d f.type hpf (hu.mono l5) hv) fun ρ6 r r' l6 hr=>?_
      subst hr
      cases r <;> exact SR_ret rfl
     ·subst hr
      split <;> exact SR_ret rfl
    | _=>exact SR_stuck
   | _=>cases hy1 <;> exact SR_stuck
  | _=>simp at hpl
end
end Go.Proofs.YtjnkcibpkkjniaaGreat.Sim
namespace Go.Proofs.YtjnkcibpkkjniaaGreat.Sim
variable [Scope]
def okOperand:Operand→Bool
 | .tmp _=>true
 | .const c=>clear 3 c
 | .func f=>Scope.ok f
 | .global _=>false
structure ER (ρ:Ren) (f g:Operand→Value):Prop where
 tmp:∀ t,VR ρ (f (.tmp t)) (g (.tmp t))
 const:∀ c,f (.const c)=c∧g (.const c)=c
 func:∀ i,f (.func i)=.func (.func i) #[] #[]∧g (.func i)=.func (.func i) #[] #[]
theorem ER.get {ρ:Ren} {f g:Operand→Value} (h:ER ρ f g) {x:Operand} (hx:okOperand x=true):VR ρ (f x) (g x):=by
 cases x with
 | tmp t=>exact h.tmp t
 | const c=>rw [(h.const c).1,(h.const c).2];exact clear_VR ρ 3 c hx
 | func i=>rw [(h.func i).1,(h.func i).2];exact VsR.func hx (VsR.nil ρ) (VsR.nil ρ)
 | global g=>simp [okOperand] at hx
theorem ER.mono {ρ ρ':Ren} {f g:Operand→Value} (h:ER ρ f g) (l:ρ.le ρ'):ER ρ' f g:=⟨fun t=>(h.tmp t).mono l,h.const,h.func⟩
def nilValue:Value→Bool
 | .pointer none | .nilIface | .nilFunc | .slice none _ _ | .map none=>true
 | _=>false
def nilConst:Operand→Bool
 | .const c=>nilValue c
 | _=>false
def eqOk (P:Program) (t:TypeId) (x y:Operand):Bool:=nilConst x || nilConst y || (eqPlain P 12 t && !P.eqGuardType P.depth t)
section
variable {P:Program} {ρ:Ren}
theorem SR_equalNilR' (d:Nat) (t:TypeId) {v v' c:Value} (h:VR ρ v v') (hc:nilValue c=true):SR P (fun _ a b=>a=b) ρ (Op.equalIn (d+1) t v c) (Op.equalIn (d+1) t v' c):=by
 simp only [Op.equalIn]
 refine SR.bind (SR_underlying t) fun ρ1 u u' l1 e=>?_
 obtain ⟨rfl,_⟩:=e
 have h1:=h.mono l1
 unfold nilValue at hc
 split at hc
 ·cases u <;> cases h1 <;> first | exact SR_ret rfl | exact SR_stuck | exact SR_unsupported
 ·cases u <;> cases h1 <;> first | exact SR_ret rfl | exact SR_stuck | exact SR_unsupported
 ·cases u <;> cases h1 <;> first | exact SR_ret rfl | exact SR_stuck | exact SR_unsupported
 ·cases u <;> cases h1 <;> first | exact SR_ret rfl | exact SR_stuck | exact SR_unsupported
 ·cases u <;> cases h1 <;> first | exact SR_ret rfl | exact SR_stuck | exact SR_unsupported
 ·cases hc
theorem SR_equalNilL' (d:Nat) (t:TypeId) {v v' c:Value} (h:VR ρ v v') (hc:nilValue c=true):SR P (fun _ a b=>a=b) ρ (Op.equalIn (d+1) t c v) (Op.equalIn (d+1) t c v'):=by
 simp only [Op.equalIn]
 refine SR.bind (SR_underlying t) fun ρ1 u u' l1 e=>?_
 obtain ⟨rfl,_⟩:=e
 have h1:=h.mono l1
 unfold nilValue at hc
 split at hc
 ·cases u <;> cases h1 <;> first | exact SR_ret rfl | exact SR_stuck | exact SR_unsupported
 ·cases u <;> cases h1 <;> first | exact SR_ret rfl | exact SR_stuck | exact SR_unsupported
 ·cases u <;> cases h1 <;> first | exact SR_ret rfl | exact SR_stuck | exact SR_unsupported
 ·cases u <;> cases h1 <;> first | exact SR_ret rfl | exact SR_stuck | exact SR_unsupported
 ·cases u <;> cases h1 <;> first | exact SR_ret rfl | exact SR_stuck | exact SR_unsupported
 ·cases hc
theorem SR_equalNilR (t:TypeId) {v v' c:Value} (h:VR ρ v v') (hc:nilValue c=true):SR P (fun _ a b=>a=b) ρ (Op.equal t v c) (Op.equal t v' c):=SR_equalNilR' 9999 t h hc
theorem SR_equalNilL (t:TypeId) {v v' c:Value} (h:VR ρ v v') (hc:nilValue c=true):SR P (fun _ a b=>a=b) ρ (Op.equal t c v) (Op.equal t c v'):=SR_equalNilL' 9999 t h hc
theorem SR_guardIn [Zeros P] (d:Nat) (t:TypeId) (hpl:eqPlain P 12 t=true):SR P (fun _ a b=>a=false∧b=false) ρ (Op.eqGuardIn (d+1) t .nilIface .nilIface) (Op.eqGuardIn (d+1) t .nilIface .nilIface):=by
 simp only [Op.eqGuardIn]
 refine SR.bind (SR_underlying t) fun ρ1 u u' l1 e=>?_
 obtain ⟨rfl,e0⟩:=e
 have:eqPlain P (11+1) t=true:=hpl
 simp only [eqPlain,e0,Bool.and_eq_true] at this
 cases u <;> first | exact SR_ret ⟨rfl,rfl⟩ | simp at this
theorem SR_equal [Zeros P] (t:TypeId) (x y:Operand) (h:eqOk P t x y=true) {f g:Operand→Value} (he:ER ρ f g) (hx:okOperand x=true) (hy:okOperand y=true) :
  SR P (fun _ a b=>a=b) ρ (Op.equal t (f x) (f y)) (Op.equal t (g x) (g y)):=by
 unfold eqOk at h
 simp only [Bool.or_eq_true,Bool.and_eq_true] at h
 rcases h with (h | h) | h
 ·cases x with
  | const c=>rw [(he.const c).1,(he.const c).2];exact SR_equalNilL t (he.get hy) h
  | _=>simp [nilConst] at h
 ·cases y with
  | const c=>rw [(he.const c).1,(he.const c).2];exact SR_equalNilR t (he.get hx) h
  | _=>simp [nilConst] at h
 ·exact SR_equalIn 12 _ t h.1 (he.get hx) (he.get hy)
theorem SR_eqGuard [Zeros P] (op:BinOp) (t:TypeId) (x y:Operand) (h:(op=.eql∨op=.neq)→eqOk P t x y=true) {f g:Operand→Value} (he:ER ρ f g) (hx:okOperand x=true) (hy:okOperand y=true) :
  SR P (fun _ _ _=>True) ρ (eqGuard op t x y (f x) (f y)) (eqGuard op t x y (g x) (g y)):=by
 have main:(op=.eql∨op=.neq)→SR P (fun _ _ _=>True) ρ (match f x,f y with
   | .nilIface, .nilIface=>do
    if (x matches .const _) || (y matches .const _) then return
    if ←Op.eqGuardIn Op.maxDepth t (f x) (f y) then unsupported (.noEntry "binop/eql: two nil values of an interface type with methods, neither of them the literal nil")
   | .agg _, .agg _=>do
    if !(←program).eqGuardType (←program).depth t then return
    if ←Op.eqGuardIn Op.maxDepth t (f x) (f y) then unsupported (.noEntry "binop/eql: two nil values of an interface type with methods, in a part of a struct or an array")
   | _,_=>pure ()) (match g x,g y with
   | .nilIface, .nilIface=>do
    if (x matches .const _) || (y matches .const _) then return
    if ←Op.eqGuardIn Op.maxDepth t (g x) (g y) then unsupported (.noEntry "binop/eql: two nil values of an interface type with methods, neither of them the literal nil")
   | .agg _, .agg _=>do
    if !(←program).eqGuardType (←program).depth t then return
    if ←Op.eqGuardIn Op.maxDepth t (g x) (g y) then unsupported (.noEntry "binop/eql: two nil values of an interface type with methods, in a part of a struct or an array")
   | _,_=>pure ()):=by
  intro hop
  have hq:=h hop
  unfold eqOk at hq
  simp only [Bool.or_eq_true,Bool.and_eq_true] at hq
  have nilL:nilConst x=true→∃ c,x=.const c∧nilValue c=true:=by intro hn;cases x <;> simp_all [nilConst]
  have nilR:nilConst y=true→∃ c,y=.const c∧nilValue c=true:=by intro hn;cases y <;> simp_all [nilConst]
  have h1:=he.get hx
  have h2:=he.get hy
  rcases hq with (hn | hn) | hn
  ·obtain ⟨c,rfl,hc⟩:=nilL hn
   rw [(he.const c).1,(he.const c).2]
   generalize f y=u,g y=u' at h2
   unfold nilValue at hc
   split at hc
   ·cases h2 <;> exact SR_ret trivial
   ·cases h2 <;> first | exact SR_ret trivial | exact SR.ite (fun _=>SR_ret trivial) fun hne=>absurd rfl hne
   ·cases h2 <;> exact SR_ret trivial
   ·cases h2 <;> exact SR_ret trivial
   ·cases h2 <;> exact SR_ret trivial
   ·cases hc
  ·obtain ⟨c,rfl,hc⟩:=nilR hn
   rw [(he.const c).1,(he.const c).2]
   generalize f x=u,g x=u' at h1
   unfold nilValue at hc
   split at hc
   ·cases h1 <;> exact SR_ret trivial
   ·cases h1 <;> first | exact SR_ret trivial | exact SR.ite (fun _=>SR_ret trivial) fun hne=>absurd (by simp) hne
   ·cases h1 <;> exact SR_ret trivial
   ·cases h1 <;> exact SR_ret trivial
   ·cases h1 <;> exact SR_ret trivial
   ·cases hc
  ·generalize f x=v,g x=v',f y=u,g y=u' at h1 h2
   have hpl:=hn.1
   have hg:P.eqGuardType P.depth t=false:=by simpa using hn.2
   cases h1 with
   | nilIface =>
    cases h2 with
    | nilIface =>
     refine SR.ite (fun _=>SR_ret trivial) fun _=>?_
     exact SR.bind (SR_guardIn 9999 t hpl) fun ρ1 a b l1 e=>by obtain ⟨rfl,rfl⟩:=e;exact SR_ret trivial
    | _=>exact SR_ret trivial
   | agg a b =>
    cases h2 with
    | agg c d =>
     refine SR_prog ?_
     refine SR_prog ?_
     simp only [hg,Bool.not_false,if_true]
     exact SR_ret trivial
    | _=>exact SR_ret trivial
   | _=>cases h2 <;> exact SR_ret trivial
 unfold eqGuard
 cases op <;> first | exact main (.inl rfl) | exact main (.inr rfl) | exact SR_ret trivial
end
end Go.Proofs.YtjnkcibpkkjniaaGreat.Sim
