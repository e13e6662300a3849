import Derived.Test.YtjnkcibpkkjniaaGreatA02
set_option linter.unusedVariables false
set_option linter.unusedSimpArgs false
set_option linter.unusedSectionVars false
namespace Go.Proofs.YtjnkcibpkkjniaaGreat.Sim
variable [Scope]
theorem VsR.opt {ρ:Ren} {xs ys:Array Value} (h:VsR ρ xs ys) (i:Nat):OvR ρ xs[i]? ys[i]?:=by
 cases e:xs[i]? with
 | none=>rw [h.off_ e];exact .none
 | some v=>obtain ⟨v',e',k⟩:=h.at_ e;rw [e'];exact .some k
section
variable {P:Program} {ρ:Ren}
theorem SR_len (ts:Array TypeId) (t:TypeId) {xs ys:Array Value} (h:VsR ρ xs ys):SR P VR ρ (Builtin.len_ ts t xs) (Builtin.len_ ts t ys):=by
 unfold Builtin.len_
 have ho:=h.opt 0
 generalize xs[0]? = x,ys[0]? = y at ho
 cases ts[0]? with
 | none=>exact SR_stuck
 | some t =>
  cases ho with
  | none=>exact SR_stuck
  | some hv =>
   refine SR.bind (SR_underlying t) fun ρ1 d d' l1 e=>?_
   obtain ⟨rfl,_⟩:=e
   have hv1:=hv.mono l1
   cases d with
   | map k e =>
    cases hv1 with
    | map hr =>
     refine SR.bind (SR_getObj hr) fun ρ2 o o' l2 ho=>?_
     cases ho with
     | map a b=>simp only [a];exact SR_ret (.int _ _)
     | _=>exact SR_stuck
    | map0=>exact SR_ret (.int _ _)
    | _=>exact SR_stuck
   | pointer arr =>
    refine SR.bind (SR_underlying arr) fun ρ2 d d' l2 e=>?_
    obtain ⟨rfl,_⟩:=e
    cases d <;> first | exact SR_ret (.int _ _) | exact SR_stuck
   | _=>cases hv1 <;> first | exact SR_ret (.int _ _) | exact SR_stuck
theorem SR_cap (ts:Array TypeId) (t:TypeId) {xs ys:Array Value} (h:VsR ρ xs ys):SR P VR ρ (Builtin.cap_ ts t xs) (Builtin.cap_ ts t ys):=by
 unfold Builtin.cap_
 have ho:=h.opt 0
 generalize xs[0]? = x,ys[0]? = y at ho
 cases ts[0]? with
 | none=>exact SR_stuck
 | some t =>
  cases ho with
  | none=>exact SR_stuck
  | some hv =>
   refine SR.bind (SR_underlying t) fun ρ1 d d' l1 e=>?_
   obtain ⟨rfl,_⟩:=e
   have hv1:=hv.mono l1
   cases d with
   | pointer arr =>
    refine SR.bind (SR_underlying arr) fun ρ2 d d' l2 e=>?_
    obtain ⟨rfl,_⟩:=e
    cases d <;> first | exact SR_ret (.int _ _) | exact SR_stuck
   | _=>cases hv1 <;> first | exact SR_ret (.int _ _) | exact SR_stuck
theorem SR_lenOf {v v':Value} (h:VR ρ v v'):SR P (fun _ a b=>a=b) ρ (Builtin.lenOf v) (Builtin.lenOf v'):=by
 unfold Builtin.lenOf
 cases h <;> first | exact SR_ret rfl | exact SR_stuck
theorem SR_firstCells (size n:Nat) {v v':Value} (h:VR ρ v v'):SR P VsR ρ (Builtin.firstCells size n v) (Builtin.firstCells size n v'):=by
 unfold Builtin.firstCells
 cases h with
 | slice0 l c=>exact SR_ret (VsR.nil _)
 | slice l c ha=>exact SR_loadCells _ ha
 | string s=>exact SR_ret (VsR.ints (fun b=>.int .u8 b.toNat) (fun b=>.int _ _) _)
 | _=>exact SR_stuck
theorem SR_copy (ts:Array TypeId) (t:TypeId) {xs ys:Array Value} (h:VsR ρ xs ys):SR P VR ρ (Builtin.copy_ ts t xs) (Builtin.copy_ ts t ys):=by
 unfold Builtin.copy_
 have ho:=h.opt 0
 have ho1:=h.opt 1
 generalize xs[0]? = x,ys[0]? = y at ho
 generalize xs[1]? = u,ys[1]? = v at ho1
 cases ts[0]? with
 | none=>exact SR_stuck
 | some t =>
  cases ho with
  | none=>exact SR_stuck
  | some hd =>
   cases ho1 with
   | none=>exact SR_stuck
   | @some src src' hs =>
    refine SR.bind (SR_underlying t) fun ρ1 d d' l1 e=>?_
    obtain ⟨rfl,_⟩:=e
    cases d with
    | slice elem =>
     have fin:∀ (b b':Option Addr) (dl:Nat),(b=none∧b'=none∨∃ a a',b=some a∧b'=some a'∧AR ρ1 a a')→SR P VR ρ1
       (do
        let n:=Nat.min (←Builtin.lenOf src) dl
        let cells ←Builtin.firstCells (←sizeOf elem) n src
        if let some a:=b then storeCells a cells.toList
        pure (goInt n))
       (do
        let n:=Nat.min (←Builtin.lenOf src') dl
        let cells ←Builtin.firstCells (←sizeOf elem) n src'
        if let some a:=b' then storeCells a cells.toList
        pure (goInt n)):=by
      intro b b' dl hb
      refine SR.bind (SR_lenOf (hs.mono l1)) fun ρ2 n n' l2 e=>?_
      subst e
      refine SR.bind (SR_sizeOf elem) fun ρ3 s s' l3 e=>?_
      obtain ⟨rfl,_⟩:=e
      (try dsimp only)
      refine SR.bind (SR_firstCells _ _ (((hs.mono l1).mono l2).mono l3)) fun ρ4 c c' l4 hc=>?_
      rcases hb with ⟨rfl,rfl⟩ | ⟨a,a',rfl,rfl,ha⟩
      ·exact SR_ret (.int _ _)
      ·exact SR.bind (SR_storeCells 0 (((ha.mono l2).mono l3).mono l4) hc.list) fun _ _ _ _ _=>SR_ret (.int _ _)
     have hd1:=hd.mono l1
     cases hd1 with
     | slice0 l c=>exact fin none none l (.inl ⟨rfl,rfl⟩)
     | slice l c ha=>exact fin (some _) (some _) l (.inr ⟨_,_,rfl,rfl,ha⟩)
     | _=>exact SR_stuck
    | _=>exact SR_stuck
theorem SR_min2 {v v' u u':Value} (h:VR ρ v v') (k:VR ρ u u'):SR P VR ρ (Builtin.min2 v u) (Builtin.min2 v' u'):=by
 unfold Builtin.min2
 cases h with
 | int=>cases k <;> first | exact SR_ret (.int _ _) | exact SR_stuck | exact SR_unsupported
 | string a =>
  cases k with
  | string b =>
   refine SR.bind (SR_stringOp .leq a b) fun ρ1 x x' l1 hx=>?_
   exact SR.bind (SR_asBool hx) fun ρ2 c c' _ e=>by subst e;exact SR_ret (.string _)
  | _=>first | exact SR_stuck | exact SR_unsupported
 | _=>cases k <;> first | exact SR_stuck | exact SR_unsupported
theorem SR_max2 {v v' u u':Value} (h:VR ρ v v') (k:VR ρ u u'):SR P VR ρ (Builtin.max2 v u) (Builtin.max2 v' u'):=by
 unfold Builtin.max2
 cases h with
 | int=>cases k <;> first | exact SR_ret (.int _ _) | exact SR_stuck | exact SR_unsupported
 | string a =>
  cases k with
  | string b =>
   refine SR.bind (SR_stringOp .geq a b) fun ρ1 x x' l1 hx=>?_
   exact SR.bind (SR_asBool hx) fun ρ2 c c' _ e=>by subst e;exact SR_ret (.string _)
  | _=>first | exact SR_stuck | exact SR_unsupported
 | _=>cases k <;> first | exact SR_stuck | exact SR_unsupported
theorem SR_fold (f:Value→Value→Sem Value) (hf:∀ {ρ:Ren} {v v' u u':Value},VR ρ v v'→VR ρ u u'→SR P VR ρ (f v u) (f v' u')):∀ {l l':List Value} {ρ:Ren} {v v':Value},LsR ρ l l'→VR ρ v v'→SR P VR ρ (l.foldlM f v) (l'.foldlM f v')
 | [],_,_,_,_,h,hv=>by cases h;exact SR_ret hv
 | x::l,_,_,_,_,h,hv=>by
  cases h with
  | cons h1 h2 =>
   simp only [List.foldlM_cons]
   exact SR.bind (hf hv h1) fun ρ1 a b l1 hab=>SR_fold f hf (LsR.mono h2 l1) hab
theorem SR_min (ts:Array TypeId) (t:TypeId) {xs ys:Array Value} (h:VsR ρ xs ys):SR P VR ρ (Builtin.min_ ts t xs) (Builtin.min_ ts t ys):=by
 unfold Builtin.min_
 have hl:=h.list
 generalize xs.toList=l,ys.toList=l' at hl
 cases hl with
 | nil=>exact SR_stuck
 | cons h1 h2=>exact SR_fold _ SR_min2 h2 h1
theorem SR_max (ts:Array TypeId) (t:TypeId) {xs ys:Array Value} (h:VsR ρ xs ys):SR P VR ρ (Builtin.max_ ts t xs) (Builtin.max_ ts t ys):=by
 unfold Builtin.max_
 have hl:=h.list
 generalize xs.toList=l,ys.toList=l' at hl
 cases hl with
 | nil=>exact SR_stuck
 | cons h1 h2=>exact SR_fold _ SR_max2 h2 h1
theorem VsR.zeros {z z':Array Value} (h:VsR ρ z z') (n:Nat):VsR ρ (Builtin.zeroCells z n) (Builtin.zeroCells z' n):=by
 unfold Builtin.zeroCells
 rw [←h.size]
 have:=h.tile (n * z.size) VR_default
 rw [←h.size] at this
 exact this
theorem SR_share {α β:Type} {R:Ren→α→β→Prop} (size sLen n:Nat) (base:Option Addr) (x:Value) (k:Bool→Sem α) (y:Sem β) (hk:∀ b,SR P R ρ (k b) y):SR P R ρ (Builtin.mayShare size sLen n base x >>= k) y:=by
 have holds:∀ (a:Addr) (c:Nat) (k:Bool→Sem α),(∀ b,SR P R ρ (k b) y)→SR P R ρ (Builtin.holdsCells a c >>= k) y:=fun a c k hk=>by
  unfold Builtin.holdsCells
  refine SR.shapeL fun s=>?_
  cases s <;> exact hk _
 have tail:∀ b:Bool,SR P R ρ ((if !b then pure true else match x with
   | .slice (some b) _ _=>do pure (!(←Builtin.holdsCells b (n * size)) || base.any (·.block == b.block))
   | _=>pure false:Sem Bool) >>= k) y:=by
  intro b
  cases b with
  | false=>exact hk true
  | true =>
   cases x with
   | slice a l c =>
    cases a with
    | none=>exact hk false
    | some a =>
     unfold Builtin.holdsCells
     refine SR.shapeL fun s=>?_
     cases s <;> exact hk _
   | _=>exact hk false
 unfold Builtin.mayShare
 cases base with
 | none=>exact tail true
 | some a =>
  refine SR.shapeL fun s=>?_
  cases s with
  | none=>exact SR.frozenL fun f=>tail (false && !f)
  | some q=>exact SR.frozenL fun f=>tail _
end
end Go.Proofs.YtjnkcibpkkjniaaGreat.Sim
