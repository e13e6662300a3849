import Derived.Test.YtjnkcibpkkjniaaGreatA03
import Derived.Calls
import Derived.KernelRfl
import Derived.Conc.Beside
import Derived.Tactics
set_option linter.unusedVariables false
set_option linter.unusedSimpArgs false
set_option linter.unusedSectionVars false
namespace Go.Proofs.YtjnkcibpkkjniaaGreat.Sim
variable [Scope]
inductive OaR (ρ:Ren):Option Addr→Option Addr→Prop
 | none:OaR ρ none none
 | some {a a':Addr}:AR ρ a a'→OaR ρ (some a) (some a')
theorem OaR.mono {ρ ρ':Ren} {x y:Option Addr} (h:OaR ρ x y) (l:ρ.le ρ'):OaR ρ' x y:=by
 cases h with
 | none=>exact .none
 | some h=>exact .some (h.mono l)
theorem OaR.slice {ρ:Ren} {x y:Option Addr} (h:OaR ρ x y) (l c:Nat):VR ρ (.slice x l c) (.slice y l c):=by
 cases h with
 | none=>exact .slice0 l c
 | some h=>exact .slice l c h
section
variable {P:Program} {ρ:Ren}
theorem SR_append [Zeros P] (ts:Array TypeId) (t:TypeId) {xs ys:Array Value} (h:VsR ρ xs ys):SR P VR ρ (Builtin.append_ ts t xs) (Builtin.append_ ts t ys):=by
 unfold Builtin.append_
 have ho:=h.opt 0
 have ho1:=h.opt 1
 generalize xs[0]? = x0,ys[0]? = y0 at ho
 generalize xs[1]? = x1,ys[1]? = y1 at ho1
 cases ts[0]? with
 | none=>exact SR_stuck
 | some st =>
  cases ho with
  | none=>exact SR_stuck
  | @some s s' hs =>
   cases ho1 with
   | none=>exact SR_stuck
   | @some x x' hx =>
    refine SR.bind (SR_underlying st) fun ρ1 d d' l1 e=>?_
    obtain ⟨rfl,_⟩:=e
    cases d with
    | slice elem =>
     have hs1:=hs.mono l1
     have hx1:=hx.mono l1
     have main:∀ (base base':Option Addr) (sLen sCap:Nat),OaR ρ1 base base'→SR P VR ρ1
       (do
        let size ←sizeOf elem
        let zeros ←match ts[1]? with
         | some xType=>do pure ((←underlying xType) matches .int _)
         | none=>pure false
        let n ←if zeros then do
          let l:=IntKind.i64.wrap (←asInt x)
          if l < 0 then runtimePanic (.error "makeslice: len out of range")
          if l * (←typeInfo elem).bytes > 2 ^ 48 then
           let made ←choose (.extern "append.ofMake.carriedOut" 2)
           runtimePanic (.error (if made == 1 then "makeslice: len out of range" else "growslice: len out of range"))
          pure l.toNat
         else Builtin.lenOf x
        let appended:Sem (Array Value) :=
         if !zeros then Builtin.firstCells size n x
         else if n * size=0 then pure #[]
         else do pure (Builtin.zeroCells (←zeroValue elem).cells n)
        let need:=sLen+n
        if need≤sCap then
         let new ←appended
         if let some a:=base then storeCells (a.add (sLen * size)) new.toList
         pure (.slice base need sCap)
        else
         if (need:Int) > IntKind.i64.max∧(zeros∨(←typeInfo elem).bytes=0) then runtimePanic (.error "growslice: len out of range")
         if Builtin.nextslicecap need sCap * (←typeInfo elem).bytes > 2 ^ 48 then (if zeros then runtimePanic (.error "growslice: len out of range") else do
          if !(←Builtin.mayShare size sLen n base x) then mark .noRoom
          unsupported (.resourceLimit "append: a slice or a string whose bytes no memory bears"))
         let newCap ←choose (.appendCap need sCap elem)
         askRoom (newCap * (←typeInfo elem).bytes)
         let old ←Builtin.firstCells size sLen (.slice base sLen sCap)
         let new ←appended
         let rest:=Builtin.zeroCells (←zeroValue elem).cells (newCap - need)
         pure (.slice (some (←newRow elem (old++new++rest))) need newCap))
       (do
        let size ←sizeOf elem
        let zeros ←match ts[1]? with
         | some xType=>do pure ((←underlying xType) matches .int _)
         | none=>pure false
        let n ←if zeros then do
          let l:=IntKind.i64.wrap (←asInt x')
          if l < 0 then runtimePanic (.error "makeslice: len out of range")
          if l * (←typeInfo elem).bytes > 2 ^ 48 then
           let made ←choose (.extern "append.ofMake.carriedOut" 2)
           runtimePanic (.error (if made == 1 then "makeslice: len out of range" else "growslice: len out of range"))
          pure l.toNat
         else Builtin.lenOf x'
        let appended:Sem (Array Value) :=
         if !zeros then Builtin.firstCells size n x'
         else if n * size=0 then pure #[]
         else do pure (Builtin.zeroCells (←zeroValue elem).cells n)
        let need:=sLen+n
        if need≤sCap then
         let new ←appended
         if let some a:=base' then storeCells (a.add (sLen * size)) new.toList
         pure (.slice base' need sCap)
        else
         if (need:Int) > IntKind.i64.max∧(zeros∨(←typeInfo elem).bytes=0) then runtimePanic (.error "growslice: len out of range")
         if Builtin.nextslicecap need sCap * (←typeInfo elem).bytes > 2 ^ 48 then (if zeros then runtimePanic (.error "growslice: len out of range") else do
          if !(←Builtin.mayShare size sLen n base' x') then mark .noRoom
          unsupported (.resourceLimit "append: a slice or a string whose bytes no memory bears"))
         let newCap ←choose (.appendCap need sCap elem)
         askRoom (newCap * (←typeInfo elem).bytes)
         let old ←Builtin.firstCells size sLen (.slice base' sLen sCap)
         let new ←appended
         let rest:=Builtin.zeroCells (←zeroValue elem).cells (newCap - need)
         pure (.slice (some (←newRow elem (old++new++rest))) need newCap)):=by
      intro base base' sLen sCap hb
      refine SR.bind (SR_sizeOf elem) fun ρ2 size size' l2 e=>?_
      obtain ⟨rfl,_⟩:=e
      have hb2:=hb.mono l2
      have hx2:=hx1.mono l2
      have behind:∀ (ρ3:Ren) (zeros:Bool) (n:Nat),ρ2.le ρ3→SR P VR ρ3
        (do
         let appended:Sem (Array Value) :=
          if !zeros then Builtin.firstCells size n x
          else if n * size=0 then pure #[]
          else do pure (Builtin.zeroCells (←zeroValue elem).cells n)
         let need:=sLen+n
         if need≤sCap then
          let new ←appended
          if let some a:=base then storeCells (a.add (sLen * size)) new.toList
          pure (.slice base need sCap)
         else
          if (need:Int) > IntKind.i64.max∧(zeros∨(←typeInfo elem).bytes=0) then runtimePanic (.error "growslice: len out of range")
          if Builtin.nextslicecap need sCap * (←typeInfo elem).bytes > 2 ^ 48 then (if zeros then runtimePanic (.error "growslice: len out of range") else do
           if !(←Builtin.mayShare size sLen n base x) then mark .noRoom
           unsupported (.resourceLimit "append: a slice or a string whose bytes no memory bears"))
          let newCap ←choose (.appendCap need sCap elem)
          askRoom (newCap * (←typeInfo elem).bytes)
          let old ←Builtin.firstCells size sLen (.slice base sLen sCap)
          let new ←appended
          let rest:=Builtin.zeroCells (←zeroValue elem).cells (newCap - need)
          pure (.slice (some (←newRow elem (old++new++rest))) need newCap))
        (do
         let appended:Sem (Array Value) :=
          if !zeros then Builtin.firstCells size n x'
          else if n * size=0 then pure #[]
          else do pure (Builtin.zeroCells (←zeroValue elem).cells n)
         let need:=sLen+n
         if need≤sCap then
          let new ←appended
          if let some a:=base' then storeCells (a.add (sLen * size)) new.toList
          pure (.slice base' need sCap)
         else
          if (need:Int) > IntKind.i64.max∧(zeros∨(←typeInfo elem).bytes=0) then runtimePanic (.error "growslice: len out of range")
          if Builtin.nextslicecap need sCap * (←typeInfo elem).bytes > 2 ^ 48 then (if zeros then runtimePanic (.error "growslice: len out of range") else do
           if !(←Builtin.mayShare size sLen n base' x') then mark .noRoom
           unsupported (.resourceLimit "append: a slice or a string whose bytes no memory bears"))
          let newCap ←choose (.appendCap need sCap elem)
          askRoom (newCap * (←typeInfo elem).bytes)
          let old ←Builtin.firstCells size sLen (.slice base' sLen sCap)
          let new ←appended
          let rest:=Builtin.zeroCells (←zeroValue elem).cells (newCap - need)
          pure (.slice (some (←newRow elem (old++new++rest))) need newCap)):=by
       intro ρ3 zeros n l3
       have hb3:=hb2.mono l3
       have hx3:=hx2.mono l3
       have app:∀ (ρ4:Ren),ρ3.le ρ4→SR P VsR ρ4
         (if !zeros then Builtin.firstCells size n x
          else if n * size=0 then pure #[]
          else do pure (Builtin.zeroCells (←zeroValue elem).cells n))
         (if !zeros then Builtin.firstCells size n x'
          else if n * size=0 then pure #[]
          else do pure (Builtin.zeroCells (←zeroValue elem).cells n)):=fun ρ4 l4 =>
        SR.ite (fun _=>SR_firstCells _ _ (hx3.mono l4)) fun _=>SR.ite (fun _=>SR_ret (VsR.nil _)) fun _ =>
         SR.bind (SR_zeroValue elem) fun ρ5 z z' _ hz=>by obtain ⟨rfl,hz⟩:=hz;exact SR_ret ((hz ρ5).cells.zeros n)
       (try dsimp only)
       refine SR.ite (fun _=>?_) fun _=>?_
       ·refine SR.bind (app ρ3 (Ren.le_refl _)) fun ρ4 c c' l4 hc=>?_
        have hb4:=hb3.mono l4
        cases hb4 with
        | none=>exact SR_ret (.slice0 _ _)
        | some ha=>exact SR.bind (SR_storeCells 0 (ha.add _) hc.list) fun ρ5 _ _ l5 _=>SR_ret (.slice _ _ (ha.mono l5))
       ·refine SR.bind (SR_typeInfo elem) fun ρ4 i i' l4 e=>?_
        obtain ⟨rfl,_⟩:=e
        (try dsimp only)
        refine SR.ite (fun hc=>?_) (fun hc=>?_)
        ·exact SR.bind (R:=fun _ _ _=>False) (SR_panicOf (.error _) trivial) fun _ _ _ _ h=>h.elim
        refine SR.bind (SR_typeInfo elem) fun ρ5 j j' l5 e=>?_
        obtain ⟨rfl,_⟩:=e
        refine SR.ite (fun _=>?_) fun _=>?_
        ·refine SR.bind (R:=fun _ _ _=>False) (SR.ite (fun _=>SR_panicOf (.error _) trivial) fun _=>?_) fun _ _ _ _ h=>h.elim
         refine SR_share _ _ _ _ _ _ _ fun b=>?_
         cases b with
         | false=>exact SR.roomL SR_unsupported
         | true=>exact SR_unsupported
        ·refine SR.bind (SR_choose _) fun ρ6 c c' l6 e=>?_
         subst e
         refine SR.bind (SR_typeInfo elem) fun ρ7 k k' l7 e=>?_
         obtain ⟨rfl,_⟩:=e
         refine SR.bind (SR_room _) fun ρ8 _ _ l8 _=>?_
         have l38:ρ3.le ρ8:=Ren.le_trans l4 (Ren.le_trans l5 (Ren.le_trans l6 (Ren.le_trans l7 l8)))
         refine SR.bind (SR_firstCells size sLen ((hb3.mono l38).slice _ _)) fun ρ9 old old' l9 hold=>?_
         refine SR.bind (app ρ9 (Ren.le_trans l38 l9)) fun ρ10 new new' l10 hnew=>?_
         refine SR.bind (SR_zeroValue elem) fun ρ11 z z' l11 hz=>?_
         obtain ⟨rfl,hz⟩:=hz
         exact SR.bind (SR_newRow elem ((((hold.mono l10).mono l11).append (hnew.mono l11)).append ((hz ρ11).cells.zeros _))) fun ρ12 a a' _ ha=>SR_ret (.slice _ _ ha)
      (try dsimp only)
      cases ts[1]? with
      | none =>
       refine SR.bind (R:=fun _ a b=>a=b) (SR_ret rfl) fun ρ3 z z' l3 e=>?_
       subst e
       (try dsimp only)
       refine SR.ite (fun hz=>?_) (fun hz=>?_)
       ·refine SR.bind (SR_asInt (hx2.mono l3)) fun σ4 n n' m4 e=>?_
        subst e
        (try dsimp only)
        refine SR.ite (fun _=>?_) (fun _=>?_)
        ·exact SR.bind (R:=fun _ _ _=>False) (SR_panicOf (.error _) trivial) fun _ _ _ _ h=>h.elim
        refine SR.bind (SR_typeInfo elem) fun σ5 j j' m5 e=>?_
        obtain ⟨rfl,_⟩:=e
        refine SR.ite (fun _=>?_) (fun _=>?_)
        ·refine SR.bind (SR_choose _) fun σ6 c c' m6 e=>?_
         subst e
         exact SR.bind (R:=fun _ _ _=>False) (SR_panicOf (.error _) trivial) fun _ _ _ _ h=>h.elim
        exact SR.bind (R:=fun _ a b=>a=b) (SR_ret rfl) fun σ6 a b m6 e=>by subst e;exact behind σ6 z a (Ren.le_trans l3 (Ren.le_trans m4 (Ren.le_trans m5 m6)))
       ·refine SR.bind (SR_lenOf (hx2.mono l3)) fun σ4 n n' m4 e=>?_
        subst e
        exact behind σ4 z n (Ren.le_trans l3 m4)
      | some xt =>
       refine SR.bind (SR_underlying xt) fun ρ3 d d' l3 e=>?_
       obtain ⟨rfl,_⟩:=e
       refine SR.bind (R:=fun _ a b=>a=b) (SR_ret rfl) fun ρ4 z z' l4 e=>?_
       subst e
       (try dsimp only)
       refine SR.ite (fun hz=>?_) (fun hz=>?_)
       ·refine SR.bind (SR_asInt (hx2.mono (Ren.le_trans l3 l4))) fun σ4 n n' m4 e=>?_
        subst e
        (try dsimp only)
        refine SR.ite (fun _=>?_) (fun _=>?_)
        ·exact SR.bind (R:=fun _ _ _=>False) (SR_panicOf (.error _) trivial) fun _ _ _ _ h=>h.elim
        refine SR.bind (SR_typeInfo elem) fun σ5 j j' m5 e=>?_
        obtain ⟨rfl,_⟩:=e
        refine SR.ite (fun _=>?_) (fun _=>?_)
        ·refine SR.bind (SR_choose _) fun σ6 c c' m6 e=>?_
         subst e
         exact SR.bind (R:=fun _ _ _=>False) (SR_panicOf (.error _) trivial) fun _ _ _ _ h=>h.elim
        exact SR.bind (R:=fun _ a b=>a=b) (SR_ret rfl) fun σ6 a b m6 e=>by subst e;exact behind σ6 z a (Ren.le_trans (Ren.le_trans l3 l4) (Ren.le_trans m4 (Ren.le_trans m5 m6)))
       ·refine SR.bind (SR_lenOf (hx2.mono (Ren.le_trans l3 l4))) fun σ4 n n' m4 e=>?_
        subst e
        exact behind σ4 z n (Ren.le_trans (Ren.le_trans l3 l4) m4)
     cases hs1 with
     | slice0 l c=>exact main none none l c .none
     | slice l c ha=>exact main (some _) (some _) l c (.some ha)
     | _=>exact SR_stuck
    | _=>exact SR_stuck
end
end Go.Proofs.YtjnkcibpkkjniaaGreat.Sim
namespace Go.Proofs.YtjnkcibpkkjniaaGreat.Sim
variable [Scope]
def okBuiltin:Builtin→Bool
 | .len | .cap | .append | .copy | .min | .max | .panic | .recover=>true
 | _=>false
inductive DR (ρ:Ren):Deferred→Deferred→Prop
 | fn {f:FuncId} {c c' a a':Array Value}:Scope.ok f=true→VsR ρ c c'→VsR ρ a a'→DR ρ ⟨.fn (.func f) c,a⟩ ⟨.fn (.func f) c',a'⟩
 | nil {a a':Array Value}:VsR ρ a a'→DR ρ ⟨.nil,a⟩ ⟨.nil,a'⟩
 | builtin {b:Builtin} {ts:Array TypeId} {t:TypeId} {cs:Array Bool} {a a':Array Value}:okBuiltin b=true→VsR ρ a a'→DR ρ ⟨.builtin b ts t cs,a⟩ ⟨.builtin b ts t cs,a'⟩
theorem DR.mono {ρ ρ':Ren} {d d':Deferred} (h:DR ρ d d') (l:ρ.le ρ'):DR ρ' d d':=by
 cases h with
 | fn h1 h2 h3=>exact .fn h1 (h2.mono l) (h3.mono l)
 | nil h=>exact .nil (h.mono l)
 | builtin h1 h2=>exact .builtin h1 (h2.mono l)
inductive NR (ρ:Ren):Next→Next→Prop
 | value {v v':Value}:VR ρ v v'→NR ρ (.value v) (.value v')
 | skip:NR ρ .skip .skip
 | enter {f:FuncId} {a a':Array Value}:Scope.ok f=true→VsR ρ a a'→NR ρ (.enter f a) (.enter f a')
 | defer {d d':Deferred}:DR ρ d d'→NR ρ (.defer d) (.defer d')
 | recover:NR ρ .recover .recover
class Bodies (P:Program):Prop where
 body:∀ f,Scope.ok f=true→∃ fn,P.funcs[f]? = some fn∧(fn.name == "runtime.NumGoroutine")=false∧fn.body.isNone=false
def okCall (c:Call):Bool :=
 (match c.callee with
  | .value f=>okOperand f
  | .builtin b=>okBuiltin b
  | .invoke _ _=>false) && c.args.all okOperand
def okType (P:Program) (t:TypeId):Bool :=
 match P.underlying t with
 | some .unsafePointer=>false
 | _=>true
def okOper (P:Program) (o:Oper):Bool :=
 match o.op with
 | .move x | .assign x | .box _ x | .load _ x | .nilCheck x | .unOp _ _ x | .makeInterface _ x | .field _ x _ | .extract x _ | .panic x=>okOperand x
 | .pick c a b=>okOperand c && okOperand a && okOperand b
 | .alloc _=>true
 | .build _ ps | .buildSlice _ _ ps=>ps.all fun p=>okOperand p.2
 | .store _ a x | .indexAddr _ a x | .index _ a x | .makeSlice _ a x=>okOperand a && okOperand x
 | .binOp op t x y _=>okOperand x && okOperand y && okType P t && (match op with | .eql | .neq=>eqOk P t x y | _=>true)
 | .convert s d x=>okOperand x && convOk P s d
 | .makeFunc (.func f) a b=>Scope.ok f && a.all okOperand && b.all okOperand
 | .slice t x lo hi mx=>okOperand x && slicePlain P t && lo.all okOperand && hi.all okOperand && mx.all okOperand
 | .fieldAddr s x f=>okOperand x && fieldsFull P s f
 | .typeAssert x _ _ ok=>okOperand x && ok
 | .call c | .defer c=>okCall c
 | _=>false
section
variable {P:Program} {ρ:Ren}
theorem ER.map {f g:Operand→Value} (h:ER ρ f g) {xs:Array Operand} (hx:xs.all okOperand=true):VsR ρ (xs.map f) (xs.map g):=by
 refine ⟨by simp,fun i v v' a b=>?_⟩
 rw [Array.getElem?_map] at a b
 cases e:xs[i]? with
 | none=>rw [e] at a;cases a
 | some x =>
  rw [e] at a b
  cases a;cases b
  exact h.get (Array.all_eq_true_iff_forall_mem.1 hx x (Array.mem_of_getElem? e))
theorem ER.parts {f g:Operand→Value} (h:ER ρ f g) {ps:Array (Nat×Operand)} (hx:ps.all (fun p=>okOperand p.2)=true):PsR ρ (ps.map fun (i,x)=>(i,f x)).toList (ps.map fun (i,x)=>(i,g x)).toList:=by
 obtain ⟨ps⟩:=ps
 simp only [List.map_toArray]
 have:∀ p∈ps,okOperand p.2=true:=fun p hp=>Array.all_eq_true_iff_forall_mem.1 hx p (by simpa using hp)
 clear hx
 induction ps with
 | nil=>exact .nil
 | cons p ps ih =>
  obtain ⟨i,x⟩:=p
  exact .cons (h.get (this (i,x) (by simp))) (ih fun p hp=>this p (by simp [hp]))
theorem ER.opt {f g:Operand→Value} (h:ER ρ f g) {x:Option Operand} (hx:x.all okOperand=true):OvR ρ (x.map f) (x.map g):=by
 cases x with
 | none=>exact .none
 | some x=>exact .some (h.get (by simpa using hx))
theorem SR_resolve (c:Call) (t:TypeId) (hc:okCall c=true) {f g:Operand→Value} (h:ER ρ f g):SR P DR ρ (resolve f c t) (resolve g c t):=by
 unfold okCall at hc
 simp only [Bool.and_eq_true] at hc
 have ha:=h.map hc.2
 unfold resolve
 cases hcal:c.callee with
 | value x =>
  rw [hcal] at hc
  have hv:=h.get hc.1
  unfold Deferred.ofValue
  simp only
  generalize f x=v,g x=v' at hv ⊢
  cases hv with
  | @func q xs xs' ys ys' h1 h2 h3 h4 h5=>exact SR_ret (.fn h1 ⟨h4,h5⟩ ((VsR.mk h2 h3).append ha))
  | nilFunc=>exact SR_ret (.nil ha)
  | _=>exact SR_stuck
 | builtin b =>
  rw [hcal] at hc
  exact SR_ret (.builtin hc.1 ha)
 | invoke x n=>rw [hcal] at hc;simp at hc
theorem SR_builtin [Zeros P] (b:Builtin) (ts:Array TypeId) (t:TypeId) (cs:Array Bool) (hb:okBuiltin b=true) {a a':Array Value} (h:VsR ρ a a'):SR P NR ρ (builtin b ts t cs a) (builtin b ts t cs a'):=by
 have val:∀ {x y:Sem Value},SR P VR ρ x y→SR P NR ρ (do pure (.value (←x))) (do pure (.value (←y))):=fun h=>SR.bind h fun _ _ _ _ hv=>SR_ret (.value hv)
 unfold builtin
 cases b <;> first
  | exact val (SR_len _ _ h)
  | exact val (SR_cap _ _ h)
  | exact val (SR_append _ _ h)
  | exact val (SR_copy _ _ h)
  | exact val (SR_min _ _ h)
  | exact val (SR_max _ _ h)
  | exact val (SR_panicAny (h.getD 0 .nilIface))
  | exact SR_ret .recover
  | simp [okBuiltin] at hb
theorem SR_invoke [Zeros P] [Bodies P] {d d':Deferred} (h:DR ρ d d'):SR P NR ρ (invoke d.target d.args) (invoke d'.target d'.args):=by
 cases h with
 | @fn f c c' a a' h1 h2 h3 =>
  show SR P NR ρ (callFunc f (a++c)) (callFunc f (a'++c'))
  obtain ⟨fn,e1,e2,e3⟩:=Bodies.body (P:=P) f h1
  unfold callFunc
  refine SR_prog ?_
  simp only [e1,e2,e3,Bool.false_eq_true,if_false]
  exact SR_ret (.enter h1 (h3.append h2))
 | nil h=>exact SR_panicOf .nilDeref trivial
 | builtin hb h=>exact SR_builtin _ _ _ _ hb h
theorem SR_execOp [Zeros P] [Bodies P] (o:Oper) (ho:okOper P o=true) {f g:Operand→Value} (h:ER ρ f g):SR P NR ρ (execOp f o) (execOp g o):=by
 have val:∀ {x y:Sem Value},SR P VR ρ x y→SR P NR ρ (do pure (.value (←x))) (do pure (.value (←y))):=fun h=>SR.bind h fun _ _ _ _ hv=>SR_ret (.value hv)
 have unt:∀ {x y:Sem Unit},SR P (fun _ _ _=>True) ρ x y→SR P NR ρ (do x;pure .skip) (do y;pure .skip):=fun h=>SR.bind h fun _ _ _ _ hv=>SR_ret .skip
 unfold okOper at ho
 unfold execOp
 (try dsimp only)
 cases hop:o.op with
 | move x=>rw [hop] at ho;exact SR_ret (.value (h.get ho))
 | assign x=>rw [hop] at ho;exact SR_ret (.value (h.get ho))
 | pick c a b =>
  rw [hop] at ho
  simp only [Bool.and_eq_true] at ho
  refine SR.bind (SR_asBool (h.get ho.1.1)) fun ρ1 x y l1 e=>?_
  subst e
  cases x with
  | true=>exact SR_ret (.value ((h.mono l1).get ho.1.2))
  | false=>exact SR_ret (.value ((h.mono l1).get ho.2))
 | alloc e=>exact val (SR_alloc e)
 | box e x=>rw [hop] at ho;exact val (SR_box e (h.get ho))
 | build t ps=>rw [hop] at ho;exact val (SR_build t (h.parts ho))
 | buildSlice t n ps=>rw [hop] at ho;exact val (SR_buildSlice t n (h.parts ho))
 | load t a=>rw [hop] at ho;exact val (SR_loadAt t (h.get ho))
 | store t a x=>rw [hop] at ho;simp only [Bool.and_eq_true] at ho;exact unt (SR_storeAt t (h.get ho.1) (h.get ho.2))
 | nilCheck x =>
  rw [hop] at ho
  have hv:=h.get ho
  simp only
  generalize f x=v,g x=v' at hv ⊢
  cases hv with
  | ptr0=>exact SR_panicOf .nilDeref trivial
  | nilIface=>exact SR_panicOf .nilDeref trivial
  | nilFunc=>exact SR_panicOf .nilDeref trivial
  | ptr ha=>exact SR_ret (.value (.ptr ha))
  | _=>exact SR_ret (.value (by constructor <;> assumption))
 | binOp op t x y yt =>
  rw [hop] at ho
  simp only [Bool.and_eq_true] at ho
  have ht:∀ d,P.underlying t=some d→d≠.unsafePointer:=fun d hd e=>by
   have:=ho.1.2
   unfold okType at this
   rw [hd,e] at this
   cases this
  have heq:(op=.eql∨op=.neq)→eqOk P t x y=true:=by
   intro hop
   have:=ho.2
   rcases hop with rfl | rfl <;> exact this
  refine val (SR.bind (SR_eqGuard op t x y heq h ho.1.1.1 ho.1.1.2) fun ρ1 _ _ l1 _=>?_)
  exact SR_binOp op t ht ((h.mono l1).get ho.1.1.1) ((h.mono l1).get ho.1.1.2) fun hq=>SR_equal t x y (heq hq) (h.mono l1) ho.1.1.1 ho.1.1.2
 | unOp op t x=>rw [hop] at ho;exact val (SR_unary op (h.get ho))
 | convert s d x=>rw [hop] at ho;simp only [Bool.and_eq_true] at ho;exact val (SR_convert s d ho.2 (h.get ho.1))
 | makeInterface t x=>rw [hop] at ho;exact val (SR_makeInterface t (h.get ho))
 | makeFunc fn a b =>
  rw [hop] at ho
  cases fn with
  | func q =>
   simp only [Bool.and_eq_true] at ho
   exact val (SR_ret (VsR.func ho.1.1 (h.map ho.1.2) (h.map ho.2)))
  | _=>simp at ho
 | makeSlice t l c=>rw [hop] at ho;simp only [Bool.and_eq_true] at ho;exact val (SR_makeSlice t (h.get ho.1) (h.get ho.2))
 | slice t x lo hi mx =>
  rw [hop] at ho
  simp only [Bool.and_eq_true] at ho
  exact val (SR_sliceAt t ho.1.1.1.2 (h.get ho.1.1.1.1) (h.opt ho.1.1.2) (h.opt ho.1.2) (h.opt ho.2))
 | fieldAddr s x q=>rw [hop] at ho;simp only [Bool.and_eq_true] at ho;exact val (SR_fieldAt s q ho.2 (h.get ho.1))
 | field t x q=>rw [hop] at ho;exact val (SR_field t (h.get ho) q)
 | indexAddr t x i=>rw [hop] at ho;simp only [Bool.and_eq_true] at ho;exact val (SR_indexAt t (h.get ho.1) (h.get ho.2))
 | index t x i=>rw [hop] at ho;simp only [Bool.and_eq_true] at ho;exact val (SR_index t (h.get ho.1) (h.get ho.2))
 | typeAssert x t a ok =>
  rw [hop] at ho
  simp only [Bool.and_eq_true] at ho
  rw [ho.2]
  exact val (SR_typeAssert t a (h.get ho.1))
 | extract x i=>rw [hop] at ho;exact val (SR_extract (h.get ho) i)
 | call c =>
  rw [hop] at ho
  exact SR.bind (SR_resolve c _ ho h) fun ρ1 d d' _ hd=>SR_invoke hd
 | defer c =>
  rw [hop] at ho
  exact SR.bind (SR_resolve c _ ho h) fun ρ1 d d' _ hd=>SR_ret (.defer hd)
 | panic x=>rw [hop] at ho;exact val (SR_panicAny (h.get ho))
 | _=>rw [hop] at ho;simp at ho
end
end Go.Proofs.YtjnkcibpkkjniaaGreat.Sim
namespace Go.Proofs.YtjnkcibpkkjniaaGreat.Sim
variable [Scope]
def okCode (P:Program):Code→Bool
 | .skip | .exit _ | .ret | .label _ | .refuse _=>true
 | .region _ ops _=>ops.all (okOper P)
 | .seq a b=>okCode P a && okCode P b
 | .cond c a b=>okOperand c && okCode P a && okCode P b
 | .block _ b | .loop b | .scope b=>okCode P b
 | .goto _ | .rangeFunc ..=>false
def okItem (P:Program):Item→Bool
 | .code c=>okCode P c
 | .inBlock _=>true
 | .inLoop b | .inScope b=>okCode P b
 | .inRegion ops _=>ops.all (okOper P)
 | _=>false
class Codes (P:Program):Prop extends Bodies P where
 code:∀ f fn c,Scope.ok f=true→P.funcs[f]? = some fn→fn.body=some c→okCode P c=true
inductive EsR (ρ:Ren):List PanicEntry→List PanicEntry→Prop
 | nil:EsR ρ [] []
 | cons {v v':Value} {r g:Bool} {xs ys:List PanicEntry}:VR ρ v v'→EsR ρ xs ys→EsR ρ (⟨v,r,g⟩::xs) (⟨v',r,g⟩::ys)
theorem EsR.mono {ρ ρ':Ren} {x y:List PanicEntry} (h:EsR ρ x y) (l:ρ.le ρ'):EsR ρ' x y:=by
 induction h with
 | nil=>exact .nil
 | cons h _ ih=>exact .cons (h.mono l) ih
theorem EsR.append {ρ:Ren} {x y x' y':List PanicEntry} (h:EsR ρ x y) (k:EsR ρ x' y'):EsR ρ (x++x') (y++y'):=by
 induction h with
 | nil=>exact k
 | cons h _ ih=>exact .cons h ih
inductive MR (ρ:Ren):FrameMode→FrameMode→Prop
 | run:MR ρ .run .run
 | returning:MR ρ .returning .returning
 | panicking {x y:List PanicEntry}:EsR ρ x y→MR ρ (.panicking x) (.panicking y)
theorem MR.mono {ρ ρ':Ren} {x y:FrameMode} (h:MR ρ x y) (l:ρ.le ρ'):MR ρ' x y:=by
 cases h with
 | run=>exact .run
 | returning=>exact .returning
 | panicking h=>exact .panicking (h.mono l)
inductive DsR (ρ:Ren):List Deferred→List Deferred→Prop
 | nil:DsR ρ [] []
 | cons {x y:Deferred} {xs ys:List Deferred}:DR ρ x y→DsR ρ xs ys→DsR ρ (x::xs) (y::ys)
theorem DsR.mono {ρ ρ':Ren} {x y:List Deferred} (h:DsR ρ x y) (l:ρ.le ρ'):DsR ρ' x y:=by
 induction h with
 | nil=>exact .nil
 | cons h _ ih=>exact .cons (h.mono l) ih
structure FrR (P:Program) (ρ:Ren) (a b:Frame):Prop where
 fn:b.fn=a.fn
 ok:Scope.ok a.fn=true
 tmps:VsR ρ a.tmps b.tmps
 todo:b.todo=a.todo
 items:a.todo.all (okItem P)=true
 defers:DsR ρ a.defers b.defers
 mode:MR ρ a.mode b.mode
 kind:b.kind=a.kind
 kinds:a.kind=.normal∨a.kind=.deferred
 round:a.roundOf=none∧b.roundOf=none
theorem FrR.mono {P:Program} {ρ ρ':Ren} {a b:Frame} (h:FrR P ρ a b) (l:ρ.le ρ'):FrR P ρ' a b :=
 ⟨h.fn,h.ok,h.tmps.mono l,h.todo,h.items,h.defers.mono l,h.mode.mono l,h.kind,h.kinds,h.round⟩
inductive FsR (P:Program) (ρ:Ren):List Frame→List Frame→Prop
 | nil:FsR P ρ [] []
 | cons {x y:Frame} {xs ys:List Frame}:FrR P ρ x y→FsR P ρ xs ys→FsR P ρ (x::xs) (y::ys)
theorem FsR.mono {P:Program} {ρ ρ':Ren} {x y:List Frame} (h:FsR P ρ x y) (l:ρ.le ρ'):FsR P ρ' x y:=by
 induction h with
 | nil=>exact .nil
 | cons h _ ih=>exact .cons (h.mono l) ih
def Own (P:Program) (ρ:Ren) (ds cs:List Frame) (fr:Frame) (xs ys:List Frame):Prop :=
 ∃ us vs,xs=us++ds∧ys=vs++cs∧FsR P ρ us vs∧((us.getLast?).getD fr).kind=.normal
structure GR (P:Program) (ρ:Ren) (ds cs:List Frame) (g g':Goroutine):Prop where
 frame:FrR P ρ g.frame g'.frame
 callers:Own P ρ ds cs g.frame g.callers g'.callers
 status:g.status=.running∧g'.status=.running
 dying:g.dying=none∧g'.dying=none
 offers:g.offers=none
theorem VR_undef {ρ:Ren}:VR ρ undef undef:=(VsR.nil ρ).tuple
theorem FrR.eval {P:Program} {ρ:Ren} {a b:Frame} (h:FrR P ρ a b):ER ρ a.eval b.eval :=
 ⟨fun t=>h.tmps.getD t VR_undef,fun c=>⟨rfl,rfl⟩,fun i=>⟨rfl,rfl⟩⟩
theorem FrR.finish {P:Program} {ρ:Ren} {a b:Frame} (h:FrR P ρ a b) {v v':Value} (hv:VR ρ v v'):FrR P ρ (a.finish v) (b.finish v'):=by
 have ht:=h.todo
 have hi:=h.items
 unfold Frame.finish
 rw [ht]
 cases hq:a.todo with
 | nil=>simp only;exact h
 | cons x k =>
  rw [hq] at hi
  simp only [List.all_cons,Bool.and_eq_true] at hi
  cases x with
  | inRegion ops l =>
   cases l with
   | nil=>exact h
   | cons i rest =>
    refine ⟨h.fn,h.ok,?_,rfl,?_,h.defers,h.mode,h.kind,h.kinds,h.round⟩
    ·simp only
     cases (ops[i]?).bind (·.dst) with
     | none=>exact h.tmps
     | some d=>exact h.tmps.set d hv
    ·simp only [List.all_cons,Bool.and_eq_true]
     exact ⟨hi.1,hi.2⟩
  | inRangeFunc=>simp [okItem] at hi
  | beginRound=>simp [okItem] at hi
  | call=>simp [okItem] at hi
  | extern=>simp [okItem] at hi
  | _=>exact h
theorem FrR.raise {P:Program} {ρ:Ren} {a b:Frame} (h:FrR P ρ a b) {x y:List PanicEntry} (hv:EsR ρ x y):FrR P ρ (a.raise x) (b.raise y):=by
 have hm:=h.mode
 unfold Frame.raise
 generalize hA:a.mode=ma at hm
 generalize hB:b.mode=mb at hm
 cases hm with
 | run=>exact ⟨h.fn,h.ok,h.tmps,h.todo,h.items,h.defers, .panicking hv,h.kind,h.kinds,h.round⟩
 | returning=>exact ⟨h.fn,h.ok,h.tmps,h.todo,h.items,h.defers, .panicking hv,h.kind,h.kinds,h.round⟩
 | panicking hq=>exact ⟨h.fn,h.ok,h.tmps,h.todo,h.items,h.defers, .panicking (hv.append hq),h.kind,h.kinds,h.round⟩
theorem FrR.to {P:Program} {ρ:Ren} {a b:Frame} (h:FrR P ρ a b) {k:List Item} (hk:k.all (okItem P)=true):FrR P ρ { a with todo:=k } { b with todo:=k } :=
 ⟨h.fn,h.ok,h.tmps,rfl,hk,h.defers,h.mode,h.kind,h.kinds,h.round⟩
theorem enter_alike {P:Program} [Codes P] {ρ:Ren} {f:FuncId} (hf:Scope.ok f=true) {a a':Array Value} (h:VsR ρ a a') {k:CallKind} (hk:k=.normal∨k=.deferred):FrR P ρ (Frame.enter P f a k) (Frame.enter P f a' k):=by
 obtain ⟨fn,e1,e2,e3⟩:=Bodies.body (P:=P) f hf
 cases hb:fn.body with
 | none=>rw [hb] at e3;cases e3
 | some c =>
  have hc:=Codes.code (P:=P) f fn c hf e1 hb
  refine ⟨rfl,hf,?_,rfl,?_, .nil, .run,rfl,hk,rfl,rfl⟩
  ·unfold Frame.enter
   simp only [e1,←h.size]
   exact h.append (VsR.replicate _ VR_undef)
  ·unfold Frame.enter
   simp only [e1,Option.bind_some,hb,Option.getD_some,List.all_cons,List.all_nil,Bool.and_true]
   exact hc
def wof:GStep→World
 | .go _ w _ | .comm _ _ _ _ w _ | .spawn _ _ w _ | .count _ w _ | .timer _ _ w _ | .alone _ _ w _ | .newcoro _ _ _ w _ | .coroswitch _ _ _ w _ | .collect _ w _ | .watch _ w _ | .ended _ w _=>w
theorem wof_after (es:Array Event) (s:GStep):wof (s.after es)=wof s:=by cases s <;> rfl
def Plain (s:GStep):Prop:=(∃ o w es,s=.ended o w es)∨∃ h w es,s=.go h w es∧h.status=.running∧h.dying=none∧h.offers=none
theorem Plain.after {s:GStep} (h:Plain s) (l:Array Event):Plain (s.after l):=by
 rcases h with ⟨o,w,es,rfl⟩ | ⟨g,w,es,rfl,h1,h2,h3⟩
 ·exact .inl ⟨_,_,_,rfl⟩
 ·exact .inr ⟨_,_,_,rfl,h1,h2,h3⟩
structure StepR (P:Program) (ρ:Ren) (L:Lim) (ds cs:List Frame) (wB:World) (s s':GStep):Prop where
 plain:L.upto=none→Plain s
 go_:∀ h wS es,s=.go h wS es→Fits L (wof s')→∃ h' wB' es' ρ',s'=.go h' wB' es'∧Grow ρ wB ρ'∧GR P ρ' ds cs h h'∧HR ρ' wS wB'∧TA L wS wB'∧Kept ρ wB wB'∧∀ e∈es',EvOk ρ' e
section
variable {P:Program} {ρ:Ren} {L:Lim} {ds cs:List Frame} {wS wB:World}
theorem Fits.down {w w':World} (h:Fits L w') (k:w.drawn≤w'.drawn):Fits L w:=fun l hl=>Nat.le_trans k (h l hl)
theorem StepR.ended {o:Outcome} {w:World} {es:Array Event} {s':GStep}:StepR P ρ L ds cs wB (.ended o w es) s':=⟨fun _=>.inl ⟨_,_,_,rfl⟩,fun h wS es e=>by cases e⟩
theorem StepR.go {g g':Goroutine} {w w':World} {ρ':Ren} {es es':Array Event} (hg:Grow ρ wB ρ') (h:GR P ρ' ds cs g g') (hh:HR ρ' w w') (ht:TA L w w') (hk:Kept ρ wB w') (he:∀ e∈es',EvOk ρ' e) :
  StepR P ρ L ds cs wB (.go g w es) (.go g' w' es'):=⟨fun _=>.inr ⟨_,_,_,rfl,h.status.1,h.dying.1,h.offers⟩,fun h1 w1 es1 e _=>by cases e;exact ⟨_,_,_,ρ',rfl,hg,h,hh,ht,hk,he⟩⟩
theorem StepR.needs {s s':GStep} {w0:World} (hm:w0.drawn≤(wof s').drawn) (k:Fits L w0→StepR P ρ L ds cs wB s s'):StepR P ρ L ds cs wB s s' :=
 ⟨fun e=>(k fun l hl=>by rw [e] at hl;cases hl).plain e,fun h1 w1 es1 e q=>(k (q.down hm)).go_ h1 w1 es1 e q⟩
theorem StepR.after {s s':GStep} {l l':Array Event} (hl:∀ e∈l',EvOk ρ e) (h:StepR P ρ L ds cs wB s s'):StepR P ρ L ds cs wB (GStep.after l s) (GStep.after l' s'):=by
 refine ⟨fun e=>(h.plain e).after l,?_⟩
 intro h1 w1 es1 e q3
 rw [wof_after] at q3
 cases s with
 | go g w es =>
  simp only [GStep.after] at e
  cases e
  obtain ⟨h',wB',es',ρ',rfl,r1,r2,r3,r4,r5,r6⟩:=h.go_ _ _ _ rfl q3
  refine ⟨_,_,_,ρ',rfl,r1,r2,r3,r4,r5,fun e he=>?_⟩
  rcases Array.mem_append.1 he with he | he
  ·exact (hl e he).mono r1.le
  ·exact r6 e he
 | _=>simp [GStep.after] at e
theorem seen_sub {fn:FuncId} {es:Array Event} {e:Event} (h:e∈seen P fn es):e∈es:=by
 dsimp only [seen] at h
 rw [←Array.foldl_toList] at h
 have key:∀ (l:List Event) (x:Bool×Array Event),e∈(l.foldl (fun (x:Bool×Array Event) e=>match e.loc with
   | .mark (.extern f)=>((P.funcs[f]?).any (·.norace),x.2)
   | _=>(x.1,if (x.1 && !e.sync)=true then x.2 else x.2.push e)) x).2→e∈x.2∨e∈l:=by
  intro l
  induction l with
  | nil=>exact fun x hx=>.inl hx
  | cons a l ih =>
   intro x hx
   simp only [List.foldl_cons] at hx
   rcases ih _ hx with h1 | h1
   ·split at h1
    ·exact .inl h1
    ·simp only at h1
     split at h1
     ·exact .inl h1
     ·rcases Array.mem_push.1 h1 with h2 | rfl
      ·exact .inl h2
      ·exact .inr (by simp)
   ·exact .inr (by simp [h1])
 rcases key es.toList _ h with h1 | h1
 ·simp at h1
 ·exact Array.mem_toList_iff.1 h1
end
end Go.Proofs.YtjnkcibpkkjniaaGreat.Sim
namespace Go.Proofs.YtjnkcibpkkjniaaGreat.Sim
variable [Scope]
section
variable {P:Program} {ρ:Ren} {L:Lim} {ds cs:List Frame} {wS wB:World}
structure CR (P:Program) (ρ:Ren) (ds cs:List Frame) (fr:Frame) (xs:List Frame) (fr':Frame) (ys:List Frame):Prop where
 frame:FrR P ρ fr fr'
 callers:Own P ρ ds cs fr xs ys
theorem CR.mono {ρ':Ren} {fr fr':Frame} {xs ys:List Frame} (h:CR P ρ ds cs fr xs fr' ys) (l:ρ.le ρ'):CR P ρ' ds cs fr xs fr' ys:=by
 obtain ⟨us,vs,e1,e2,k,b⟩:=h.callers
 exact ⟨h.frame.mono l,us,vs,e1,e2,k.mono l,b⟩
theorem CR.gr {fr fr':Frame} {xs ys:List Frame} (h:CR P ρ ds cs fr xs fr' ys):GR P ρ ds cs { frame:=fr,callers:=xs,status:=.running,dying:=none } { frame:=fr',callers:=ys,status:=.running,dying:=none } :=
 ⟨h.frame,h.callers,⟨rfl,rfl⟩,⟨rfl,rfl⟩,rfl⟩
theorem CR.with {fr fr' g g':Frame} {xs ys:List Frame} (h:CR P ρ ds cs fr xs fr' ys) (k:FrR P ρ g g') (e:g.kind=fr.kind):CR P ρ ds cs g xs g' ys:=by
 obtain ⟨us,vs,e1,e2,q,b⟩:=h.callers
 refine ⟨k,us,vs,e1,e2,q,?_⟩
 cases hx:us.getLast? with
 | none=>rw [hx] at b;simpa [e] using b
 | some x=>rw [hx] at b;simpa using b
theorem CR.push {fr fr' g g':Frame} {xs ys:List Frame} (h:CR P ρ ds cs fr xs fr' ys) (k:FrR P ρ g g'):CR P ρ ds cs g (fr::xs) g' (fr'::ys):=by
 obtain ⟨us,vs,rfl,rfl,q,b⟩:=h.callers
 refine ⟨k,fr::us,fr'::vs,rfl,rfl, .cons h.frame q,?_⟩
 rw [List.getLast?_cons]
 simpa using b
theorem CR.pop {fr fr':Frame} {xs ys:List Frame} (h:CR P ρ ds cs fr xs fr' ys) (hx:xs≠ds):∃ c zs c' zs',xs=c::zs∧ys=c'::zs'∧CR P ρ ds cs c zs c' zs':=by
 obtain ⟨us,vs,rfl,rfl,q,b⟩:=h.callers
 cases q with
 | nil=>exact absurd rfl hx
 | @cons c c' us' vs' h1 h2 =>
  refine ⟨c,us'++ds,c',vs'++cs,rfl,rfl,h1,us',vs',rfl,rfl,h2,?_⟩
  rw [List.getLast?_cons] at b
  simpa using b
theorem recover_alike {fr fr':Frame} {xs ys:List Frame} (h:CR P ρ ds cs fr xs fr' ys) :
  (tryRecover fr xs=none∧tryRecover fr' ys=none)∨∃ v v' xs' ys',tryRecover fr xs=some (v,xs')∧tryRecover fr' ys=some (v',ys')∧VR ρ v v'∧CR P ρ ds cs fr xs' fr' ys':=by
 have hk:=h.frame.kind
 rcases h.frame.kinds with hn | hn
 ·refine .inl ⟨?_,?_⟩
  ·unfold tryRecover;rw [hn]
  ·unfold tryRecover;rw [hk,hn]
 ·have hx:xs≠ds:=by
   obtain ⟨us,vs,rfl,_,q,b⟩:=h.callers
   cases q with
   | nil=>simp at b;rw [hn] at b;cases b
   | @cons c _ us' _ _ _=>intro e;have:=congrArg List.length e;simp at this;omega
  obtain ⟨c,xs,c',zs,rfl,rfl,hc⟩:=h.pop hx
  have hm:=hc.frame.mode
  unfold tryRecover
  rw [hk,hn]
  simp only
  generalize hA:c.mode=ma at hm
  generalize hB:c'.mode=mb at hm
  have mk:∀ (m m':FrameMode),MR ρ m m'→CR P ρ ds cs fr ({ c with mode:=m }::xs) fr' ({ c' with mode:=m' }::zs):=fun m m' hmm =>
   CR.push (hc.with (g:={ c with mode:=m }) (g':={ c' with mode:=m' }) ⟨hc.frame.fn,hc.frame.ok,hc.frame.tmps,hc.frame.todo,hc.frame.items,hc.frame.defers,hmm,hc.frame.kind,hc.frame.kinds,hc.frame.round⟩ rfl) h.frame
  cases hm with
  | run=>exact .inl ⟨rfl,rfl⟩
  | returning=>exact .inl ⟨rfl,rfl⟩
  | panicking he =>
   cases he with
   | nil=>exact .inl ⟨rfl,rfl⟩
   | @cons v v' r g es es' hv hes =>
    cases r with
    | true=>exact .inl ⟨rfl,rfl⟩
    | false =>
     cases g with
     | true=>exact .inl ⟨rfl,rfl⟩
     | false=>exact .inr ⟨v,v',_,_,rfl,rfl,hv,mk _ _ (.panicking (.cons hv hes))⟩
theorem choose_run (w:World) (q:Question) (hq:q.forced=false):(choose q).run P w=.ok (q.cut (w.tape w.drawn q)) { w with drawn:=w.drawn+1 }:=by
 simp [choose,Sem.run,hq]
theorem drawn_alike (hh:HR ρ wS wB):HR ρ { wS with drawn:=wS.drawn+1 } { wB with drawn:=wB.drawn+1 }∧Kept ρ wB { wB with drawn:=wB.drawn+1 } :=
 ⟨⟨hh.obj,hh.inj,hh.base,hh.os,hh.sync⟩,rfl,rfl,rfl,Nat.le_succ _,Nat.le_refl _,fun _ _ _=>rfl,(Kept.refl hh).part⟩
theorem run_mono_of {α:Type} {x:Sem α} {w:World} {r:Result α} (e:x.run P w=r):w.drawn≤r.world.drawn:=e▸run_mono x w
theorem endFatal_mono (fr:Frame) (xs:List Frame) (d:Option Dying) (m:String) (w:World):w.drawn≤(wof (endFatal P fr xs d m w)).drawn:=by
 unfold endFatal
 dsimp only
 split
 ·rename_i e;exact run_mono_of e
 ·rename_i e;exact run_mono_of e
 ·rename_i e;exact run_mono_of e
theorem early_mono (fr:Frame) (xs:List Frame) (d:Option Dying) (g:Nat) (w:World):w.drawn≤(wof (early P fr xs d g w)).drawn:=by
 have nt:∀ w:World,w.drawn≤(wof (match w.heap[g]? with
  | some (.pending c elem)=>GStep.go { frame:=fr,callers:=xs,status:=.running,dying:=d } { w with heap:=w.heap.setIfInBounds g (.cells c elem) }
  | _=>.ended (.stuck "early: the variable does not wait" (fr.pos P)) w)).drawn:=by
  intro w;split <;> exact Nat.le_refl _
 unfold early
 dsimp only
 split
 ·exact nt w
 ·split
  ·exact Nat.le_refl _
  ·split
   ·exact nt w
   ·split
    ·exact nt w
    ·split
     ·exact Nat.le_refl _
     ·exact Nat.le_refl _
     ·exact Nat.le_refl _
     ·exact nt w
     ·split
      ·exact Nat.le_refl _
      ·split
       ·exact nt w
       ·split
        ·rename_i e;exact Nat.le_trans (run_mono_of e) (nt _)
        ·rename_i e;exact run_mono_of e
        ·rename_i e;exact run_mono_of e
theorem apply_mono (fr:Frame) (xs:List Frame) (d:Option Dying) (x:Sem Next) (w:World):(x.run P w).world.drawn≤(wof (stepG.apply P true fr xs d x w)).drawn:=by
 unfold stepG.apply
 simp only [if_true,Sem.runT_eq,wof_after]
 generalize x.run P w=r
 cases r with
 | ok a w =>
  cases a <;> simp only <;> first
   | exact Nat.le_refl _
   | (split <;> exact Nat.le_refl _)
   | (repeat' split) <;> exact Nat.le_refl _
 | halt h w =>
  cases h with
  | unsupported u=>cases u <;> first | exact early_mono _ _ _ _ _ | exact Nat.le_refl _
  | fatal m=>exact endFatal_mono _ _ _ _ _
  | throw m=>exact Nat.le_refl _
  | _=>exact Nat.le_refl _
theorem yielded_alike {xs ys:Array Value} (h:VsR ρ xs ys) (ops:Array Oper):yielded ops xs=yielded ops ys:=by
 funext j
 unfold yielded
 cases (ops[j]?).bind (·.dst) with
 | none=>rfl
 | some d =>
  simp only [Option.bind_some]
  cases e:xs[d]? with
  | none=>rw [h.off_ e]
  | some v =>
   obtain ⟨v',e',k⟩:=h.at_ e
   rw [e']
   cases k <;> rfl
theorem exitTo_items (id:Nat):∀ (k k':List Item),k.all (okItem P)=true→exitTo id k=some k'→k'.all (okItem P)=true
 | [],k',_,h=>by simp [exitTo] at h
 | x::k,k',ha,h=>by
  simp only [List.all_cons,Bool.and_eq_true] at ha
  cases x with
  | inBlock id' =>
   simp only [exitTo] at h
   split at h
   ·cases h;exact ha.2
   ·exact exitTo_items id k k' ha.2 h
  | _=>exact exitTo_items id k k' ha.2 (by simpa [exitTo] using h)
theorem apply_alike [Zeros P] [Codes P] {fr fr':Frame} {xs ys:List Frame} (h:CR P ρ ds cs fr xs fr' ys) (hh:HR ρ wS wB) (ht:TA L wS wB) {x y:Sem Next} (hxy:SR P NR ρ x y) (hreg:∃ ops i l k,fr.todo=.inRegion ops (i::l)::k) :
  StepR P ρ L ds cs wB (stepG.apply P true fr xs none x wS) (stepG.apply P true fr' ys none y wB):=by
 have ha:=run_alike hxy wS wB #[] hh ht
 refine StepR.needs (apply_mono fr' ys none y wB) fun hf=>?_
 have hk1:(fr.kind == CallKind.early)=false:=by rcases h.frame.kinds with e | e <;> rw [e] <;> rfl
 have hk2:(fr'.kind == CallKind.early)=false:=by rw [h.frame.kind];exact hk1
 obtain ⟨ops,i,l,k,htodo⟩:=hreg
 have htodo':fr'.todo=.inRegion ops (i::l)::k:=h.frame.todo.trans htodo
 have hro:=h.frame.round
 unfold stepG.apply
 simp only [if_true,hk1,hk2,Bool.false_eq_true,if_false,Sem.runT_eq,htodo,htodo',hro.1,hro.2]
 have hrun:(y.runT P wB #[])=(y.run P wB,y.events P wB #[]):=Sem.runT_eq ..
 rw [hrun] at ha
 generalize hrx:x.run P wS=rx at ha
 generalize x.events P wS #[]=ex
 generalize hry:y.run P wB=ry at ha hf
 generalize hey:y.events P wB #[]=ey at ha
 unfold After at ha
 cases rx with
 | ok a w =>
  obtain ⟨b,w',new,ρ',e,hg,hn,hh',ht',hkp,hev⟩:=ha hf
  simp only [Array.empty_append,Prod.mk.injEq] at e
  obtain ⟨rfl,rfl⟩:=e
  have h':=h.mono hg.le
  have hev':∀ e∈seen P fr'.fn ey,EvOk ρ' e:=fun e he=>hev e (seen_sub he)
  have out:∀ {g g':Frame} {zs us:List Frame},CR P ρ' ds cs g zs g' us→StepR P ρ L ds cs wB (GStep.after (seen P fr.fn ex) (.go { frame:=g,callers:=zs,status:=.running,dying:=none } w)) (GStep.after (seen P fr'.fn ey) (.go { frame:=g',callers:=us,status:=.running,dying:=none } w')):=by
   intro g g' zs us hc
   exact StepR.go hg hc.gr hh' ht' hkp (by simpa using hev')
  cases hn with
  | value hv=>exact out (h'.with (h'.frame.finish hv) (by unfold Frame.finish;rw [htodo]))
  | skip=>exact out (h'.with (h'.frame.finish VR_undef) (by unfold Frame.finish;rw [htodo]))
  | enter hfo hargs=>exact out (h'.push (enter_alike hfo hargs (.inl rfl)))
  | @defer d d' hd =>
   have hfr:FrR P ρ' { fr with defers:=d::fr.defers } { fr' with defers:=d'::fr'.defers } :=
    ⟨h'.frame.fn,h'.frame.ok,h'.frame.tmps,h'.frame.todo,h'.frame.items, .cons hd h'.frame.defers,h'.frame.mode,h'.frame.kind,h'.frame.kinds,h'.frame.round⟩
   have:=out (h'.with (hfr.finish VR_undef) (by unfold Frame.finish;simp only [htodo]))
   simpa only [htodo,htodo',hro.1,hro.2] using this
  | recover =>
   simp only
   rcases recover_alike h' with ⟨e1,e2⟩ | ⟨v,v',zs,us,e1,e2,hv,hc⟩
   ·simp only [e1,e2]
    exact out (h'.with (h'.frame.finish .nilIface) (by unfold Frame.finish;rw [htodo]))
   ·simp only [e1,e2]
    exact out (hc.with (hc.frame.finish hv) (by unfold Frame.finish;rw [htodo]))
 | halt hlt w =>
  cases hlt with
  | panic v =>
   obtain ⟨v',w',new,ρ',e,hg,hv,hh',ht',hkp,hev⟩:=ha hf
   simp only [Array.empty_append,Prod.mk.injEq] at e
   obtain ⟨rfl,rfl⟩:=e
   have h':=h.mono hg.le
   have hev':∀ e∈seen P fr'.fn ey,EvOk ρ' e:=fun e he=>hev e (seen_sub he)
   have hfr:=h'.with (h'.frame.raise (.cons (r:=false) (g:=false) hv .nil)) (by unfold Frame.raise;split <;> rfl)
   exact StepR.go hg hfr.gr hh' ht' hkp (by simpa using hev')
  | blocked=>cases ha
  | waiting=>cases ha
  | goexit=>cases ha
  | unsupported u =>
   cases u with
   | initOrder g=>cases ha
   | _=>exact StepR.ended
  | fatal m=>cases ha
  | throw m=>cases ha
  | exit c=>cases ha
  | stuck s=>exact StepR.ended
end
end Go.Proofs.YtjnkcibpkkjniaaGreat.Sim
namespace Go.Proofs.YtjnkcibpkkjniaaGreat.Sim
variable [Scope]
section
variable {P:Program} {ρ:Ren} {L:Lim} {ds cs:List Frame} {wS wB:World} {main:Bool}
def AtEnd (ds:List Frame) (g:Goroutine):Prop:=g.callers=ds∧g.frame.defers=[]∧g.frame.mode≠.run
theorem StepR.still {fr fr':Frame} {xs ys:List Frame} (h:CR P ρ ds cs fr xs fr' ys) (hh:HR ρ wS wB) (ht:TA L wS wB) :
  StepR P ρ L ds cs wB (.go { frame:=fr,callers:=xs,status:=.running,dying:=none } wS) (.go { frame:=fr',callers:=ys,status:=.running,dying:=none } wB) :=
 StepR.go (Grow.refl _ _) h.gr hh ht (.refl hh) (by simp)
theorem ite_alike {s s' t t':GStep} (c:Prop) [Decidable c] (h:c→StepR P ρ L ds cs wB s s') (k:¬ c→StepR P ρ L ds cs wB t t'):StepR P ρ L ds cs wB (if c then s else t) (if c then s' else t'):=by
 by_cases e:c
 ·rw [if_pos e,if_pos e];exact h e
 ·rw [if_neg e,if_neg e];exact k e
theorem exec_alike [Zeros P] [Codes P] {fr fr':Frame} {xs ys:List Frame} (h:CR P ρ ds cs fr xs fr' ys) (hh:HR ρ wS wB) (ht:TA L wS wB) (hm:fr.mode=.run) :
  StepR P ρ L ds cs wB (stepG.exec P true true fr xs none wS) (stepG.exec P main true fr' ys none wB):=by
 obtain ⟨fn,tmps,todo,defers,mode,kind,ro⟩:=fr
 obtain ⟨fn',tmps',todo',defers',mode',kind',ro'⟩:=fr'
 obtain ⟨e1,e2⟩:=h.frame.round
 have e3:=h.frame.todo
 have e4:=h.frame.kind
 have e5:=h.frame.fn
 have hmm:=h.frame.mode
 have hit:=h.frame.items
 simp only at e1 e2 e3 e4 e5 hm hmm hit
 subst e1 e2 e3 e4 e5 hm
 have e6:mode'=.run:=by cases hmm;rfl
 subst e6
 have leaveRet:=h.with (g:=⟨fn',tmps,todo',defers, .returning,kind',none⟩) (g':=⟨fn',tmps',todo',defers', .returning,kind',none⟩) ⟨rfl,h.frame.ok,h.frame.tmps,rfl,h.frame.items,h.frame.defers, .returning,rfl,h.frame.kinds,rfl,rfl⟩ rfl
 have to:∀ {k:List Item},k.all (okItem P)=true→CR P ρ ds cs ⟨fn',tmps,k,defers, .run,kind',none⟩ xs ⟨fn',tmps',k,defers', .run,kind',none⟩ ys:=fun hk=>h.with (h.frame.to hk) rfl
 unfold stepG.exec
 cases todo' with
 | nil=>exact StepR.still leaveRet hh ht
 | cons x k =>
  simp only [List.all_cons,Bool.and_eq_true] at hit
  obtain ⟨hx,hk⟩:=hit
  cases x with
  | code c =>
   cases c with
   | skip=>exact StepR.still (to hk) hh ht
   | label l=>exact StepR.still (to hk) hh ht
   | ret=>exact StepR.still leaveRet hh ht
   | seq a b =>
    simp only [okItem,okCode,Bool.and_eq_true] at hx
    exact StepR.still (to (by simp [okItem,hx.1,hx.2,hk])) hh ht
   | cond c a b =>
    simp only [okItem,okCode,Bool.and_eq_true] at hx
    have hv:=h.frame.eval.get hx.1.1
    simp only
    generalize Frame.eval ⟨fn',tmps, .code (.cond c a b)::k,defers, .run,kind',none⟩ c=v at hv ⊢
    generalize Frame.eval ⟨fn',tmps', .code (.cond c a b)::k,defers', .run,kind',none⟩ c=v' at hv ⊢
    cases hv with
    | bool t=>cases t <;> exact StepR.still (to (by simp [okItem,hx.1.2,hx.2,hk])) hh ht
    | _=>exact StepR.ended
   | block id b=>exact StepR.still (to (by simp only [List.all_cons,Bool.and_eq_true];exact ⟨hx,rfl,hk⟩)) hh ht
   | loop b=>exact StepR.still (to (by simp only [List.all_cons,Bool.and_eq_true];exact ⟨hx,hx,hk⟩)) hh ht
   | scope b=>exact StepR.still (to (by simp only [List.all_cons,Bool.and_eq_true];exact ⟨hx,hx,hk⟩)) hh ht
   | exit id =>
    simp only
    cases he:exitTo id k with
    | none=>simp only [Option.elim];exact StepR.ended
    | some k'=>simp only [Option.elim];exact StepR.still (to (exitTo_items id k k' hk he)) hh ht
   | goto l=>simp [okItem,okCode] at hx
   | rangeFunc=>simp [okItem,okCode] at hx
   | refuse why=>exact StepR.ended
   | region id ops draw =>
    simp only [okItem,okCode] at hx
    cases draw with
    | false =>
     simp only [Bool.not_false,if_true]
     exact StepR.still (to (by simp only [List.all_cons,Bool.and_eq_true,okItem];exact ⟨hx,hk⟩)) hh ht
    | true =>
     simp only [Bool.not_true,Bool.false_eq_true,if_false]
     rw [choose_run wS (.order fn' id) rfl,choose_run wB (.order fn' id) rfl]
     obtain ⟨g1,g3⟩:=drawn_alike hh
     refine StepR.needs (w0:={ wB with drawn:=wB.drawn+1 }) (Nat.le_refl _) fun q3=>?_
     rw [ht.now (fun l hl=>by have:=q3 l hl;simp only at this;omega) (.order fn' id)]
     exact StepR.go (Grow.refl _ _) (to (by simp only [List.all_cons,Bool.and_eq_true,okItem];exact ⟨hx,hk⟩)).gr g1 ht.draw g3 (by simp)
  | inBlock id=>exact StepR.still (to hk) hh ht
  | inScope b=>exact StepR.still (to hk) hh ht
  | inLoop b=>exact StepR.still (to (by simp only [List.all_cons,Bool.and_eq_true];exact ⟨hx,hx,hk⟩)) hh ht
  | inRegion ops l =>
   cases l with
   | nil=>exact StepR.still (to hk) hh ht
   | cons i rest =>
    simp only
    have hy:yielded ops tmps=yielded ops tmps':=yielded_alike h.frame.tmps ops
    rw [←hy]
    refine ite_alike _ (fun hw=>?_) (fun hw=>StepR.still (h.with (h.frame.finish VR_undef) rfl) hh ht)
    unfold stepG.oper Frame.oper?
    simp only
    cases ho:ops[i]? with
    | none=>exact StepR.ended
    | some o =>
     have hoo:okOper P o=true:=Array.all_eq_true_iff_forall_mem.1 hx o (Array.mem_of_getElem? ho)
     exact apply_alike h hh ht (SR_execOp o hoo h.frame.eval) ⟨ops,i,rest,k,rfl⟩
  | inRangeFunc=>simp [okItem] at hx
  | endRangeFunc=>simp [okItem] at hx
  | beginRound=>simp [okItem] at hx
  | call=>simp [okItem] at hx
  | extern=>simp [okItem] at hx
theorem dropWhile_alike {x y:List PanicEntry} (h:EsR ρ x y):EsR ρ (x.dropWhile (!·.goexit)) (y.dropWhile (!·.goexit)):=by
 induction h with
 | nil=>exact .nil
 | @cons v v' r g xs ys hv ht ih =>
  simp only [List.dropWhile_cons]
  cases g with
  | false=>exact ih
  | true=>exact .cons hv ht
theorem return_alike {fr fr' c c':Frame} {xs ys:List Frame} (h:CR P ρ ds cs fr (c::xs) fr' (c'::ys)) (hx:c::xs≠ds) (hh:HR ρ wS wB) (ht:TA L wS wB) {v v':Value} (hv:VR ρ v v') :
  StepR P ρ L ds cs wB (doReturn P true fr (c::xs) none v wS) (doReturn P main fr' (c'::ys) none v' wB):=by
 obtain ⟨c1,z1,c2,zs,e1,e,hc⟩:=h.pop hx
 cases e
 cases e1
 have hk:=h.frame.kind
 unfold doReturn
 rw [hk]
 rcases h.frame.kinds with hn | hn
 ·simp only [hn]
  exact StepR.still (hc.with (hc.frame.finish hv) (by unfold Frame.finish;repeat' (first | rfl | split))) hh ht
 ·simp only [hn]
  have hm:=hc.frame.mode
  have mk:∀ (m m':FrameMode),MR ρ m m'→CR P ρ ds cs { c with mode:=m } xs { c' with mode:=m' } ys:=fun m m' hmm =>
   hc.with ⟨hc.frame.fn,hc.frame.ok,hc.frame.tmps,hc.frame.todo,hc.frame.items,hc.frame.defers,hmm,hc.frame.kind,hc.frame.kinds,hc.frame.round⟩ rfl
  generalize hA:c.mode=ma at hm
  generalize hB:c'.mode=mb at hm
  cases hm with
  | run=>exact StepR.still hc hh ht
  | returning=>exact StepR.still hc hh ht
  | panicking he =>
   cases he with
   | nil=>exact StepR.still hc hh ht
   | @cons u u' r g es es' hu hes =>
    cases r with
    | false=>exact StepR.still hc hh ht
    | true =>
     have hd:=dropWhile_alike hes
     simp only
     generalize es.dropWhile (!·.goexit)=d,es'.dropWhile (!·.goexit)=d' at hd
     cases hd with
     | nil=>exact StepR.still (mk _ _ .returning) hh ht
     | cons hw hws=>exact StepR.still (mk _ _ (.panicking (.cons hw hws))) hh ht
theorem SR_results {fn:Func} {xs ys:Array Value} (h:VsR ρ xs ys):SR P VR ρ (results fn xs) (results fn ys):=by
 unfold results
 rw [Array.mapM_eq_mapM_toList,Array.mapM_eq_mapM_toList]
 have key:∀ (l:List ResultVar) (ρ':Ren),ρ.le ρ'→SR P LsR ρ' (l.mapM fun
   | .tmp t=>pure (xs.getD t undef)
   | .cell a t=>do loadVar t (←asAddr (xs.getD a undef))) (l.mapM fun
   | .tmp t=>pure (ys.getD t undef)
   | .cell a t=>do loadVar t (←asAddr (ys.getD a undef))):=by
  intro l
  induction l with
  | nil=>intro ρ' _;simp only [List.mapM_nil];exact SR_ret .nil
  | cons x l ih =>
   intro ρ' hl
   simp only [List.mapM_cons]
   have hx:SR P VR ρ' (match x with
     | .tmp t=>pure (xs.getD t undef)
     | .cell a t=>do loadVar t (←asAddr (xs.getD a undef))) (match x with
     | .tmp t=>pure (ys.getD t undef)
     | .cell a t=>do loadVar t (←asAddr (ys.getD a undef))):=by
    cases x with
    | tmp t=>exact SR_ret ((h.mono hl).getD t VR_undef)
    | cell a t=>exact SR.bind (SR_asAddr ((h.mono hl).getD a VR_undef)) fun ρ2 b b' _ hb=>SR_loadVar t hb
   refine SR.bind hx fun ρ2 v v' l2 hv=>?_
   exact SR.bind (ih ρ2 (Ren.le_trans hl l2)) fun ρ3 vs vs' l3 hvs=>SR_ret (.cons (hv.mono l3) hvs)
 refine SR.bind (R:=VsR) (SR.bind (key fn.results.toList ρ (Ren.le_refl _)) fun ρ1 vs vs' _ hvs=>SR_ret hvs.array) fun ρ1 vs vs' l1 hvs=>?_
 have hs:=hvs.size
 by_cases e:vs.size=1
 ·have e':vs'.size=1:=by omega
  simp only [e,e',dite_true]
  exact SR_ret (hvs.get 0 _ _ (Array.getElem?_eq_getElem (by omega)) (Array.getElem?_eq_getElem (by omega)))
 ·have e':¬ vs'.size=1:=by omega
  simp only [e,e',dite_false]
  exact SR_ret hvs.tuple
end
end Go.Proofs.YtjnkcibpkkjniaaGreat.Sim
namespace Go.Proofs.YtjnkcibpkkjniaaGreat.Sim
variable [Scope]
section
variable {P:Program} {ρ:Ren} {L:Lim} {ds cs:List Frame} {wS wB:World} {main:Bool}
theorem StepR.trans {ρ':Ren} {w1:World} {s s':GStep} (h:StepR P ρ' L ds cs w1 s s') (g:Grow ρ wB ρ') (k:Kept ρ wB w1):StepR P ρ L ds cs wB s s':=by
 refine ⟨h.plain,?_⟩
 intro h1 wS1 es1 e q3
 obtain ⟨h',wB',es',ρ2,r0,r1,r2,r3,r4,r5,r6⟩:=h.go_ _ _ _ e q3
 exact ⟨h',wB',es',ρ2,r0,g.trans k.size r1,r2,r3,r4,k.trans g r5,r6⟩
theorem ite_ended {c c':Prop} [Decidable c] [Decidable c'] {s s' t':GStep} {o:Outcome} {w:World} {es:Array Event} (hc:c'→c) (h:StepR P ρ L ds cs wB s s'):StepR P ρ L ds cs wB (if c then .ended o w es else s) (if c' then t' else s'):=by
 by_cases e:c
 ·rw [if_pos e];exact StepR.ended
 ·rw [if_neg e,if_neg fun x=>e (hc x)];exact h
theorem doReturn_world (main:Bool) (fr:Frame) (xs:List Frame) (o:Option Dying) (v:Value) (w:World):(wof (doReturn P main fr xs o v w))=w:=by
 unfold doReturn
 repeat' split
 all_goals first | rfl | (simp only;repeat' split) <;> rfl
theorem deferred_alike [Zeros P] [Codes P] {fr fr':Frame} {xs ys:List Frame} (h:CR P ρ ds cs fr xs fr' ys) (hh:HR ρ wS wB) (ht:TA L wS wB) {d d':Deferred} (hd:DR ρ d d') (hm:fr.mode≠.run) :
  StepR P ρ L ds cs wB (callDeferred P fr xs none d wS) (callDeferred P fr' ys none d' wB):=by
 unfold callDeferred
 refine ite_ended (fun hc=>?_) ?_
 ·have hmm:=h.frame.mode
  revert hc
  generalize fr.mode=ma at hmm ⊢
  generalize fr'.mode=mb at hmm ⊢
  cases hd <;> cases hmm <;> exact id
 have ha:=run_alike (SR_invoke (P:=P) hd) wS wB #[] hh ht
 simp only [Sem.runT_eq]
 refine StepR.needs (w0:=((invoke d'.target d'.args).run P wB).world) ?_ fun hf=>?_
 ·rw [wof_after]
  generalize (invoke d'.target d'.args).run P wB=r
  cases r with
  | ok a w =>
   cases a with
   | alone b v=>cases b <;> exact Nat.le_refl _
   | coroswitch c b=>cases b <;> exact Nat.le_refl _
   | recover=>simp only;split <;> exact Nat.le_refl _
   | _=>exact Nat.le_refl _
  | halt h w =>
   cases h with
   | fatal m=>exact endFatal_mono _ _ _ _ _
   | _=>exact Nat.le_refl _
 have hrun:((invoke d'.target d'.args).runT P wB #[])=((invoke d'.target d'.args).run P wB,(invoke d'.target d'.args).events P wB #[]):=Sem.runT_eq ..
 rw [hrun] at ha
 generalize hrx:(invoke d.target d.args).run P wS=rx at ha
 generalize (invoke d.target d.args).events P wS #[]=ex
 generalize hry:(invoke d'.target d'.args).run P wB=ry at ha hf
 generalize hey:(invoke d'.target d'.args).events P wB #[]=ey at ha
 unfold After at ha
 cases rx with
 | ok a w =>
  obtain ⟨b,w',new,ρ',e,hg,hn,hh',ht',hkp,hev⟩:=ha hf
  simp only [Array.empty_append,Prod.mk.injEq] at e
  obtain ⟨rfl,rfl⟩:=e
  have h':=h.mono hg.le
  have hev':∀ e∈seen P fr'.fn ey,EvOk ρ' e:=fun e he=>hev e (seen_sub he)
  have out:∀ {g g':Frame} {zs us:List Frame},CR P ρ' ds cs g zs g' us→StepR P ρ L ds cs wB (GStep.after (seen P fr.fn ex) (.go { frame:=g,callers:=zs,status:=.running,dying:=none } w)) (GStep.after (seen P fr'.fn ey) (.go { frame:=g',callers:=us,status:=.running,dying:=none } w')):=by
   intro g g' zs us hc
   exact StepR.go hg hc.gr hh' ht' hkp (by simpa using hev')
  cases hn with
  | value hv=>exact out h'
  | skip=>exact out h'
  | enter hfo hargs=>exact out (h'.push (enter_alike hfo hargs (.inr rfl)))
  | defer hd=>exact out h'
  | recover =>
   simp only
   have hmm:=h.frame.mode
   rcases recover_alike h' with ⟨e1,e2⟩ | ⟨v,v',zs,us,e1,e2,hv,hc⟩
   ·simp only [e1,e2]
    generalize fr.mode=ma at hmm ⊢
    generalize fr'.mode=mb at hmm ⊢
    cases hmm <;> exact out h'
   ·simp only [e1,e2]
    generalize fr.mode=ma at hmm ⊢
    generalize fr'.mode=mb at hmm ⊢
    cases hmm <;> first | exact out h' | exact out hc
 | halt hlt w =>
  cases hlt with
  | panic v =>
   obtain ⟨v',w',new,ρ',e,hg,hv,hh',ht',hkp,hev⟩:=ha hf
   simp only [Array.empty_append,Prod.mk.injEq] at e
   obtain ⟨rfl,rfl⟩:=e
   have h':=h.mono hg.le
   have hev':∀ e∈seen P fr'.fn ey,EvOk ρ' e:=fun e he=>hev e (seen_sub he)
   have hfr:=h'.with (h'.frame.raise (.cons (r:=false) (g:=false) hv .nil)) (by unfold Frame.raise;split <;> rfl)
   exact StepR.go hg hfr.gr hh' ht' hkp (by simpa using hev')
  | unsupported u =>
   cases u with
   | initOrder g=>cases ha
   | _=>exact StepR.ended
  | stuck s=>exact StepR.ended
  | _=>cases ha
theorem unwind_alike [Zeros P] [Codes P] {fr fr':Frame} {xs ys:List Frame} (h:CR P ρ ds cs fr xs fr' ys) (hh:HR ρ wS wB) (ht:TA L wS wB) (hm:fr.mode≠.run) (hend:¬ (xs=ds∧fr.defers=[])) :
  StepR P ρ L ds cs wB (unwind P true fr xs none wS) (unwind P main fr' ys none wB):=by
 have hds:=h.frame.defers
 have hmm:=h.frame.mode
 have hdf:∀ (es es':List Deferred),DsR ρ es es'→CR P ρ ds cs { fr with defers:=es } xs { fr' with defers:=es' } ys:=fun es es' hd =>
  h.with ⟨h.frame.fn,h.frame.ok,h.frame.tmps,h.frame.todo,h.frame.items,hd,h.frame.mode,h.frame.kind,h.frame.kinds,h.frame.round⟩ rfl
 obtain ⟨fn,e1,_,_⟩:=Bodies.body (P:=P) fr.fn h.frame.ok
 have e1':P.funcs[fr'.fn]? = some fn:=by rw [h.frame.fn];exact e1
 unfold unwind
 generalize hA:fr.defers=da at hds
 generalize hB:fr'.defers=db at hds
 cases hds with
 | @cons d d' es es' hd hds' =>
  have:=deferred_alike (hdf es es' hds') hh ht hd hm
  cases hd <;> exact this
 | nil =>
  simp only
  generalize hMA:fr.mode=ma at hmm
  generalize hMB:fr'.mode=mb at hmm
  have hx:xs≠ds:=fun e=>hend ⟨e,hA⟩
  ·obtain ⟨c,xs,c',zs,rfl,rfl,hc⟩:=h.pop hx
   cases hmm with
   | run=>exact absurd hMA hm
   | panicking he =>
    have c1:fr.catches P=false:=by unfold Frame.catches;rw [e1]
    have c2:fr'.catches P=false:=by unfold Frame.catches;rw [e1']
    simp only [c1,c2,Bool.false_eq_true,if_false]
    exact StepR.still (hc.with (hc.frame.raise he) (by unfold Frame.raise;split <;> rfl)) hh ht
   | returning =>
    simp only [e1,e1',Sem.runT_eq]
    have ha:=run_alike (SR_results (P:=P) (fn:=fn) h.frame.tmps) wS wB #[] hh ht
    have hrun:((results fn fr'.tmps).runT P wB #[])=((results fn fr'.tmps).run P wB,(results fn fr'.tmps).events P wB #[]):=Sem.runT_eq ..
    rw [hrun] at ha
    generalize hrx:(results fn fr.tmps).run P wS=rx at ha
    generalize (results fn fr.tmps).events P wS #[]=ex
    refine StepR.needs (w0:=((results fn fr'.tmps).run P wB).world) ?_ fun hf=>?_
    ·rw [wof_after]
     generalize (results fn fr'.tmps).run P wB=r
     cases r with
     | ok v w=>simp only [doReturn_world];exact Nat.le_refl _
     | halt h w=>cases h <;> exact Nat.le_refl _
    generalize hry:(results fn fr'.tmps).run P wB=ry at ha hf
    generalize hey:(results fn fr'.tmps).events P wB #[]=ey at ha
    unfold After at ha
    cases rx with
    | ok a w =>
     obtain ⟨b,w',new,ρ',e,hg,hv,hh',ht',hkp,hev⟩:=ha hf
     simp only [Array.empty_append,Prod.mk.injEq] at e
     obtain ⟨rfl,rfl⟩:=e
     have h':=h.mono hg.le
     have hev':∀ e∈seen P fr'.fn ey,EvOk ρ' e:=fun e he=>hev e (seen_sub he)
     exact StepR.trans (StepR.after hev' (return_alike h' hx hh' ht' hv)) hg hkp
    | halt hlt w =>
     cases hlt with
     | panic v =>
      exact StepR.ended
     | stuck s=>exact StepR.ended
     | _=>exact StepR.ended
theorem step_alike [Zeros P] [Codes P] {g g':Goroutine} (h:GR P ρ ds cs g g') (hh:HR ρ wS wB) (ht:TA L wS wB) (hend:¬ AtEnd ds g):StepR P ρ L ds cs wB (stepG P true g wS) (stepG P main g' wB):=by
 obtain ⟨fr,xs,st,dy,off⟩:=g
 obtain ⟨fr',ys,st',dy',off'⟩:=g'
 obtain ⟨hfr,hcs,⟨hs1,hs2⟩,⟨hd1,hd2⟩,ho⟩:=h
 simp only at hfr hcs hs1 hs2 hd1 hd2
 subst hd1 hd2
 have hc:CR P ρ ds cs fr xs fr' ys:=⟨hfr,hcs⟩
 unfold stepG
 have hmm:=hfr.mode
 cases hMA:fr.mode with
 | run =>
  have hMB:fr'.mode=.run:=by rw [hMA] at hmm;cases hq:fr'.mode <;> rw [hq] at hmm <;> first | rfl | cases hmm
  simp only [hMA,hMB]
  exact exec_alike hc hh ht hMA
 | returning =>
  have hMB:fr'.mode=.returning:=by rw [hMA] at hmm;cases hq:fr'.mode <;> rw [hq] at hmm <;> first | rfl | cases hmm
  simp only [hMA,hMB]
  exact unwind_alike hc hh ht (by rw [hMA];simp) fun ⟨a,b⟩=>hend ⟨a,b,by rw [hMA];simp⟩
 | panicking es =>
  have hMB:∃ es',fr'.mode=.panicking es':=by rw [hMA] at hmm;cases hq:fr'.mode <;> rw [hq] at hmm <;> first | exact ⟨_,rfl⟩ | cases hmm
  obtain ⟨es',hMB⟩:=hMB
  simp only [hMA,hMB]
  exact unwind_alike hc hh ht (by rw [hMA];simp) fun ⟨a,b⟩=>hend ⟨a,b,by rw [hMA];simp⟩
theorem step_plain [Zeros P] [Codes P] {g g':Goroutine} (h:GR P ρ ds cs g g') (hh:HR ρ wS wB) (hend:¬ AtEnd ds g):Plain (stepG P true g wS):=by
 have hh':HR ρ wS { wB with tape:=fun n q=>wS.tape (n - wB.drawn+wS.drawn) q }:=⟨hh.obj,hh.inj,hh.base,hh.os,hh.sync⟩
 have ht:TA ⟨none,(wB.drawn:Int) - wS.drawn,wS.tape⟩ wS { wB with tape:=fun n q=>wS.tape (n - wB.drawn+wS.drawn) q } :=
  ⟨by simp only;omega,rfl,fun j q _=>by
   show wS.tape (wB.drawn+j - wB.drawn+wS.drawn) q=wS.tape (wS.drawn+j) q
   congr 1;omega⟩
 exact (step_alike (main:=true) h hh' ht hend).plain rfl
end
end Go.Proofs.YtjnkcibpkkjniaaGreat.Sim
namespace Go.Proofs.YtjnkcibpkkjniaaGreat.Sim
variable [Scope]
def cap (P:Program):Frame:={ fn:=P.funcs.size,tmps:=#[],todo:=[.call default true "fmt's door" #[]],defers:=[],mode:=.run,kind:=.normal }
theorem cap_next:Extern.next "fmt's door" = none:=by decide
theorem door:("fmt's door":String).startsWith "fmt's door" = true:=by kernel_rfl
section
variable {P:Program}
theorem cap_finish_ends (v:Value) (w:World):∃ o w',step P (lone ((cap P).finish v) [] w)=.ended o w':=by
 refine ⟨.stuck ("no extern row "++ "fmt's door") (Frame.pos P ((cap P).finish v)),w,step_lone_ended ?_⟩
 simp [stepG,stepG.exec,cap,Frame.finish,cap_next,Option.elim]
theorem cap_raise_ends (es:List PanicEntry) (w:World):∃ o w',step P (lone ((cap P).raise es) [] w)=.ended o w':=by
 refine ⟨.unsupported (.noEntry "a panic or Goexit out of a method that fmt calls behind a cut's door") (Frame.pos P ((cap P).raise es)),w,step_lone_ended ?_⟩
 have hc:Frame.catches P ((cap P).raise es)=true:=by
  unfold Frame.catches
  simp only [cap,Frame.raise,Array.getElem?_size]
  exact door
 have hm:((cap P).raise es).mode=.panicking es:=rfl
 have hd:((cap P).raise es).defers=[]:=rfl
 simp [stepG,unwind,hm,hd,hc]
theorem left_step {fr:Frame} (hm:fr.mode≠.run) (hd:fr.defers=[]) (hk:fr.kind=.normal) {fn:Func} (hf:P.funcs[fr.fn]? = some fn) (w:World) :
  (∃ o w',step P (lone fr [cap P] w)=.ended o w')∨∃ fr' w',step P (lone fr [cap P] w)=.next (lone fr' [] w')∧∃ o w2,step P (lone fr' [] w')=.ended o w2:=by
 have hc:fr.catches P=false:=by unfold Frame.catches;rw [hf]
 cases hmm:fr.mode with
 | run=>exact absurd hmm hm
 | panicking es =>
  refine .inr ⟨(cap P).raise es,w,step_lone_go ?_,cap_raise_ends es w⟩
  simp [stepG,unwind,hmm,hd,hc]
 | returning =>
  cases hr:(results fn fr.tmps).run P w with
  | ok v w' =>
   refine .inr ⟨(cap P).finish v,w',step_lone_go ?_,cap_finish_ends v w'⟩
   simp [stepG,unwind,doReturn,hmm,hd,hf,hr,hk]
  | halt h w' =>
   refine .inl ?_
   cases h with
   | stuck s=>exact ⟨_,_,step_lone_ended (by simp only [stepG,unwind,hmm,hd,hf,Sem.runT_eq,hr,GStep.bare_after];rfl)⟩
   | _=>exact ⟨_,_,step_lone_ended (by simp only [stepG,unwind,hmm,hd,hf,Sem.runT_eq,hr,GStep.bare_after];rfl)⟩
theorem left_never {fr:Frame} (hm:fr.mode≠.run) (hd:fr.defers=[]) (hk:fr.kind=.normal) {fn:Func} (hf:P.funcs[fr.fn]? = some fn) (w:World) (m:Nat) (fr2:Frame) (xs:List Frame) (w2:World) :
  runN P (m+1) (lone fr [cap P] w)≠.next (lone fr2 (xs++[cap P]) w2):=by
 rcases left_step hm hd hk hf w with ⟨o,w',h⟩ | ⟨fr',w',h,o,w3,h'⟩
 ·simp [runN,h]
 ·cases m with
  | zero=>intro hx;simp only [runN,h] at hx;simp [lone] at hx
  | succ m=>simp [runN,h,h']
theorem calls_lone {f:FuncId} {args:Array Value} {w:World} {R:Ending→World→Prop} (h:Calls P f args w R) (hR:∀ w',¬ R .outgrown w') :
  ∃ K fr w' e,runN P K (lone (Frame.enter P f args .normal) [cap P] w)=.next (lone fr [cap P] w')∧R e w'∧fr.fn=f∧fr.leaving P w' e∧AtEnd [cap P] { frame:=fr,callers:=[cap P],status:=.running,dying:=none }:=by
 obtain ⟨e,w',fr,hr,hc,hf,hl⟩:=h [cap P]
 cases e with
 | outgrown=>exact absurd hr (hR w')
 | returned v =>
  obtain ⟨K,hK⟩:=hc
  exact ⟨K,fr,w',_,hK,hr,hf,hl,rfl,hl.2.1,by simp [hl.1]⟩
 | panicked ch =>
  obtain ⟨K,hK⟩:=hc
  exact ⟨K,fr,w',_,hK,hr,hf,hl,rfl,hl.2.1,by simp [hl.1]⟩
structure Ride (P:Program) (m0:Machine) (K:Nat) (T:Tape) (ρ:Ren) (cs:List Frame) (k D:Nat) (gS:Goroutine) (wS:World) (g:Goroutine) (w:World):Prop where
 run:runN P k m0=.next (lone gS.frame gS.callers wS)
 gr:GR P ρ [cap P] cs gS g
 hr:HR ρ wS w
 tape:wS.tape=T
 drawn:wS.drawn=D
 le:k≤K
def EndsAt (P:Program) (m0:Machine) (K:Nat) (frE:Frame) (wE:World):Prop :=
 runN P K m0=.next (lone frE [cap P] wE)∧frE.mode≠.run∧frE.defers=[]
theorem Ride.at_end [Codes P] {m0:Machine} {K:Nat} {T:Tape} {ρ:Ren} {cs:List Frame} {k D:Nat} {gS g:Goroutine} {wS w:World} (h:Ride P m0 K T ρ cs k D gS wS g w) {frE:Frame} {wE:World} (hK:EndsAt P m0 K frE wE) (hend:AtEnd [cap P] gS) :
  k=K∧gS.frame=frE∧wS=wE:=by
 have hle:=h.le
 obtain ⟨n,rfl⟩:∃ n,K=k+n:=⟨K - k,by omega⟩
 have h1:=hK.1
 rw [runN_add,h.run] at h1
 simp only at h1
 cases n with
 | zero =>
  simp only [runN,lone,Stepped.next.injEq,Machine.mk.injEq,Array.mk.injEq,List.cons.injEq,Goroutine.mk.injEq] at h1
  exact ⟨rfl,h1.2.1.1.1,h1.1⟩
 | succ n =>
  obtain ⟨fn,e1,_,_⟩:=Bodies.body (P:=P) gS.frame.fn h.gr.frame.ok
  have hk:gS.frame.kind=.normal:=by
   obtain ⟨us,vs,e,_,q,b⟩:=h.gr.callers
   rw [hend.1] at e
   cases us with
   | nil=>simpa using b
   | cons u us=>have:=congrArg List.length e;simp at this
  rw [hend.1] at h1
  exact absurd h1 (left_never hend.2.2 hend.2.1 hk e1 wS n _ [] _)
theorem Ride.step [Zeros P] [Codes P] {m0:Machine} {K:Nat} {T:Tape} {ρ:Ren} {cs:List Frame} {k D:Nat} {gS g:Goroutine} {wS w:World} (h:Ride P m0 K T ρ cs k D gS wS g w) {frE:Frame} {wE:World} (hK:EndsAt P m0 K frE wE)
  (hend:¬ AtEnd [cap P] gS) (main:Bool) (htape:∀ j q,w.drawn+j < (wof (stepG P main g w)).drawn→w.tape (w.drawn+j) q=T (D+j) q) :
  ∃ g' w' es ρ' gS' wS',stepG P main g w=.go g' w' es∧Grow ρ w ρ'∧Kept ρ w w'∧(∀ e∈es,EvOk ρ' e)∧Ride P m0 K T ρ' cs (k+1) (D+(w'.drawn - w.drawn)) gS' wS' g' w':=by
 have hle:=h.le
 have hne:k≠K:=by
  rintro rfl
  have h1:=hK.1
  rw [h.run] at h1
  simp only [lone,Stepped.next.injEq,Machine.mk.injEq,Array.mk.injEq,List.cons.injEq,Goroutine.mk.injEq] at h1
  obtain ⟨_,⟨⟨a,b,_⟩,_⟩,_⟩:=h1
  exact hend ⟨b,by rw [a];exact hK.2.2,by rw [a];exact hK.2.1⟩
 obtain ⟨n,rfl⟩:∃ n,K=k+1+n:=⟨K - (k+1),by omega⟩
 have hrun:runN P (k+1) m0=Go.step P (lone gS.frame gS.callers wS):=by
  rw [runN_add,h.run]
  simp only [runN]
  cases Go.step P (lone gS.frame gS.callers wS) <;> rfl
 have hnext:∃ m,Go.step P (lone gS.frame gS.callers wS)=.next m:=by
  have h1:=hK.1
  rw [runN_add,hrun] at h1
  cases hs:Go.step P (lone gS.frame gS.callers wS) with
  | next m=>exact ⟨m,rfl⟩
  | ended o w=>rw [hs] at h1;cases h1
 have hplain:=step_plain h.gr h.hr hend
 have hL:TA ⟨some (wof (stepG P main g w)).drawn,(w.drawn:Int) - D,T⟩ wS w:=⟨by rw [h.drawn];simp only;omega,h.tape,fun j q hl=>by rw [h.tape,h.drawn];exact htape j q (hl _ rfl)⟩
 have hst:=(step_alike (main:=main) h.gr h.hr hL hend).go_
 obtain ⟨fr,xs,st,dy,off⟩:=gS
 obtain ⟨hs1,_⟩:=h.gr.status
 obtain ⟨hd1,_⟩:=h.gr.dying
 have ho:=h.gr.offers
 simp only at hs1 hd1 ho
 subst hs1 hd1 ho
 rcases hplain with ⟨o,w1,es,e⟩ | ⟨⟨fr1,xs1,st1,dy1,off1⟩,w1,es,e,q1,q2,q3⟩
 ·obtain ⟨m,hm⟩:=hnext
  simp only at hm
  rw [step_lone_ended (o:=o) (w':=w1) (by rw [e];rfl)] at hm
  cases hm
 ·simp only at q1 q2 q3
  subst q1 q2 q3
  obtain ⟨g',w',es',ρ',r0,r1,r2,r3,r4,r5,r6⟩:=hst _ _ _ e (fun l hl=>by cases hl;exact Nat.le_refl _)
  refine ⟨g',w',es',ρ',_,w1,r0,r1,r5,r6,?_,r2,r3,r4.tape,?_,by omega⟩
  ·rw [hrun]
   exact step_lone_go (by rw [e];rfl)
  ·have h1:=r4.off
   have h2:=r5.drawn
   simp only at h1
   omega
theorem Ride.start [Codes P] {ρ:Ren} {f:FuncId} (hf:Scope.ok f=true) {args args':Array Value} (ha:VsR ρ args args') {wS w:World} (hh:HR ρ wS w) (cs:List Frame) (T:Tape) (K:Nat) :
  Ride P (lone (Frame.enter P f args .normal) [cap P] { wS with tape:=T,drawn:=0 }) K T ρ cs 0 0 { frame:=Frame.enter P f args .normal,callers:=[cap P],status:=.running,dying:=none } { wS with tape:=T,drawn:=0 } { frame:=Frame.enter P f args' .normal,callers:=cs,status:=.running,dying:=none } w :=
 ⟨rfl,⟨enter_alike hf ha (.inl rfl),⟨[],[],rfl,rfl, .nil,rfl⟩,⟨rfl,rfl⟩,⟨rfl,rfl⟩,rfl⟩,⟨hh.obj,hh.inj,hh.base,hh.os,hh.sync⟩,rfl,rfl,Nat.zero_le _⟩
theorem Ride.others {m0:Machine} {K:Nat} {T:Tape} {ρ:Ren} {cs:List Frame} {k D:Nat} {gS g:Goroutine} {wS w w':World} (h:Ride P m0 K T ρ cs k D gS wS g w)
  (hos:w'.os=w.os) (hsz:Scope.sync=true→w'.heap.size=w.heap.size) (ho:∀ b p o o',ρ b=some p→w.heap[p.block]? = some o→ObjR ρ p o' o→∃ o2,w'.heap[p.block]? = some o2∧ObjR ρ p o' o2):Ride P m0 K T ρ cs k D gS wS g w' :=
 ⟨h.run,h.gr,⟨fun b p hb=>by
  obtain ⟨o,o',h1,h2,h3⟩:=h.hr.obj b p hb
  obtain ⟨o2,k1,k2⟩:=ho b p o' o hb h2 h3
  exact ⟨o,o2,h1,k1,k2⟩,h.hr.inj,h.hr.base,hos.trans h.hr.os,fun e=>⟨(h.hr.sync e).1.trans (hsz e).symm,(h.hr.sync e).2⟩⟩,h.tape,h.drawn,h.le⟩
end
def sums (seg:Nat→Nat×Nat):Nat→Nat
 | 0=>0
 | n+1=>sums seg n+((seg n).2 - (seg n).1)
theorem sums_mono (seg:Nat→Nat×Nat) {a b:Nat} (h:a≤b):sums seg a≤sums seg b:=by
 induction h with
 | refl=>exact Nat.le_refl _
 | step _ ih=>exact Nat.le_trans ih (Nat.le_add_right _ _)
theorem glue (T:Nat→Tape) (seg:Nat→Nat×Nat):∃ G:Tape,∀ n j q,(seg n).1+j < (seg n).2→G (sums seg n+j) q=T n ((seg n).1+j) q:=by
 classical
 refine ⟨fun x q=>if h:∃ nj:Nat×Nat,sums seg nj.1+nj.2=x∧(seg nj.1).1+nj.2 < (seg nj.1).2 then T h.choose.1 ((seg h.choose.1).1+h.choose.2) q else 0,fun n j q hj=>?_⟩
 have hx:∃ nj:Nat×Nat,sums seg nj.1+nj.2=sums seg n+j∧(seg nj.1).1+nj.2 < (seg nj.1).2:=⟨(n,j),rfl,hj⟩
 simp only [hx,dite_true]
 obtain ⟨h1,h2⟩:=hx.choose_spec
 generalize hx.choose=nj at h1 h2 ⊢
 obtain ⟨n',j'⟩:=nj
 simp only at h1 h2 ⊢
 have hn:n'=n:=by
  rcases Nat.lt_trichotomy n' n with h | h | h
  ·have:=sums_mono seg (Nat.succ_le_of_lt h)
   simp only [Nat.succ_eq_add_one,sums] at this
   omega
  ·exact h
  ·have:=sums_mono seg (Nat.succ_le_of_lt h)
   simp only [Nat.succ_eq_add_one,sums] at this
   omega
 subst hn
 have:j'=j:=by omega
 rw [this]
end Go.Proofs.YtjnkcibpkkjniaaGreat.Sim
namespace Go.Proofs.YtjnkcibpkkjniaaGreat.Sim
open Go.Conc
open Go.ConcN (sumTo upd sumTo_upd upd_ne upd_same)
theorem picks (P:Program):∃ pk:Machine→Nat×Nat×Option (Nat×Nat),∀ gs w sl,(∀ g∈gs,awake g)→(∃ (i:Nat) (g:Goroutine),gs[i]? = some g∧g.status=.running) →
  ∃ g,gs[(pk (crowd gs w sl)).1]? = some g∧g.status=.running∧stepT P (crowd gs w sl)=runT P (crowd gs (w.at (pk (crowd gs w sl)).2.1) (pk (crowd gs w sl)).2.2) (pk (crowd gs w sl)).1:=by
 classical
 refine ⟨fun m=>if h:∃ x:Nat×Nat×Option (Nat×Nat),∃ g,m.gs[x.1]? = some g∧g.status=.running∧stepT P m=runT P (crowd m.gs (m.world.at x.2.1) x.2.2) x.1 then h.choose else (0,0,none),fun gs w sl ha hr=>?_⟩
 obtain ⟨i,g,d,sl',h1,h2,h3⟩:=crowd_pick (P:=P) (w:=w) (sl:=sl) ha hr
 have h:∃ x:Nat×Nat×Option (Nat×Nat),∃ g,(crowd gs w sl).gs[x.1]? = some g∧g.status=.running∧stepT P (crowd gs w sl)=runT P (crowd (crowd gs w sl).gs ((crowd gs w sl).world.at x.2.1) x.2.2) x.1:=⟨(i,d,sl'),g,h1,h2,h3⟩
 simp only [dif_pos h]
 exact h.choose_spec
section
variable (P:Program) (pk:Machine→Nat×Nat×Option (Nat×Nat)) (i0:Nat) (m0:Machine) (t0:Trace)
def segOf (n:Nat):Nat×Nat :=
 match (runNT P n m0 t0).1 with
 | .next m=>if (pk m).1=i0 then ((pk m).2.1,(wof (stepG P (i0 == 0) (m.gs.getD i0 default) (m.world.at (pk m).2.1))).drawn) else (0,0)
 | .ended _ _=>(0,0)
def tapeOf (n:Nat):Tape :=
 match (runNT P n m0 t0).1 with
 | .next m=>m.world.tape
 | .ended _ w=>w.tape
variable {P pk i0 m0 t0}
theorem segOf_own {n:Nat} {gs:Array Goroutine} {w:World} {sl:Option (Nat×Nat)} {t:Trace} {g:Goroutine} (h:runNT P n m0 t0=(.next (crowd gs w sl),t)) (hg:gs[i0]? = some g) (hp:(pk (crowd gs w sl)).1=i0) :
  segOf P pk i0 m0 t0 n=((pk (crowd gs w sl)).2.1,(wof (stepG P (i0 == 0) g (w.at (pk (crowd gs w sl)).2.1))).drawn):=by
 unfold segOf
 rw [h]
 simp only [hp,if_true]
 have:(crowd gs w sl).gs.getD i0 default=g:=by
  show gs.getD i0 default=g
  rw [Array.getD_eq_getD_getElem?,hg];rfl
 rw [this];rfl
theorem segOf_other {n:Nat} {gs:Array Goroutine} {w:World} {sl:Option (Nat×Nat)} {t:Trace} (h:runNT P n m0 t0=(.next (crowd gs w sl),t)) (hp:(pk (crowd gs w sl)).1≠i0):segOf P pk i0 m0 t0 n=(0,0):=by
 unfold segOf
 rw [h]
 simp only [hp,if_false]
theorem tapeOf_at {n:Nat} {gs:Array Goroutine} {w:World} {sl:Option (Nat×Nat)} {t:Trace} (h:runNT P n m0 t0=(.next (crowd gs w sl),t)):tapeOf P m0 t0 n=w.tape:=by
 unfold tapeOf
 rw [h];rfl
end
structure Beside (P:Program) (m0:Machine) (t0:Trace) (Shun:Loc→Prop) (n:Nat) (gs:Array Goroutine) (w:World) (sl:Option (Nat×Nat)) (t:Trace) (q:Nat→Nat) (g:Goroutine):Prop where
 run:runNT P n m0 t0=(.next (crowd gs w sl),t)
 main:gs[0]? = some g
 leave:Leavers P t gs q
 past:Past Shun w.heap.size t
section
variable {P:Program} {m0:Machine} {t0:Trace} {Shun:Loc→Prop} {pk:Machine→Nat×Nat×Option (Nat×Nat)}
theorem run_next {n:Nat} {m m':Machine} {t:Trace} {ops:Array MemOp} (h:runNT P n m0 t0=(.next m,t)) (hs:stepT P m=(.next m',ops)):runNT P (n+1) m0 t0=(.next m',t++ops):=by
 rw [runNT_add,h]
 simp only [runNT,hs]
theorem leavers_other {t:Trace} {gs:Array Goroutine} {q:Nat→Nat} (h:Leavers P t gs q) {g g':Goroutine} {w':World} (h0:gs[0]? = some g) (fn:FuncId) (pos:String) (es:Array Event) :
  Leavers P (t++MemOp.ofEvents 0 fn pos es) ((gs.map (woken P g g' w')).setIfInBounds 0 g') q:=by
 refine ⟨fun j x hj hx=>?_,fun j hj=>?_⟩
 ·rw [Array.getElem?_setIfInBounds_ne (show (0:Nat)≠j by omega),Array.getElem?_map] at hx
  obtain ⟨y,hy,rfl⟩:=Option.map_eq_some_iff.1 hx
  have hq:=h.old j y hj hy
  rw [woken_quitsD hq,Deaf_other t (show (0:Nat)≠j by omega) _ (fun op hop=>by obtain ⟨e,_,rfl⟩:=Go.Conc.mem_ofEvents hop;rfl)]
  exact hq
 ·have h1:0 < gs.size:=(Array.getElem?_eq_some_iff.1 h0).1
  have h2:gs.size≤j:=by simpa using hj
  rw [Deaf_other t (g':=0) (show (0:Nat)≠j by omega) _ (fun op hop=>by obtain ⟨e,_,rfl⟩:=Go.Conc.mem_ofEvents hop;rfl)]
  exact h.above j h2
theorem turn (hpk:∀ gs w sl,(∀ g∈gs,awake g)→(∃ (i:Nat) (g:Goroutine),gs[i]? = some g∧g.status=.running) →
  ∃ g,gs[(pk (crowd gs w sl)).1]? = some g∧g.status=.running∧stepT P (crowd gs w sl)=runT P (crowd gs (w.at (pk (crowd gs w sl)).2.1) (pk (crowd gs w sl)).2.2) (pk (crowd gs w sl)).1)
  {n:Nat} {gs:Array Goroutine} {w:World} {sl:Option (Nat×Nat)} {t:Trace} {q:Nat→Nat} {g:Goroutine} (h:Beside P m0 t0 Shun n gs w sl t q g) (hg:g.status=.running) :
  ∃ d sl',(∃ gs' t' q',Beside P m0 t0 Shun (n+1) gs' (w.at d) sl' t' q' g∧gs'.size=gs.size∧sumTo gs.size q' < sumTo gs.size q∧segOf P pk 0 m0 t0 n=(0,0)) ∨
   (segOf P pk 0 m0 t0 n=(d,(wof (stepG P true g (w.at d))).drawn)∧∀ g' w' es,stepG P true g (w.at d)=.go g' w' es→(∀ e∈es,EvL Shun w'.heap.size e)→w.heap.size≤w'.heap.size →
    ∃ gs' t',Beside P m0 t0 Shun (n+1) gs' w' sl' t' q g'∧gs'.size=gs.size):=by
 have haw:∀ x∈gs,awake x:=by
  intro x hx
  obtain ⟨i,hi,rfl⟩:=Array.mem_iff_getElem.1 hx
  rcases Nat.eq_zero_or_pos i with rfl | hpos
  ·have:gs[0]=g:=by simpa [Array.getElem?_eq_getElem hi] using h.main
   rw [this];exact awake_of (.inl hg)
  ·exact awake_of ((h.leave.old i _ hpos (Array.getElem?_eq_getElem hi)).status.elim .inl fun x=>.inr (.inr x))
 obtain ⟨x,hx,hxr,hst⟩:=hpk gs w sl haw ⟨0,g,h.main,hg⟩
 have hown:=segOf_own (P:=P) (pk:=pk) (i0:=0) h.run h.main
 have hoth:=segOf_other (P:=P) (pk:=pk) (i0:=0) h.run
 generalize pk (crowd gs w sl)=y at hx hst hown hoth
 obtain ⟨i,d,sl'⟩:=y
 simp only at hx hst hown hoth
 refine ⟨d,sl',?_⟩
 rcases Nat.eq_zero_or_pos i with rfl | hpos
 ·refine .inr ⟨hown rfl,fun g' w' es hgo hes hsz=>?_⟩
  obtain rfl:x=g:=by rw [h.main] at hx;exact (Option.some.inj hx).symm
  have hrun:=runT_crowd_go (P:=P) (sl:=sl') (i:=0) h.main (show stepG P (0 == 0) x (w.at d)=_ from hgo)
  have hlt:0 < gs.size:=(Array.getElem?_eq_some_iff.1 h.main).1
  refine ⟨_,_,⟨run_next h.run (hst.trans hrun),by simp [hlt],leavers_other h.leave h.main _ _ _,(h.past.mono hsz).own hes⟩,by simp⟩
 ·refine .inl ?_
  have hq:=h.leave.old i x hpos hx
  have hlt:i < gs.size:=(Array.getElem?_eq_some_iff.1 hx).1
  have hi0:(i == 0)=false:=by simp;omega
  cases hqi:q i with
  | zero=>rw [hqi] at hq;rw [hq.1] at hxr;cases hxr
  | succ k =>
   rw [hqi] at hq
   rcases hq with ⟨hf,_⟩ | ⟨_,g',es,hm,hstp,hq'⟩
   ·rw [hf] at hxr;cases hxr
   have hrun:=runT_crowd_go (P:=P) (sl:=sl') (i:=i) hx (by rw [hi0];exact hstp (w.at d))
   have hsum:sumTo gs.size (upd q i k)+(k+1)=sumTo gs.size q+k:=by
    have:=sumTo_upd q k id hlt
    simpa [hqi] using this
   refine ⟨_,_,upd q i k,⟨run_next h.run (hst.trans hrun),?_,⟨fun j z hj hz=>?_,fun j hj=>?_⟩,h.past.mute (show i≠0 by omega) hm⟩,by simp,by omega,hoth (show i≠0 by omega)⟩
   ·rw [Array.getElem?_setIfInBounds_ne (show i≠0 by omega),Array.getElem?_map,h.main]
    simp [woken_run hg]
   ·by_cases hji:i=j
    ·subst hji
     rw [Array.getElem?_setIfInBounds_self_of_lt (by simpa using hlt)] at hz
     obtain rfl:=Option.some.inj hz
     rw [upd_same,Deaf_own]
     exact hq'
    ·rw [Array.getElem?_setIfInBounds_ne hji,Array.getElem?_map] at hz
     obtain ⟨y,hy,rfl⟩:=Option.map_eq_some_iff.1 hz
     have hqj:=h.leave.old j y hj hy
     rw [woken_quitsD hqj,upd_ne q k (Ne.symm hji),Deaf_other t hji _ (fun op hop=>by obtain ⟨e,_,rfl⟩:=Go.Conc.mem_ofEvents hop;rfl)]
     exact hqj
   ·have hj':gs.size≤j:=by simpa using hj
    rw [Deaf_other t (g':=i) (show i≠j by omega) _ (fun op hop=>by obtain ⟨e,_,rfl⟩:=Go.Conc.mem_ofEvents hop;rfl)]
    exact h.leave.above j hj'
end
end Go.Proofs.YtjnkcibpkkjniaaGreat.Sim
namespace Go.Proofs.YtjnkcibpkkjniaaGreat.Sim
open Go.Conc
open Go.ConcN (sumTo upd sumTo_upd upd_ne upd_same)
variable [Scope]
section
variable {P:Program}
theorem Ride.leave [Zeros P] [Codes P] {m0:Machine} {K:Nat} {T:Tape} {ρ:Ren} {c:Frame} {cs:List Frame} {k D:Nat} {gS g:Goroutine} {wS w:World} (h:Ride P m0 K T ρ (c::cs) k D gS wS g w) {v:Value}
  (hl:gS.frame.leaving P wS (.returned v)) (hcs:gS.callers=[cap P]) (main:Bool) (htape:∀ j q,w.drawn+j < (wof (stepG P main g w)).drawn→w.tape (w.drawn+j) q=T (D+j) q) :
  ∃ v' w' es ρ',stepG P main g w=.go { frame:=c.finish v',callers:=cs,status:=.running,dying:=none } w' es∧Grow ρ w ρ'∧Kept ρ w w'∧(∀ e∈es,EvOk ρ' e)∧HR ρ' wS w'∧VR ρ' v v':=by
 obtain ⟨hm,hd,hk,fn,hf,hr⟩:=hl
 have hL:TA ⟨some (wof (stepG P main g w)).drawn,(w.drawn:Int) - D,T⟩ wS w:=⟨by rw [h.drawn];simp only;omega,h.tape,fun j q hl=>by rw [h.tape,h.drawn];exact htape j q (hl _ rfl)⟩
 have ha:=run_alike (SR_results (P:=P) (fn:=fn) h.gr.frame.tmps) wS w #[] h.hr hL
 rw [hr] at ha
 obtain ⟨fr',ys,st',dy',off'⟩:=g
 have hs:st'=.running:=h.gr.status.2
 have hdy:dy'=none:=h.gr.dying.2
 subst hs hdy
 have hys:ys=c::cs:=by
  obtain ⟨us,vs,e1,e2,q,_⟩:=h.gr.callers
  rw [hcs] at e1
  cases q with
  | nil=>simpa using e2
  | cons _ _=>have:=congrArg List.length e1;simp at this
 subst hys
 have hm':fr'.mode=.returning:=by
  have:=h.gr.frame.mode
  rw [hm] at this
  simp only at this
  cases hq:fr'.mode <;> rw [hq] at this <;> first | rfl | cases this
 have hd':fr'.defers=[]:=by
  have:=h.gr.frame.defers
  rw [hd] at this
  simp only at this
  cases hq:fr'.defers <;> rw [hq] at this <;> first | rfl | cases this
 have hk':fr'.kind=.normal:=h.gr.frame.kind.trans hk
 have hf':P.funcs[fr'.fn]? = some fn:=by rw [show fr'.fn=gS.frame.fn from h.gr.frame.fn];exact hf
 have hst:stepG P main { frame:=fr',callers:=c::cs,status:=.running,dying:=none,offers:=off' } w=GStep.after (seen P fr'.fn ((results fn fr'.tmps).runT P w #[]).2) (match ((results fn fr'.tmps).runT P w #[]).1 with
   | .ok v w=>doReturn P main fr' (c::cs) none v w
   | .halt (.stuck s) w=>.ended (.stuck s (fr'.pos P)) w
   | .halt _ w=>.ended (.stuck "return: the result variables cannot be read" (fr'.pos P)) w):=by
  unfold stepG
  simp only [hm']
  unfold unwind
  simp only [hd',hm',hf']
  rfl
 have hfit:Fits ⟨some (wof (stepG P main { frame:=fr',callers:=c::cs,status:=.running,dying:=none,offers:=off' } w)).drawn,(w.drawn:Int) - D,T⟩ ((results fn fr'.tmps).runT P w #[]).1.world:=by
  intro l hl
  cases hl
  rw [hst,wof_after]
  generalize ((results fn fr'.tmps).runT P w #[]).1=r
  cases r with
  | ok v w=>simp only [doReturn_world];exact Nat.le_refl _
  | halt h w=>cases h <;> exact Nat.le_refl _
 unfold After at ha
 obtain ⟨v',w',new,ρ',e,hg,hv,hh',ht',hkp,hev⟩:=ha hfit
 rw [hst,e]
 refine ⟨v',w',seen P fr'.fn (#[]++new)++#[],ρ',?_,hg,hkp,?_,hh',hv⟩
 ·simp only [doReturn,hk',GStep.after]
 ·intro e he
  simp only [Array.append_empty] at he
  have:=seen_sub he
  simp only [Array.empty_append] at this
  exact hev e this
structure Away (Shun:Loc→Prop) (ρ:Ren) (w:World):Prop where
 cell:∀ b p a,ρ b=some p→a.block=p.block→¬ Shun (.cell a)
 obj:∀ b p,ρ b=some p→¬ Shun (.obj p.block)
 low:∀ l,Shun l→l.low w.heap.size
 out:¬ Shun .output
theorem Away.grow {Shun:Loc→Prop} {ρ ρ':Ren} {w w':World} (h:Away Shun ρ w) (g:Grow ρ w ρ') (hs:w.heap.size≤w'.heap.size):Away Shun ρ' w':=by
 refine ⟨fun b p a hb ha hx=>?_,fun b p hb hx=>?_,fun l hl=>Loc.low_mono hs (h.low l hl),h.out⟩
 ·rcases g.new b p hb with h1 | ⟨_,h1⟩
  ·exact h.cell b p a h1 ha hx
  ·have:a.block < w.heap.size:=h.low _ hx
   omega
 ·rcases g.new b p hb with h1 | ⟨_,h1⟩
  ·exact h.obj b p h1 hx
  ·have:p.block < w.heap.size:=h.low _ hx
   omega
theorem evl {Shun:Loc→Prop} {ρ:Ren} {wS w:World} (h:Away Shun ρ w) (hh:HR ρ wS w) {e:Event} (he:EvOk ρ e):EvL Shun w.heap.size e:=by
 obtain ⟨loc,wr,sy⟩:=e
 have size:∀ b p,ρ b=some p→p.block < w.heap.size:=fun b p hb=>by
  obtain ⟨_,_,_,h2,_⟩:=hh.obj b p hb
  exact (Array.getElem?_eq_some_iff.1 h2).1
 unfold EvOk at he
 cases loc with
 | cell a =>
  obtain ⟨b,p,hb,hp,_⟩:=he
  refine ⟨fun x hx hs=>?_,by simp,by simp,?_⟩
  ·have hxl:x.loc=.cell a:=by
    simp only [MemAct.ofEvent,MemAct.touch?] at hx
    split at hx <;> first | (cases hx;rfl) | cases hx
   rw [hxl] at hs
   exact absurd hs (h.cell b p a hb hp.symm)
  ·show a.block < _
   rw [←hp];exact size b p hb
 | obj r =>
  obtain ⟨b,hb⟩:=he
  have no:∀ x,(MemAct.ofEvent ⟨.obj r,wr,sy⟩).touch? = some x→x.loc=.obj r:=by
   intro x hx
   cases wr <;> cases sy <;> simp [MemAct.ofEvent,MemAct.touch?] at hx <;> rw [←hx]
  refine ⟨fun x hx hs=>?_,by simp,by simp,?_⟩
  ·rw [no x hx] at hs
   exact absurd hs (h.obj b _ hb)
  ·cases wr <;> cases sy <;> exact size b _ hb
 | mark m =>
  obtain rfl:m=.noRoom:=he
  exact ⟨fun x hx=>by simp [MemAct.ofEvent,MemAct.touch?] at hx,by simp,by simp,trivial⟩
 | output =>
  refine ⟨fun x hx hs=>?_,by simp,by simp,trivial⟩
  have hxl:x.loc=.output:=by
   simp only [MemAct.ofEvent,MemAct.touch?] at hx
   split at hx <;> first | (cases hx;rfl) | cases hx
  rw [hxl] at hs
  exact absurd hs h.out
 | _=>exact he.elim
theorem Grow.from_ {ρ ρ':Ren} {w v:World} (h:Grow ρ w ρ') (e:v.heap.size=w.heap.size):Grow ρ v ρ':=⟨h.le,by rw [e];exact h.new⟩
theorem Kept.from_ {ρ:Ren} {w v w':World} (h:Kept ρ w w') (e1:v.os=w.os) (e2:v.tape=w.tape) (e3:v.output=w.output) (e4:v.heap=w.heap) (e5:v.drawn≤w'.drawn):Kept ρ v w' :=
 ⟨by rw [e1];exact h.os,by rw [e2];exact h.tape,by rw [e3];exact h.output,e5,by rw [e4];exact h.size,by rw [e4];exact h.other,by rw [e4];exact h.part⟩
theorem Kept.to_ {ρ:Ren} {w v w':World} (h:Kept ρ w w') (e1:v.os=w'.os) (e2:v.tape=w'.tape) (e3:v.output=w'.output) (e4:v.heap=w'.heap) (e5:w.drawn≤v.drawn):Kept ρ w v :=
 ⟨e1.trans h.os,e2.trans h.tape,e3.trans h.output,e5,by rw [e4];exact h.size,by rw [e4];exact h.other,by rw [e4];exact h.part⟩
theorem calls_beside [Zeros P] [Codes P] {Shun:Loc→Prop} {gs:Array Goroutine} {w:World} {sl:Option (Nat×Nat)} {t:Trace} {q:Nat→Nat} {f:FuncId} (hf:Scope.ok f=true) {ρ:Ren} {args args':Array Value} (ha:VsR ρ args args')
  {wS:World} (hh:HR ρ wS w) {c:Frame} {cs:List Frame} (h0:gs[0]? = some { frame:=Frame.enter P f args' .normal,callers:=c::cs,status:=.running,dying:=none }) (hL:Leavers P t gs q) (hP:Past Shun w.heap.size t) (hS:Away Shun ρ w)
  {R:Value→World→Prop} (hc:∀ T,Calls P f args { wS with tape:=T,drawn:=0 } fun e w'=>∃ v,e=.returned v∧R v w') :
  ∃ N gs' w' sl' t' q' ρ' v v' wS',runNT P N (crowd gs w sl) t=(.next (crowd gs' w' sl'),t')∧gs'.size=gs.size∧gs'[0]? = some { frame:=c.finish v',callers:=cs,status:=.running,dying:=none }∧Leavers P t' gs' q'∧Past Shun w'.heap.size t' ∧
   Grow ρ w ρ'∧Kept ρ (w.at 0) w'∧HR ρ' wS' w'∧VR ρ' v v'∧R v wS':=by
 obtain ⟨pk,hpk⟩:=picks P
 obtain ⟨T,hT⟩:=glue (tapeOf P (crowd gs w sl) t) (segOf P pk 0 (crowd gs w sl) t)
 obtain ⟨K,frE,wE,e,hK,⟨v,rfl,hR⟩,hfn,hlv,hae⟩:=calls_lone (hc T) (by rintro w' ⟨v,hv,_⟩;cases hv)
 have hE:EndsAt P _ K frE wE:=⟨hK,hae.2.2,hae.2.1⟩
 have hstart:=Ride.start (P:=P) hf ha hh (c::cs) T K
 suffices key:∀ μ n gs1 w1 sl1 t1 q1 g1 k ρ1 gS wS1,Beside P (crowd gs w sl) t Shun n gs1 w1 sl1 t1 q1 g1→gs1.size=gs.size→Ride P (lone (Frame.enter P f args .normal) [cap P] { wS with tape:=T,drawn:=0 }) K T ρ1 (c::cs) k (sums (segOf P pk 0 (crowd gs w sl) t) n) gS wS1 g1 w1 →
   Grow ρ w ρ1→Kept ρ (w.at 0) w1→(K - k)+sumTo gs.size q1=μ →
   ∃ N gs' w' sl' t' q' ρ' v v' wS',runNT P N (crowd gs w sl) t=(.next (crowd gs' w' sl'),t')∧gs'.size=gs.size∧gs'[0]? = some { frame:=c.finish v',callers:=cs,status:=.running,dying:=none }∧Leavers P t' gs' q'∧Past Shun w'.heap.size t' ∧
    Grow ρ w ρ'∧Kept ρ (w.at 0) w'∧HR ρ' wS' w'∧VR ρ' v v'∧R v wS' from
  key _ 0 gs w sl t q _ 0 ρ _ _ ⟨rfl,h0,hL,hP⟩ rfl hstart (Grow.refl _ _) ((Kept.refl hh).from_ rfl rfl rfl rfl (Nat.zero_le _)) rfl
 intro μ
 induction μ using Nat.strongRecOn with
 | _ μ ih =>
  intro n gs1 w1 sl1 t1 q1 g1 k ρ1 gS wS1 hb hsz hr hg hk hμ
  have hrunning:g1.status=.running:=hr.gr.status.2
  obtain ⟨d,sl',hturn⟩:=turn (pk:=pk) hpk hb hrunning
  have hAway:=hS.grow hg hk.size
  have hr':Ride P (lone (Frame.enter P f args .normal) [cap P] { wS with tape:=T,drawn:=0 }) K T ρ1 (c::cs) k (sums (segOf P pk 0 (crowd gs w sl) t) n) gS wS1 g1 (w1.at d):=hr.others rfl (fun _=>rfl) fun b p o o' _ h1 h2=>⟨o,h1,h2⟩
  rcases hturn with ⟨gs2,t2,q2,hb2,hs2,hlt,hseg⟩ | ⟨hseg,hgo⟩
  ·have hsum:sums (segOf P pk 0 (crowd gs w sl) t) (n+1)=sums (segOf P pk 0 (crowd gs w sl) t) n:=by simp [sums,hseg]
   rw [hsz] at hlt
   exact ih ((K - k)+sumTo gs.size q2) (by omega) (n+1) gs2 (w1.at d) sl' t2 q2 g1 k ρ1 gS wS1 hb2 (hs2.trans hsz) (by rw [hsum];exact hr') hg (hk.to_ rfl rfl rfl rfl (Nat.zero_le _)) rfl
  ·have htape:∀ j x,(w1.at d).drawn+j < (wof (stepG P true g1 (w1.at d))).drawn→(w1.at d).tape ((w1.at d).drawn+j) x=T (sums (segOf P pk 0 (crowd gs w sl) t) n+j) x:=by
    intro j x hj
    have:=hT n j x (by rw [hseg];exact hj)
    rw [hseg,tapeOf_at hb.run] at this
    exact this.symm
   by_cases hend:AtEnd [cap P] gS
   ·obtain ⟨rfl,e1,rfl⟩:=hr.at_end hE hend
    obtain ⟨v',w',es,ρ',r0,r1',r2,r3,r4,r5⟩:=hr'.leave (v:=v) (by rw [e1];exact hlv) hend.1 true htape
    have r1:Grow ρ1 w1 ρ':=r1'.from_ rfl
    obtain ⟨gs2,t2,hb2,hs2⟩:=hgo _ _ _ r0 (fun e he=>evl (hAway.grow r1 r2.size) r4 (r3 e he)) r2.size
    exact ⟨n+1,gs2,w',sl',t2,q1,ρ',v,v',wS1,hb2.run,hs2.trans hsz,hb2.main,hb2.leave,hb2.past,hg.trans hk.size r1,(hk.to_ (v:=w1.at d) rfl rfl rfl rfl (Nat.zero_le _)).trans (hg.from_ rfl) r2,r4,r5,hR⟩
   ·obtain ⟨g2,w',es,ρ',gS',wS',r0,r1',r2,r3,r4⟩:=hr'.step hE hend true htape
    have r1:Grow ρ1 w1 ρ':=r1'.from_ rfl
    obtain ⟨gs2,t2,hb2,hs2⟩:=hgo _ _ _ r0 (fun e he=>evl (hAway.grow r1 r2.size) r4.hr (r3 e he)) r2.size
    have hsum:sums (segOf P pk 0 (crowd gs w sl) t) (n+1)=sums (segOf P pk 0 (crowd gs w sl) t) n+(w'.drawn - (w1.at d).drawn):=by
     simp only [sums,hseg]
     rw [r0];rfl
    have hle:=r4.le
    exact ih ((K - (k+1))+sumTo gs.size q1) (by omega) (n+1) gs2 w' sl' t2 q1 g2 (k+1) ρ' gS' wS' hb2 (hs2.trans hsz) (by rw [hsum];exact r4) (hg.trans hk.size r1) ((hk.to_ (v:=w1.at d) rfl rfl rfl rfl (Nat.zero_le _)).trans (hg.from_ rfl) r2) rfl
end
end Go.Proofs.YtjnkcibpkkjniaaGreat.Sim
namespace Go.Proofs.YtjnkcibpkkjniaaGreat.Sim
open Go.Conc
def Keeps {α:Type} (P:Program) (m:Sem α):Prop:=∀ w v w',m.run P w=.ok v w'→w'=w
section
variable {P:Program} {α β:Type}
theorem Keeps.pure (x:α):Keeps P (Pure.pure x:Sem α):=fun w v w' h=>by simp [go_sem] at h;exact h.2.symm
theorem Keeps.bind {m:Sem α} {k:α→Sem β} (hm:Keeps P m) (hk:∀ x,Keeps P (k x)):Keeps P (m >>= k):=fun w v w' h=>by
 rw [Sem.run_bind] at h
 cases hr:m.run P w with
 | ok x w1 =>
  rw [hr] at h
  have e:=hm w x w1 hr
  subst e
  exact hk x _ _ _ h
 | halt a b=>rw [hr] at h;cases h
theorem Keeps.halts {m:Sem α} (h:∀ w,∃ a w',m.run P w=.halt a w'):Keeps P m:=fun w v w' k=>by
 obtain ⟨a,w1,e⟩:=h w
 rw [e] at k;cases k
theorem Keeps.load (a:Addr):Keeps P (load a):=fun w v w' h=>by
 simp [go_sem] at h
 split at h
 ·cases h;rfl
 ·split at h <;> cases h;rfl
theorem Keeps.asAddr (v:Value):Keeps P (asAddr v):=by
 unfold Go.asAddr
 split
 ·exact Keeps.pure _
 ·exact Keeps.halts fun w=>by simp [go_sem]
 ·exact Keeps.halts fun w=>by simp [go_sem]
theorem Keeps.cellsFrom (a:Addr):∀ (n i:Nat) (acc:Array Value),Keeps P (loadCellsFrom a i n acc)
 | 0,i,acc=>Keeps.pure _
 | n+1,i,acc=>Keeps.bind (Keeps.load _) fun v=>Keeps.cellsFrom a n (i+1) (acc.push v)
theorem Keeps.typeInfo (t:TypeId):Keeps P (typeInfo t):=fun w v w' h=>by
 simp [Go.typeInfo,go_sem] at h
 split at h <;> simp_all [go_sem]
theorem Keeps.underlying (t:TypeId):Keeps P (underlying t):=fun w v w' h=>by
 simp [Go.underlying,go_sem] at h
 split at h <;> simp_all [go_sem]
theorem Keeps.isAgg (t:TypeId):Keeps P (isAgg t):=Keeps.bind (Keeps.underlying t) fun d=>by cases d <;> exact Keeps.pure _
theorem Keeps.loadVar (t:TypeId) (a:Addr):Keeps P (loadVar t a):=Keeps.bind (Keeps.isAgg t) fun b=>by
 cases b
 ·exact Keeps.load a
 ·exact Keeps.bind (Keeps.bind (Keeps.typeInfo t) fun _=>Keeps.pure _) fun n=>Keeps.bind (Keeps.cellsFrom a n 0 #[]) fun _=>Keeps.pure _
theorem Keeps.results (fn:Func) (tmps:Array Value):Keeps P (results fn tmps):=by
 unfold Go.results
 refine Keeps.bind ?_ fun _=>Keeps.pure _
 rw [Array.mapM_eq_mapM_toList]
 refine Keeps.bind ?_ fun _=>Keeps.pure _
 generalize fn.results.toList=l
 induction l with
 | nil=>simp only [List.mapM_nil];exact Keeps.pure _
 | cons x l ih =>
  simp only [List.mapM_cons]
  refine Keeps.bind ?_ fun _=>Keeps.bind ih fun _=>Keeps.pure _
  cases x with
  | tmp t=>exact Keeps.pure _
  | cell a t=>exact Keeps.bind (Keeps.asAddr _) fun _=>Keeps.loadVar _ _
end
end Go.Proofs.YtjnkcibpkkjniaaGreat.Sim
namespace Go.Proofs.YtjnkcibpkkjniaaGreat.Sim
open Go.Conc
def OffN (s:GStep):Prop:=match s with | .go g _ _=>g.offers=none | _=>True
theorem OffN.after {s:GStep} (es:Array Event) (h:OffN s):OffN (GStep.after es s):=by cases s <;> exact h
theorem OffN.go {fr:Frame} {cs:List Frame} {st:GoStatus} {d:Option Dying} {w:World} {es:Array Event}:OffN (.go { frame:=fr,callers:=cs,status:=st,dying:=d } w es):=rfl
theorem OffN.elim {α:Type} (o:Option α) {a:GStep} {f:α→GStep} (h1:OffN a) (h2:∀ x,OffN (f x)):OffN (o.elim a f):=by
 cases o
 ·exact h1
 ·exact h2 _
section
variable {P:Program}
theorem off_doReturn (main:Bool) (fr:Frame) (cs:List Frame) (v:Value) (w:World):OffN (doReturn P main fr cs none v w):=by
 unfold doReturn
 repeat' (first | exact OffN.go | trivial | split)
theorem off_dieOf (fr:Frame) (ps:List ByteArray) (m:String) (b:Bool) (w:World):OffN (dieOf fr ps m b w):=by
 unfold dieOf
 repeat' (first | exact OffN.go | trivial | refine OffN.after _ ?_ | split)
theorem off_endFatal (fr:Frame) (cs:List Frame) (m:String) (w:World):OffN (endFatal P fr cs none m w):=by
 unfold endFatal
 dsimp only
 repeat' (first | exact OffN.go | exact off_dieOf _ _ _ _ _ | trivial | refine OffN.after _ ?_ | split)
theorem off_early (fr:Frame) (cs:List Frame) (m:Nat) (w:World):OffN (early P fr cs none m w):=by
 unfold early
 repeat' (first | exact OffN.go | trivial | refine OffN.after _ ?_ | split | (dsimp only;split) | dsimp only)
theorem off_callDeferred (fr:Frame) (cs:List Frame) (d:Deferred) (w:World):OffN (callDeferred P fr cs none d w):=by
 unfold callDeferred
 repeat' (first | exact OffN.go | exact off_endFatal _ _ _ _ | trivial | refine OffN.after _ ?_ | split)
theorem off_unwind (main:Bool) (fr:Frame) (cs:List Frame) (w:World):OffN (unwind P main fr cs none w):=by
 unfold unwind
 repeat' (first | exact OffN.go | exact off_callDeferred _ _ _ _ | exact off_doReturn _ _ _ _ _ | trivial | refine OffN.after _ ?_ | split)
theorem off_apply (main:Bool) (fr:Frame) (cs:List Frame) (s:Sem Next) (w:World) (l:Bool):OffN (stepG.apply P l fr cs none s w):=by
 unfold stepG.apply
 refine OffN.after _ ?_
 repeat' (first | exact OffN.go | exact off_endFatal _ _ _ _ | exact off_early _ _ _ _ | trivial | split)
theorem off_exec (main:Bool) (fr:Frame) (cs:List Frame) (w:World) (l:Bool):OffN (stepG.exec P main l fr cs none w):=by
 unfold stepG.exec
 repeat' (first | exact OffN.go | exact off_apply main _ _ _ _ _ | exact off_doReturn _ _ _ _ _ | trivial | refine OffN.after _ ?_ | split)
 all_goals (try unfold stepG.oper)
 all_goals (try dsimp only)
 all_goals (try refine OffN.elim _ ?_ (fun x=>?_))
 all_goals (repeat' (first | exact OffN.go | exact off_apply main _ _ _ _ _ | exact off_doReturn _ _ _ _ _ | trivial | refine OffN.after _ ?_ | split))
theorem off_stepG (main:Bool) (fr:Frame) (cs:List Frame) (off:Option (Array CommCase×CommShape)) (w:World):OffN (stepG P main { frame:=fr,callers:=cs,status:=.running,dying:=none,offers:=off } w):=by
 unfold stepG
 cases hm:fr.mode with
 | run=>simp only [hm];exact off_exec _ _ _ _ _
 | returning=>simp only [hm];exact off_unwind _ _ _ _
 | panicking ch=>simp only [hm];exact off_unwind _ _ _ _
end
end Go.Proofs.YtjnkcibpkkjniaaGreat.Sim
namespace Go.Proofs.YtjnkcibpkkjniaaGreat.Sim
open Go.Conc
variable [Scope] {P:Program}
theorem calls_alike [Zeros P] [Codes P] {ρ:Ren} {f:FuncId} (hf:Scope.ok f=true) {args args':Array Value} (ha:VsR ρ args args') {wS w:World} (hh:HR ρ wS w) {R:Value→World→Prop}
  (hc:∀ T,Calls P f args { wS with tape:=T,drawn:=0 } fun e w'=>∃ v,e=.returned v∧R v w') :
  Calls P f args' w fun e w'=>∃ v v' wE ρ',e=.returned v'∧R v wE∧HR ρ' wE w'∧VR ρ' v v'∧Grow ρ w ρ'∧Kept ρ w w':=by
 intro cs
 obtain ⟨K,frE,wE,e,hrun,⟨v,rfl,hR⟩,hfn,hl,hend⟩:=calls_lone (hc fun j q=>w.tape (w.drawn+j) q) (fun w' ⟨v,h,_⟩=>by cases h)
 have hKE:EndsAt P (lone (Frame.enter P f args .normal) [cap P] { wS with tape:=fun j q=>w.tape (w.drawn+j) q,drawn:=0 }) K frE wE:=⟨hrun,by rw [hl.1];simp,hl.2.1⟩
 have key:∀ (n k D:Nat) (ρ1:Ren) (gS:Goroutine) (fr:Frame) (ys:List Frame) (wS1 w1:World),k+n=K →
   Ride P (lone (Frame.enter P f args .normal) [cap P] { wS with tape:=fun j q=>w.tape (w.drawn+j) q,drawn:=0 }) K (fun j q=>w.tape (w.drawn+j) q) ρ1 cs k D gS wS1 { frame:=fr,callers:=ys,status:=.running,dying:=none } w1 →
   Grow ρ w ρ1→Kept ρ w w1→w1.drawn=w.drawn+D→Steps P (lone (Frame.enter P f args' .normal) cs w) (lone fr ys w1) →
   ∃ fr' w' ρ' D',Steps P (lone (Frame.enter P f args' .normal) cs w) (lone fr' cs w')∧HR ρ' wE w'∧Grow ρ w ρ'∧Kept ρ w w'∧FrR P ρ' frE fr'∧wE.tape=(fun j q=>w.tape (w.drawn+j) q)∧wE.drawn=D'∧w'.drawn=w.drawn+D':=by
  intro n
  induction n with
  | zero =>
   intro k D ρ1 gS fr ys wS1 w1 hk hr hg hkp hd hs
   obtain rfl:k=K:=by omega
   have h1:=hr.run
   rw [hrun] at h1
   simp only [lone,Stepped.next.injEq,Machine.mk.injEq,Array.mk.injEq,List.cons.injEq,Goroutine.mk.injEq] at h1
   obtain ⟨e0,⟨⟨e1,e2,_⟩,_⟩,_⟩:=h1
   obtain ⟨us,vs,q1,q2,q3,_⟩:=hr.gr.callers
   have hus:us=[]:=by
    rw [←e2] at q1
    cases us with
    | nil=>rfl
    | cons u us=>have:=congrArg List.length q1;simp at this
   subst hus
   cases q3
   simp only [List.nil_append] at q2
   subst q2
   have hf2:=hr.gr.frame
   rw [←e1] at hf2
   have hh2:=hr.hr
   have ht2:=hr.tape
   have hd2:=hr.drawn
   rw [←e0] at hh2 ht2 hd2
   exact ⟨fr,w1,ρ1,D,hs,hh2,hg,hkp,hf2,ht2,hd2,hd⟩
  | succ n ih =>
   intro k D ρ1 gS fr ys wS1 w1 hk hr hg hkp hd hs
   have hne:¬ AtEnd [cap P] gS:=fun h=>by have:=(hr.at_end hKE h).1;omega
   obtain ⟨g',w',es,ρ',gS',wS',e1,e2,e3,e4,e5⟩:=hr.step hKE hne true (fun j q _=>by rw [hkp.tape,hd,Nat.add_assoc])
   have ho:=off_stepG (P:=P) true fr ys none w1
   rw [e1] at ho
   obtain ⟨fr2,ys2,st2,dy2,off2⟩:=g'
   have s1:=e5.gr.status.2
   have s2:=e5.gr.dying.2
   simp only at s1 s2
   subst s1 s2
   have ho:off2=none:=ho
   subst ho
   have hstep:step P (lone fr ys w1)=.next (lone fr2 ys2 w'):=step_lone_go (by rw [e1];rfl)
   refine ih (k+1) _ ρ' gS' fr2 ys2 wS' w' (by omega) e5 (hg.trans hkp.size e2) (hkp.trans hg e3) ?_ ?_
   ·have:=e3.drawn;omega
   ·exact Steps.trans hs (.one hstep)
 obtain ⟨fr',w',ρ',D',k1,k2,k3,k4,k5,k6,k7,k8⟩:=key K 0 0 ρ _ _ _ _ _ (by omega) (Ride.start hf ha hh cs _ K) (Grow.refl _ _) (Kept.refl hh) (by omega) (Steps.refl _ _)
 obtain ⟨hm,hd,hkd,fn,hfn2,hres⟩:=hl
 have hL:TA ⟨none,w.drawn,fun j q=>w.tape (w.drawn+j) q⟩ wE w':=by
  refine ⟨?_,k6,fun j q _=>?_⟩
  ·rw [k7,k8];simp only;omega
  ·rw [k6,k7,k4.tape,k8,Nat.add_assoc]
 have hal:=run_alike (SR_results (P:=P) (fn:=fn) k5.tmps) wE w' #[] k2 hL
 rw [hres] at hal
 obtain ⟨v',wB,new,ρ2,e,hg2,hn2,hh2,_,_,_⟩:=hal (fun l hl=>by cases hl)
 have er:(results fn fr'.tmps).run P w'=.ok v' wB:=by
  have:=congrArg (·.1) e
  rw [Sem.runT_eq] at this
  exact this
 have ew:=Keeps.results (P:=P) fn fr'.tmps w' v' wB er
 subst ew
 have hm':fr'.mode=.returning:=by
  have:=k5.mode
  rw [hm] at this
  cases hq:fr'.mode <;> rw [hq] at this <;> first | rfl | cases this
 have hd':fr'.defers=[]:=by
  have:=k5.defers
  rw [hd] at this
  cases hq:fr'.defers <;> rw [hq] at this <;> first | rfl | cases this
 exact ⟨.returned v',wB,fr',⟨v,v',wE,ρ2,rfl,hR,hh2,hn2,k3.trans k4.size hg2,k4⟩,k1,k5.fn.trans hfn,hm',hd',k5.kind.trans hkd,fn,by rw [k5.fn];exact hfn2,er⟩
end Go.Proofs.YtjnkcibpkkjniaaGreat.Sim
