import Derived.Test.YtjnkcibpkkjniaaGreatA01
set_option linter.unusedVariables false
set_option linter.unusedSimpArgs false
set_option linter.unusedSectionVars false
namespace Go.Proofs.YtjnkcibpkkjniaaGreat.Sim
variable [Scope]
section
variable {P:Program} {ρ:Ren}
theorem SR_intArith (op:BinOp) (k:IntKind) (a b:Int):SR P VR ρ (Op.intArith op k a b) (Op.intArith op k a b):=by
 unfold Op.intArith
 split <;> first | exact SR_ret (.int _ _) | exact SR_stuck
theorem SR_intDiv (op:BinOp) (k:IntKind) (a b:Int):SR P VR ρ (Op.intDiv op k a b) (Op.intDiv op k a b):=by
 unfold Op.intDiv
 refine SR.ite (fun _=>SR_panicOf (.error _) trivial) fun _=>?_
 split <;> first | exact SR_ret (.int _ _) | exact SR_stuck
theorem SR_intBits (op:BinOp) (k:IntKind) (a b:Int):SR P VR ρ (Op.intBits op k a b) (Op.intBits op k a b):=by
 unfold Op.intBits
 (try dsimp only)
 split <;> first | exact SR_ret (.int _ _) | exact SR_stuck
theorem SR_intCmp (op:BinOp) (a b:Int):SR P VR ρ (Op.intCmp op a b) (Op.intCmp op a b):=by
 unfold Op.intCmp
 split <;> first | exact SR_ret (.bool _) | exact SR_stuck
theorem SR_shift (op:BinOp) (k:IntKind) (a:Int) (k':IntKind) (b:Int):SR P VR ρ (Op.shift op k a k' b) (Op.shift op k a k' b):=by
 unfold Op.shift
 refine SR.ite (fun _=>SR_panicOf (.error _) trivial) fun _=>?_
 (try dsimp only)
 split <;> first | exact SR_ret (.int _ _) | exact SR_stuck
theorem SR_stringOp (op:BinOp) (a b:ByteArray):SR P VR ρ (Op.stringOp op a b) (Op.stringOp op a b):=by
 unfold Op.stringOp
 (try dsimp only)
 split
 ·exact SR.ite (fun _=>SR_unsupported) fun _=>SR_ret (.string _)
 all_goals first | exact SR_ret (.bool _) | exact SR_stuck
theorem SR_twoPlaces [Zeros P] {α:Type} {R:Ren→α→α→Prop} {a b:Addr} (ha:Scope.base≤a.block) (k:Nat×Nat→Sem α) (y:Sem α):SR P R ρ (Op.twoPlaces a b >>= k) y:=by
 unfold Op.twoPlaces
 have b1:Zeros.base (P:=P)=Zeros.base:=rfl
 have:=Zeros.base (P:=P)
 by_cases e:(a.block != b.block)=true
 ·refine SR.programL ?_
  show SR P R ρ (Sem.bind (if (a.block != b.block || decide (a.block ≥ P.globals.size))=true then _ else _) k) y
  rw [if_pos (by simp [e])]
  exact SR_unsupported
 ·refine SR.programL ?_
  show SR P R ρ (Sem.bind (if (a.block != b.block || decide (a.block ≥ P.globals.size))=true then _ else _) k) y
  rw [if_pos (by simp;right;omega)]
  exact SR_unsupported
theorem SR_ints [Zeros P] (op:BinOp) (t:TypeId) (k k':IntKind) (a b:Int):SR P VR ρ (binOp op t (.int k a) (.int k' b)) (binOp op t (.int k a) (.int k' b)):=by
  cases op <;> unfold binOp <;> (try dsimp only) <;> first
    | exact SR_shift _ _ _ _ _
    | (split
       · exact SR_stuck
       · first | exact SR_intArith _ _ _ _ | exact SR_intDiv _ _ _ _ | exact SR_intBits _ _ _ _ | exact SR_intCmp _ _ _)
theorem SR_strings [Zeros P] (op:BinOp) (t:TypeId) (a b:ByteArray):SR P VR ρ (binOp op t (.string a) (.string b)) (binOp op t (.string a) (.string b)):=by
 cases op <;> unfold binOp <;> exact SR_stringOp _ _ _
theorem SR_ptrL [Zeros P] (op:BinOp) (t:TypeId) (h1:op≠.eql) (h2:op≠.neq) (ht:∀ d,P.underlying t=some d→d≠.unsafePointer) {a a':Addr} {v v':Value} (ha:AR ρ a a') (hv:VR ρ v v') :
    SR P VR ρ (binOp op t (.pointer (some a)) v) (binOp op t (.pointer (some a')) v'):=by
  have add:SR P VR ρ (do if (←underlying t) matches .unsafePointer then movedPointer t (.pointer (some a)) v else movedNumber t (.pointer (some a)) v)
      (do if (←underlying t) matches .unsafePointer then movedPointer t (.pointer (some a')) v' else movedNumber t (.pointer (some a')) v'):=by
    refine SR.bind (SR_underlying t) fun ρ1 d d' l1 e=>?_
    obtain ⟨rfl,e0⟩:=e
    have:=ht d e0
    cases d <;> first | exact absurd rfl this | exact SR_movedNumber t (ha.mono l1) (hv.mono l1)
  have two:∀ (op:BinOp) {b b':Addr},AR ρ b b'→SR P VR ρ (do Op.addrCmp op (←behindNumber a).1 (←behindNumber b).1) (do Op.addrCmp op (←behindNumber a').1 (←behindNumber b').1):=by
    intro op b b' hb
    refine SR.bind (SR_behind ha) fun ρ1 x x' l1 hx=>?_
    refine SR.bind (SR_behind (hb.mono l1)) fun ρ2 y y' l2 hy=>?_
    unfold Op.addrCmp
    exact SR_twoPlaces hx.1.1 _ _
  cases hv with
  | int k n =>
    cases op <;> first
      | exact absurd rfl h1
      | exact absurd rfl h2
      | exact add
      | exact SR_movedNumber t ha (.int _ _)
      | exact SR_unsupported
      | exact SR.bind (SR_behind ha) fun ρ1 x x' l1 hx=>SR_addrMod _ _ hx.1
  | ptr hb =>
    cases op <;> first
      | exact absurd rfl h1
      | exact absurd rfl h2
      | exact two _ hb
      | exact SR_unsupported
      | (refine SR.bind (SR_behind ha) fun ρ1 x x' l1 hx=>SR.bind (SR_behind (hb.mono l1)) fun ρ2 y y' l2 hy=>?_
         unfold Op.addrSub
         exact SR_twoPlaces hx.1.1 _ _)
  | _=>cases op <;> first | exact absurd rfl h1 | exact absurd rfl h2 | exact SR_unsupported
theorem SR_ptrR [Zeros P] (op:BinOp) (t:TypeId) (h1:op≠.eql) (h2:op≠.neq) {a a':Addr} {k:IntKind} {n:Int} (ha:AR ρ a a') :
  SR P VR ρ (binOp op t (.int k n) (.pointer (some a))) (binOp op t (.int k n) (.pointer (some a'))):=by
 cases op <;> first
  | exact absurd rfl h1
  | exact absurd rfl h2
  | exact SR_movedNumber t ha (.int _ _)
  | exact SR_unsupported
  | exact SR.bind (SR_behind ha) fun ρ1 x x' l1 hx=>SR_addrMod _ _ hx.1
theorem SR_unsafeAddNil (t:TypeId) {y:Sem Value} (v:Value):SR P VR ρ (Builtin.unsafeAdd_ #[] t #[.pointer none,v]) y:=by
  unfold Builtin.unsafeAdd_
  cases v <;> first
    | exact SR_stuck
    | (rename_i k n
       by_cases h0:n=0
       · subst h0;exact SR_unsupported
       · show SR P VR ρ (if n=0 then _ else _) y
         rw [if_neg h0]
         by_cases h1:n < 0
         · show SR P VR ρ (if n < 0 then _ else _) y
           rw [if_pos h1];exact SR_unsupported
         · show SR P VR ρ (if n < 0 then _ else _) y
           rw [if_neg h1];exact SR_unsupported)
    | (rename_i a;cases a <;> first | exact SR_stuck | exact SR_unsupported)
theorem SR_movedNil (t:TypeId) (v v':Value):SR P VR ρ (movedNumber t (.pointer none) v) (movedNumber t (.pointer none) v'):=by
 unfold movedNumber
 refine SR.bind (SR_underlying t) fun ρ1 d d' l1 e=>?_
 obtain ⟨rfl,_⟩:=e
 (try dsimp only)
 refine SR.ite (fun _=>SR_unsupported) fun _=>?_
 exact SR_unsafeAddNil t v
theorem SR_addNil (t:TypeId) (v v':Value):SR P VR ρ (do if (←underlying t) matches .unsafePointer then movedPointer t (.pointer none) v else movedNumber t (.pointer none) v)
   (do if (←underlying t) matches .unsafePointer then movedPointer t (.pointer none) v' else movedNumber t (.pointer none) v'):=by
 refine SR.bind (SR_underlying t) fun ρ1 d d' l1 e=>?_
 obtain ⟨rfl,e0⟩:=e
 cases d <;> first | exact SR_movedNil t v v' | exact SR_unsafeAddNil t v
theorem SR_binOp [Zeros P] (op:BinOp) (t:TypeId) (ht:∀ d,P.underlying t=some d→d≠.unsafePointer) {v v' u u':Value} (hv:VR ρ v v') (hu:VR ρ u u')
  (he:(op=.eql∨op=.neq)→SR P (fun _ a b=>a=b) ρ (Op.equal t v u) (Op.equal t v' u')):SR P VR ρ (binOp op t v u) (binOp op t v' u'):=by
 by_cases hop:op=.eql∨op=.neq
 ·have eq1:SR P VR ρ (do pure (.bool (←Op.equal t v u))) (do pure (.bool (←Op.equal t v' u'))):=SR.bind (he hop) fun _ a b _ e=>by subst e;exact SR_ret (.bool _)
  have eq2:SR P VR ρ (do pure (.bool (!(←Op.equal t v u)))) (do pure (.bool (!(←Op.equal t v' u')))):=SR.bind (he hop) fun _ a b _ e=>by subst e;exact SR_ret (.bool _)
  rcases hop with rfl | rfl
  ·cases hv <;> first
    | exact eq1
    | (cases hu <;> first | exact eq1 | exact SR_ints _ _ _ _ _ _ | exact SR_strings _ _ _ _)
  ·cases hv <;> first
    | exact eq2
    | (cases hu <;> first | exact eq2 | exact SR_ints _ _ _ _ _ _ | exact SR_strings _ _ _ _)
 ·have h1:op≠.eql:=fun e=>hop (.inl e)
  have h2:op≠.neq:=fun e=>hop (.inr e)
  cases hv with
  | int k a =>
   cases hu with
   | int k' b=>exact SR_ints _ _ _ _ _ _
   | ptr hb=>exact SR_ptrR op t h1 h2 hb
   | _=>cases op <;> first | exact absurd rfl h1 | exact absurd rfl h2 | exact SR_stuck | exact SR_unsupported | exact SR_movedNil _ _ _
  | string a =>
   cases hu with
   | string b=>exact SR_strings _ _ _ _
   | _=>cases op <;> first | exact absurd rfl h1 | exact absurd rfl h2 | exact SR_stuck | exact SR_unsupported
  | ptr ha=>exact SR_ptrL op t h1 h2 ht ha hu
  | _=>cases hu <;> cases op <;> first | exact absurd rfl h1 | exact absurd rfl h2 | exact SR_stuck | exact SR_unsupported | exact SR_movedNil _ _ _ | exact SR_addNil _ _ _
theorem SR_unary (op:UnOp) {v v':Value} (h:VR ρ v v'):SR P VR ρ (Op.unary op v) (Op.unary op v'):=by
 unfold Op.unary
 cases op <;> cases h <;> first | exact SR_stuck | exact SR_unsupported | exact SR_ret (.bool _) | exact SR_intArith _ _ _ _ | exact SR_intBits _ _ _ _
end
end Go.Proofs.YtjnkcibpkkjniaaGreat.Sim
namespace Go.Proofs.YtjnkcibpkkjniaaGreat.Sim
variable [Scope]
def convOk (P:Program) (s d:TypeId):Bool :=
 match P.underlying s,P.underlying d with
 | some (.int _),some (.int _) | some .string,some .string | some (.int _),some .string=>true
 | some (.slice e),some .string | some .string,some (.slice e)=>match P.underlying e with
  | some (.int .u8)=>true
  | _=>false
 | _,_=>false
section
variable {P:Program} {ρ:Ren}
theorem SR_elemOf (t:TypeId):SR P (fun _ a b=>a=b) ρ (elemOf t) (elemOf t):=by
 unfold elemOf
 refine SR.bind (SR_underlying t) fun ρ1 d d' l1 e=>?_
 obtain ⟨rfl,_⟩:=e
 cases d <;> first | exact SR_ret rfl | exact SR_stuck
theorem SR_panicNil {α β:Type} {R:Ren→α→β→Prop}:SR P R ρ (runtimePanic .panicNil:Sem α) (runtimePanic .panicNil:Sem β):=by
 unfold runtimePanic
 refine SR_prog ?_
 refine SR.bind (SR_elemOf _) fun ρ1 a b l1 e=>?_
 subst e
 exact SR.bind (SR_newVar _ (VsR.nil ρ1).agg) fun ρ2 a a' _ ha=>SR_goPanic (.iface (.ptr ha))
theorem SR_panicAny {v v':Value} (h:VR ρ v v'):SR P VR ρ (Instr.panic v) (Instr.panic v'):=by
 by_cases hn:v=.nilIface
 ·subst hn
  cases h
  unfold Instr.panic
  refine SR.bind (R:=fun _ a b=>a=b) ?_ fun ρ1 a b l1 e=>?_
  ·unfold Instr.panicnil
   refine SR.env fun s=>?_
   exact SR_prog (SR_ret rfl)
  ·subst e
   exact SR.ite (fun _=>SR_goPanic .nilIface) fun _=>SR_panicNil
 ·exact SR_panic h hn
theorem SR_newRowX (e:TypeId) {c C:Array Value} (h:VsR ρ c C) :
  SR P (fun ρ a a'=>Scope.base≤a.block∧ρ a.block=some ⟨a'.block,none⟩∧a'.off=a.off∧a'.spot=a.spot) ρ (newRow e c) (newRow e C):=by
 unfold newRow
 exact SR.bind (SR_newObj (.cells h)) fun ρ' r r' _ hr=>SR_ret ⟨hr.1,hr.2,rfl,rfl⟩
theorem VsR.ints (f:UInt8→Value) (hf:∀ b,VR ρ (f b) (f b)) (s:ByteArray):VsR ρ (s.data.map f) (s.data.map f) :=
 ⟨rfl,fun i v v' a b=>by rw [a] at b;cases b;rw [Array.getElem?_map] at a;obtain ⟨x,_,rfl⟩:=Option.map_eq_some_iff.1 a;exact hf x⟩
theorem SR_stringToBytes (e:TypeId) (s:ByteArray):SR P VR ρ (Conv.stringToBytes e s) (Conv.stringToBytes e s):=by
 unfold Conv.stringToBytes
 refine SR.bind (SR_choose _) fun ρ1 n n' l1 he=>?_
 subst he
 (try dsimp only)
 refine SR.bind (SR_newRowX e ((VsR.ints (fun b=>.int .u8 b.toNat) (fun b=>.int _ _) s).append (VsR.replicate _ (.int .u8 0)))) fun ρ2 a a' l2 ha=>?_
 obtain ⟨h0,h1,h2,h3⟩:=ha
 refine SR.bind (R:=fun _ _ _=>True) ?_ fun ρ3 _ _ l3 _=>SR_ret (.slice _ _ ⟨h0,_,l3 _ _ h1,rfl,by simp [Place.shift,h2],h3⟩)
 unfold markStringish
 refine SR.bind (SR_shape h1) fun ρ3 s s' l3 hs=>?_
 have hs:s=s':=hs
 subst hs
 cases s with
 | none=>exact SR_ret trivial
 | some x=>exact .freeze (l3 _ _ h1) rfl (.pure trivial)
theorem SR_bytesFrom:∀ {l l':List Value} {ρ:Ren} (s:ByteArray),LsR ρ l l'→SR P (fun _ a b=>a=b) ρ
    (forIn l s fun c s=>do
      let .int .u8 n:=c | stuck "bytesToString: byte expected"
      pure (ForInStep.yield (s.push (UInt8.ofNat n.toNat))))
    (forIn l' s fun c s=>do
      let .int .u8 n:=c | stuck "bytesToString: byte expected"
      pure (ForInStep.yield (s.push (UInt8.ofNat n.toNat))))
  | [],_,ρ,s,h=>by cases h;simp only [List.forIn_nil];exact SR_ret rfl
  | c::l,_,ρ,s,h=>by
    cases h with
    | cons h1 h2 =>
      simp only [List.forIn_cons]
      cases h1 with
      | int k n =>
        cases k <;> first
          | exact SR_stuck
          | exact SR.bind (R:=fun _ a b=>a=b∧a=ForInStep.yield (s.push (UInt8.ofNat n.toNat))) (SR_ret ⟨rfl,rfl⟩) fun ρ1 a b l1 e=>by
              obtain ⟨rfl,rfl⟩:=e
              exact SR_bytesFrom _ (LsR.mono h2 l1)
      | _=>exact SR_stuck
theorem SR_bytesToString {v v':Value} (h:VR ρ v v'):SR P VR ρ (Conv.bytesToString v) (Conv.bytesToString v'):=by
 unfold Conv.bytesToString
 cases h with
 | slice0 l c=>exact SR_ret (.string _)
 | slice l c ha =>
  refine SR.bind (SR_loadCells l ha) fun ρ1 x x' l1 hx=>?_
  rw [←Array.forIn_toList,←Array.forIn_toList]
  refine SR.bind (SR_bytesFrom _ hx.list) fun ρ2 a b l2 e=>?_
  subst e
  exact SR_ret (.string _)
 | _=>exact SR_stuck
theorem SR_convert (s d:TypeId) (ho:convOk P s d=true) {v v':Value} (h:VR ρ v v'):SR P VR ρ (convert s d v) (convert s d v'):=by
 unfold convert
 refine SR.bind (SR_underlying s) fun ρ1 x x' l1 e=>?_
 obtain ⟨rfl,e1⟩:=e
 refine SR.bind (SR_underlying d) fun ρ2 y y' l2 e=>?_
 obtain ⟨rfl,e2⟩:=e
 have h2:=(h.mono l1).mono l2
 unfold convOk at ho
 rw [e1,e2] at ho
 cases x with
 | int k =>
  cases y with
  | int k'=>cases h2 <;> first | exact SR_ret (.int _ _) | exact SR_unsupported
  | string=>cases h2 <;> first | exact SR_ret (.string _) | exact SR_unsupported
  | _=>simp at ho
 | string =>
  cases y with
  | string=>cases h2 <;> first | exact SR_ret (.string _) | exact SR_unsupported
  | slice e =>
   have he:P.underlying e=some (.int .u8):=by
    simp only at ho
    split at ho
    ·assumption
    ·cases ho
   cases h2 with
   | string t =>
    refine SR.bind (SR_underlying e) fun ρ3 z z' l3 ez=>?_
    obtain ⟨rfl,ez⟩:=ez
    rw [he] at ez
    cases ez
    exact SR_stringToBytes e t
   | _=>exact SR_unsupported
  | _=>simp at ho
 | slice e =>
  cases y with
  | string =>
   have he:P.underlying e=some (.int .u8):=by
    simp only at ho
    split at ho
    ·assumption
    ·cases ho
   have main:SR P VR ρ2 (do match ←underlying e with
     | .int .u8=>Conv.bytesToString v
     | .int .i32=>Conv.runesToString v
     | _=>stuck "Convert: a slice of what to string?") (do match ←underlying e with
     | .int .u8=>Conv.bytesToString v'
     | .int .i32=>Conv.runesToString v'
     | _=>stuck "Convert: a slice of what to string?"):=by
    refine SR.bind (SR_underlying e) fun ρ3 z z' l3 ez=>?_
    obtain ⟨rfl,ez⟩:=ez
    rw [he] at ez
    cases ez
    exact SR_bytesToString (h2.mono l3)
   cases h2 <;> first | exact SR_ret (.string _) | exact main
  | _=>simp at ho
 | _=>cases y <;> simp at ho
end
end Go.Proofs.YtjnkcibpkkjniaaGreat.Sim
