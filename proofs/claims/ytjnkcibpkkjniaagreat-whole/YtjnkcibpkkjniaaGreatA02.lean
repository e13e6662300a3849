import Derived.Test.YtjnkcibpkkjniaaGreatA00
import Derived.Test.YtjnkcibpkkjniaaGreatA01
set_option linter.all false
set_option maxHeartbeats 1000000
namespace Go.Proofs.YtjnkcibpkkjniaaGreat.j7
section
variable [Scope]
section
variable {P:Program} {ρ:jR}
theorem Bv(op:BinOp)(k:IntKind)(a b:Int):SR P VR ρ (Op.intArith op k a b) (Op.intArith op k a b):=by
 unfold Op.intArith;split<;>first|exact jU (.int _ _)|exact j4
theorem Gu(op:BinOp)(k:IntKind)(a b:Int):SR P VR ρ (Op.intDiv op k a b) (Op.intDiv op k a b):=by
 unfold Op.intDiv;refine SR.ite (fun _=>oe (.error _) trivial) fun _=>?_
 split<;>first|exact jU (.int _ _)|exact j4
theorem Bw(op:BinOp)(k:IntKind)(a b:Int):SR P VR ρ (Op.intBits op k a b) (Op.intBits op k a b):=by
 unfold Op.intBits
 (try dsimp only);split<;>first|exact jU (.int _ _)|exact j4
theorem Gv(op:BinOp)(a b:Int):SR P VR ρ (Op.intCmp op a b) (Op.intCmp op a b):=by
 unfold Op.intCmp;split<;>first|exact jU (.bool _)|exact j4
theorem Gw(op:BinOp)(k:IntKind)(a:Int)(k':IntKind)(b:Int):SR P VR ρ (Op.shift op k a k' b) (Op.shift op k a k' b):=by
 unfold Op.shift;refine SR.ite (fun _=>oe (.error _) trivial) fun _=>?_
 (try dsimp only);split<;>first|exact jU (.int _ _)|exact j4
theorem yP(op:BinOp)(a b:ByteArray):SR P VR ρ (Op.stringOp op a b) (Op.stringOp op a b):=by
 unfold Op.stringOp
 (try dsimp only);split
 ·exact SR.ite (fun _=>kv) fun _=>jU (.string _)
 all_goals first|exact jU (.bool _)|exact j4
variable {α:Type} {a:Addr}
theorem Bx[ki P]{R:jR→α→α→Prop}{b:Addr}(c:Scope.base≤a.block)(k:Nat×Nat→Sem α)(y:Sem α):SR P R ρ (Op.twoPlaces a b >>= k) y:=by
 unfold Op.twoPlaces;have b1:ki.base (P:=P)=ki.base:=rfl;have:=ki.base (P:=P)
 by_cases e:(a.block != b.block)=true
 ·refine SR.pQ ?_;show SR P R ρ (Sem.bind (if(a.block != b.block || decide (a.block ≥ P.globals.size))=true then _ else _) k) y;rw[dj (by simp[e])];exact kv
 ·refine SR.pQ ?_;show SR P R ρ (Sem.bind (if(a.block != b.block || decide (a.block ≥ P.globals.size))=true then _ else _) k) y;rw[dj (by simp;right;omega)];exact kv
theorem yQ [ki P] (op:BinOp) (t:TypeId) (k k':IntKind) (a b:Int):SR P VR ρ (binOp op t (.int k a) (.int k' b)) (binOp op t (.int k a) (.int k' b)):=by
  cases op <;> unfold binOp <;> (try dsimp only) <;> first
    | exact Gw _ _ _ _ _
    | (split
       · exact j4
       · first | exact Bv _ _ _ _ | exact Gu _ _ _ _ | exact Bw _ _ _ _ | exact Gv _ _ _)
theorem yR[ki P](op:BinOp)(t:TypeId)(a b:ByteArray):SR P VR ρ (binOp op t (.string a) (.string b)) (binOp op t (.string a) (.string b)):=by
 cases op<;>unfold binOp<;>exact yP _ _ _
variable {a':Addr} {v v':Value}
theorem Gx [ki P] (op:BinOp) (t:TypeId) (h1:op≠.eql) (h2:op≠.neq) (ht:∀ d,P.underlying t=some d→d≠.unsafePointer) (ha:AR ρ a a') (hv:VR ρ v v') :
    SR P VR ρ (binOp op t (.pointer (some a)) v) (binOp op t (.pointer (some a')) v'):=by
  have add:SR P VR ρ (do if (←underlying t) matches .unsafePointer then movedPointer t (.pointer (some a)) v else movedNumber t (.pointer (some a)) v)
      (do if (←underlying t) matches .unsafePointer then movedPointer t (.pointer (some a')) v' else movedNumber t (.pointer (some a')) v'):=by
    refine SR.bind (lH t) fun ρ1 d d' l1 e=>?_
    obtain ⟨rfl,e0⟩:=e
    have:=ht d e0
    cases d <;> first | exact absurd rfl this | exact yO t (ha.mono l1) (hv.mono l1)
  have two:∀ (op:BinOp) {b b':Addr},AR ρ b b'→SR P VR ρ (do Op.addrCmp op (←behindNumber a).1 (←behindNumber b).1) (do Op.addrCmp op (←behindNumber a').1 (←behindNumber b').1):=by
    intro op b b' hb
    refine SR.bind (r7 ha) fun ρ1 x x' l1 hx=>?_
    refine SR.bind (r7 (hb.mono l1)) fun ρ2 y y' l2 hy=>?_
    unfold Op.addrCmp
    exact Bx hx.1.1 _ _
  by_cases tQ:v=.chan (some 1)
  · subst tQ;cases op <;> first | exact absurd rfl h1 | exact absurd rfl h2 | exact j4 | exact kv
  cases hv with
  | hole _ _=>exact absurd rfl tQ
  | int k n =>
    cases op <;> first
      | exact absurd rfl h1
      | exact absurd rfl h2
      | exact add
      | exact yO t ha (.int _ _)
      | exact kv
      | exact SR.bind (r7 ha) fun ρ1 x x' l1 hx=>Bs _ _ hx.1
  | ptr hb =>
    cases op <;> first
      | exact absurd rfl h1
      | exact absurd rfl h2
      | exact two _ hb
      | exact kv
      | (refine SR.bind (r7 ha) fun ρ1 x x' l1 hx=>SR.bind (r7 (hb.mono l1)) fun ρ2 y y' l2 hy=>?_
         unfold Op.addrSub
         exact Bx hx.1.1 _ _)
  | _=>cases op <;> first | exact absurd rfl h1 | exact absurd rfl h2 | exact kv
theorem Gy[ki P](op:BinOp)(t:TypeId)(c:op≠.eql)(d:op≠.neq){k:IntKind}{n:Int}(b:AR ρ a a'):SR P VR ρ (binOp op t (.int k n) (.pointer (some a))) (binOp op t (.int k n) (.pointer (some a'))):=by
 cases op<;>first
  |exact absurd rfl c
  |exact absurd rfl d
  |exact yO t b (.int _ _)
  |exact kv
  |exact SR.bind (r7 b) fun e x f g hx=>Bs _ _ hx.1
theorem Bz (t:TypeId) {y:Sem Value} (v:Value):SR P VR ρ (Builtin.unsafeAdd_ #[] t #[.pointer none,v]) y:=by
  unfold Builtin.unsafeAdd_
  cases v <;> first
    | exact j4
    | (rename_i k n
       by_cases h0:n=0
       · subst h0;exact kv
       · show SR P VR ρ (if n=0 then _ else _) y
         rw [dk h0]
         by_cases h1:n < 0
         · show SR P VR ρ (if n < 0 then _ else _) y
           rw [dj h1];exact kv
         · show SR P VR ρ (if n < 0 then _ else _) y
           rw [dk h1];exact kv)
    | (rename_i a;cases a <;> first | exact j4 | exact kv)
theorem yS(t:TypeId)(v v':Value):SR P VR ρ (movedNumber t (.pointer none) v) (movedNumber t (.pointer none) v'):=by
 unfold movedNumber;refine SR.bind (lH t) fun b d d' c e=>?_
 obtain⟨rfl,_⟩:=e
 (try dsimp only);refine SR.ite (fun _=>kv) fun _=>?_
 exact Bz t v
theorem Gz(t:TypeId)(v v':Value):SR P VR ρ (do if(←underlying t) matches .unsafePointer then movedPointer t (.pointer none) v else movedNumber t (.pointer none) v)
   (do if(←underlying t) matches .unsafePointer then movedPointer t (.pointer none) v' else movedNumber t (.pointer none) v'):=by
 refine SR.bind (lH t) fun b d d' c e=>?_
 obtain⟨rfl,f⟩:=e
 cases d<;>first|exact yS t v v'|exact Bz t v
def tR (P:Program) (t:TypeId) (x u:Value):Prop:=(∀d e,P.underlying t≠some (.chan d e))∨(∀r,x≠.chan r)∨(∀r,u≠.chan r)
variable {β:Type} {x u:Value}
theorem GA{R:jR→α→β→Prop}(n:Nat)(t:TypeId)(e:tR P t x u)(h:x=.chan (some 1)∨u=.chan (some 1))(k:Bool→Sem α)(y:Sem β):SR P R ρ (Op.equalIn (n+1) t x u >>= k) y:=by
 simp only[Op.equalIn];unfold underlying;refine SR.pQ ?_;show SR P R ρ (Sem.bind (Sem.bind (match P.underlying t with|some d=>Pure.pure d|none=>stuck "no such type") _) k) y;unfold tR at e
 cases hu:P.underlying t with
 |none=>exact j4
 |some d =>
  rw[hu]at e;rcases h with rfl|rfl
  ·rcases u with b|⟨k,((_|n)|n)⟩|⟨k,n⟩|⟨k,a,b⟩|s|(_|a)|⟨(_|a),l,c⟩|(_|r)|(_|r)|⟨f,a,b⟩|_|⟨t',v⟩|_|xs|xs<;>cases d<;>first|exact j4|exact kv|(exfalso;rcases e with e|e|e<;>first|exact e _ _ rfl|exact e _ rfl)
  ·rcases x with b|⟨k,((_|n)|n)⟩|⟨k,n⟩|⟨k,a,b⟩|s|(_|a)|⟨(_|a),l,c⟩|(_|r)|(_|r)|⟨f,a,b⟩|_|⟨t',v⟩|_|xs|xs<;>cases d<;>first|exact j4|exact kv|(exfalso;rcases e with e|e|e<;>first|exact e _ _ rfl|exact e _ rfl)
theorem xA{R:jR→α→β→Prop}(t:TypeId)(b:tR P t x u)(h:x=.chan (some 1)∨u=.chan (some 1))(k:Bool→Sem α)(y:Sem β):SR P R ρ (Op.equal t x u >>= k) y:=GA 9999 t b h k y
theorem GB[ki P](op:BinOp)(t:TypeId)(u:Value)(y:Sem Value)(b:(op=.eql∨op=.neq)→tR P t (.chan (some 1)) u):SR P VR ρ (binOp op t (.chan (some 1)) u) y:=by
 cases op<;>cases u<;>first|exact j4|exact kv|exact xA t (b (.inl rfl)) (.inl rfl) _ _|exact xA t (b (.inr rfl)) (.inl rfl) _ _
theorem GC[ki P](op:BinOp)(t:TypeId)(x:Value)(y:Sem Value)(b:(op=.eql∨op=.neq)→tR P t x (.chan (some 1))):SR P VR ρ (binOp op t x (.chan (some 1))) y:=by
 cases op<;>cases x<;>first|exact j4|exact kv|exact xA t (b (.inl rfl)) (.inr rfl) _ _|exact xA t (b (.inr rfl)) (.inr rfl) _ _|(rename_i a;cases a<;>first|exact j4|exact kv)
theorem GF[ki P](op:BinOp)(t:TypeId)(p:∀d,P.underlying t=some d→d≠.unsafePointer){g:Value}(o:VR ρ v v')(hu:VR ρ u g)(he:(op=.eql∨op=.neq)→SR P (fun _ a b=>a=b) ρ (Op.equal t v u) (Op.equal t v' g))(h:(op=.eql∨op=.neq)→tR P t v u):SR P VR ρ (binOp op t v u) (binOp op t v' g):=by
 by_cases n:v=.chan (some 1)
 ·subst n;exact GB op t u _ h
 by_cases c:u=.chan (some 1)
 ·subst c;exact GC op t v _ h
 by_cases f:op=.eql∨op=.neq
 ·have i:SR P VR ρ (do pure (.bool (←Op.equal t v u))) (do pure (.bool (←Op.equal t v' g))):=SR.bind (he f) fun _ a b _ e=>by subst e;exact jU (.bool _)
  have j:SR P VR ρ (do pure (.bool (!(←Op.equal t v u)))) (do pure (.bool (!(←Op.equal t v' g)))):=SR.bind (he f) fun _ a b _ e=>by subst e;exact jU (.bool _)
  rcases f with rfl|rfl
  ·cases o<;>first
    |exact absurd rfl n
    |exact i
    |(cases hu<;>first|exact absurd rfl c|exact i|exact yQ _ _ _ _ _ _|exact yR _ _ _ _)
  ·cases o<;>first
    |exact absurd rfl n
    |exact j
    |(cases hu<;>first|exact absurd rfl c|exact j|exact yQ _ _ _ _ _ _|exact yR _ _ _ _)
 ·have l:op≠.eql:=fun e=>f (.inl e)
  have m:op≠.neq:=fun e=>f (.inr e)
  cases o with
  |int k a =>
   cases hu with
   |int k' b=>exact yQ _ _ _ _ _ _
   |ptr hb=>exact Gy op t l m hb
   |hole _ _=>exact absurd rfl c
   |_=>cases op<;>first|exact absurd rfl l|exact absurd rfl m|exact j4|exact kv|exact yS _ _ _
  |string a =>
   cases hu with
   |string b=>exact yR _ _ _ _
   |hole _ _=>exact absurd rfl c
   |_=>cases op<;>first|exact absurd rfl l|exact absurd rfl m|exact j4|exact kv
  |ptr q=>exact Gx op t l m p q hu
  |hole _ _=>exact absurd rfl n
  |_ =>
   cases hu with
   |hole _ _=>exact absurd rfl c
   |_=>cases op<;>first|exact absurd rfl l|exact absurd rfl m|exact j4|exact kv|exact yS _ _ _|exact Gz _ _ _
theorem GG(op:UnOp)(h:VR ρ v v'):SR P VR ρ (Op.unary op v) (Op.unary op v'):=by
 unfold Op.unary
 cases op<;>cases h<;>first|exact j4|exact kv|exact jU (.bool _)|exact Bv _ _ _ _|exact Bw _ _ _ _
end
end
section
variable [Scope]
def yT (P:Program) (s d:TypeId):Bool :=
 match P.underlying s,P.underlying d with
 |some (.int _),some (.int _)|some .string,some .string|some (.int _),some .string=>true
 |some (.slice e),some .string|some .string,some (.slice e)=>match P.underlying e with
  |some (.int .u8)=>true
  |_=>false
 |_,_=>false
section
variable {P:Program} {ρ:jR}
theorem GH(t:TypeId):SR P (fun _ a b=>a=b) ρ (elemOf t) (elemOf t):=by
 unfold elemOf;refine SR.bind (lH t) fun c d d' f e=>?_
 obtain⟨rfl,_⟩:=e
 cases d<;>first|exact jU rfl|exact j4
theorem GI{α β:Type}{R:jR→α→β→Prop}:SR P R ρ (runtimePanic .panicNil:Sem α) (runtimePanic .panicNil:Sem β):=by
 unfold runtimePanic;refine uP ?_;refine SR.bind (GH _) fun c a b g e=>?_
 subst e;exact SR.bind (yF _ (jW.nil c).agg) fun d a a' _ f=>tN (.iface (.ptr f))
variable {v v':Value}
theorem BA(h:VR ρ v v'):SR P VR ρ (Instr.panic v) (Instr.panic v'):=by
 by_cases c:v=.nilIface
 ·subst c
  cases h
  unfold Instr.panic;refine SR.bind (R:=fun _ a b=>a=b) ?_ fun d a b f e=>?_
  ·unfold Instr.panicnil;refine SR.env fun s=>?_
   exact uP (jU rfl)
  ·subst e;exact SR.ite (fun _=>tN .nilIface) fun _=>GI
 ·exact Gc h c
theorem GJ(e:TypeId){c C:Array Value}(h:jW ρ c C):SR P (fun ρ a a'=>Scope.base≤a.block∧ρ a.block=some ⟨a'.block,none⟩∧a'.off=a.off∧a'.spot=a.spot) ρ (newRow e c) (newRow e C):=by
 unfold newRow;exact SR.bind (yE (.cells h)) fun ρ' r r' _ hr=>jU ⟨hr.1,hr.2,rfl,rfl⟩
theorem jW.ints(f:UInt8→Value)(c:∀b,VR ρ (f b) (f b))(s:ByteArray):jW ρ (s.data.map f) (s.data.map f) :=
 ⟨rfl,fun i v v' a b=>by rw[a]at b;cases b;rw[dQ]at a;obtain⟨x,_,rfl⟩:=eg.1 a;exact c x⟩
theorem GK(e:TypeId)(s:ByteArray):SR P VR ρ (Conv.stringToBytes e s) (Conv.stringToBytes e s):=by
 unfold Conv.stringToBytes;refine SR.bind (uQ _) fun h n n' o he=>?_
 subst he
 (try dsimp only);refine SR.bind (GJ e ((jW.ints (fun b=>.int .u8 b.toNat) (fun b=>.int _ _) s).append (jW.replicate _ (.int .u8 0)))) fun i a a' p j=>?_
 obtain⟨k,c,l,m⟩:=j;refine SR.bind (R:=fun _ _ _=>True) ?_ fun d _ _ f _=>jU (.slice _ _ ⟨k,_,f _ _ c,rfl,by simp[Place.shift,l],m⟩)
 unfold markStringish;refine SR.bind (uS c) fun d s s' f g=>?_
 have g:s=s':=g;subst g
 cases s with
 |none=>exact jU trivial
 |some x=>exact .freeze (f _ _ c) rfl (.pure trivial)
theorem BB:∀ {l l':List Value} {ρ:jR} (s:ByteArray),ou ρ l l'→SR P (fun _ a b=>a=b) ρ
    (forIn l s fun c s=>do
      let .int .u8 n:=c | stuck "bytesToString: byte expected"
      pure (ForInStep.yield (s.push (UInt8.ofNat n.toNat))))
    (forIn l' s fun c s=>do
      let .int .u8 n:=c | stuck "bytesToString: byte expected"
      pure (ForInStep.yield (s.push (UInt8.ofNat n.toNat))))
  | [],_,ρ,s,h=>by cases h;simp only [List.forIn_nil];exact jU rfl
  | c::l,_,ρ,s,h=>by
    cases h with
    | cons h1 h2 =>
      simp only [List.forIn_cons]
      cases h1 with
      | int k n =>
        cases k <;> first
          | exact j4
          | exact SR.bind (R:=fun _ a b=>a=b∧a=ForInStep.yield (s.push (UInt8.ofNat n.toNat))) (jU ⟨rfl,rfl⟩) fun ρ1 a b l1 e=>by
              obtain ⟨rfl,rfl⟩:=e
              exact BB _ (ou.mono h2 l1)
      | _=>exact j4
theorem GL(h:VR ρ v v'):SR P VR ρ (Conv.bytesToString v) (Conv.bytesToString v'):=by
 unfold Conv.bytesToString
 cases h with
 |lW l c=>exact jU (.string _)
 |slice l c d =>
  refine SR.bind (yG l d) fun f x i j hx=>?_
  rw[←ej,←ej];refine SR.bind (BB _ hx.list) fun g a b k e=>?_
  subst e;exact jU (.string _)
 |mN _ _=>exact jU (.string _)
 |_=>exact j4
theorem GM(s d:TypeId)(b:yT P s d=true)(h:VR ρ v v'):SR P VR ρ (convert s d v) (convert s d v'):=by
 unfold convert;refine SR.bind (lH s) fun l x w m e=>?_
 obtain⟨rfl,n⟩:=e;refine SR.bind (lH d) fun g y A o e=>?_
 obtain⟨rfl,p⟩:=e;have f:=(h.mono m).mono o;unfold yT at b;rw[n,p]at b
 cases x with
 |int k =>
  cases y with
  |int k'=>cases f<;>first|exact jU (.int _ _)|exact kv
  |string=>cases f<;>first|exact jU (.string _)|exact kv
  |_=>simp at b
 |string =>
  cases y with
  |string=>cases f<;>first|exact jU (.string _)|exact kv
  |slice e =>
   have he:P.underlying e=some (.int .u8):=by
    simp only at b;split at b
    ·assumption
    ·cases b
   cases f with
   |string t =>
    refine SR.bind (lH e) fun i z q j c=>?_
    obtain⟨rfl,c⟩:=c;rw[he]at c
    cases c
    exact GK e t
   |_=>exact kv
  |_=>simp at b
 |slice e =>
  cases y with
  |string =>
   have he:P.underlying e=some (.int .u8):=by
    simp only at b;split at b
    ·assumption
    ·cases b
   have main:SR P VR g (do match ←underlying e with
     | .int .u8=>Conv.bytesToString v
     | .int .i32=>Conv.runesToString v
     |_=>stuck "Convert: a slice of what to string?") (do match ←underlying e with
     | .int .u8=>Conv.bytesToString v'
     | .int .i32=>Conv.runesToString v'
     |_=>stuck "Convert: a slice of what to string?"):=by
    refine SR.bind (lH e) fun i z q j c=>?_
    obtain⟨rfl,c⟩:=c;rw[he]at c
    cases c
    exact GL (f.mono j)
   cases f with
   |hole B r=>cases v'<;>first|exact main|simp[mM]at r
   |_=>first|exact jU (.string _)|exact main
  |_=>simp at b
 |_=>cases y<;>simp at b
end
end
end Go.Proofs.YtjnkcibpkkjniaaGreat.j7
