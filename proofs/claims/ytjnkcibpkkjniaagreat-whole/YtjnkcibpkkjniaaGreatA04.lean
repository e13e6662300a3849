import Derived.Test.YtjnkcibpkkjniaaGreatA00
import Derived.Test.YtjnkcibpkkjniaaGreatA03
import Derived.Conc.Beside
import Derived.Orders
set_option linter.all false
namespace Go.Proofs.YtjnkcibpkkjniaaGreat
def eL:=@Go.runNT_add
def eM:=@Go.Conc.woken_quitsD
def eN:=@Go.Conc.Deaf_other
def eP:=@Go.Conc.mem_ofEvents
def eU:=@Go.Conc.awake_of
def eZ:=@Go.Conc.runT_crowd_go
def fb:=@Go.ConcN.sumTo_upd
def fe:=@Go.Conc.woken_run
def fg:=@Go.ConcN.upd_same
def fh:=@Go.Conc.Deaf_own
def fi:=@Go.ConcN.upd_ne
def fp:=@Go.Conc.stepG_cond
def fq:=@Go.Conc.stepG_region
def ft:=@Go.Conc.goes_call
def fv:=@Go.Conc.goes_go
def fy:=@Go.Conc.events_results_tmp
def fE:=@Go.Conc.touch_of
def fF:=@Go.Conc.getElem?_append_cases
def fG:=@Go.Conc.lt_size_of_getElem?
def fH:=@Go.Conc.noRace_append
def fW:=@Go.Conc.Goes.rely
def fX:=@Go.Conc.Goes.running
def fY:=@Go.Conc.seen_none
def ga:=@Go.mem_ready
def gp:=@Go.Conc.Goes.step
def gq:=@Go.Conc.stepG_value
def gu:=@Go.Conc.mem_listed
def gv:=@Go.ConcN.cell_of_block
def gF:=@Go.Conc.ofEvents_eq
def gM:=@Go.Conc.Goes.cases
def iB:=@Go.wp_region_any
def iD:=@Go.RowKit.Below.refl
def iG:=@Go.RowKit.Below.drew
def iH:=@Go.RowKit.Below.alloc
def iL:=@Go.RowKit.Below.setCell
def iN:=@Go.heap_alloc_new
def iO:=@Go.heap_alloc_old
def iR:=@Go.World.ownsRow_nil
def iX:=@Go.World.ownsRow.lt
def jd:=@Go.RowKit.Below.trans
def ji:=@Go.ByteArray.toList_eq
def jl:=@Go.heap_alloc_new
def jv:=@Go.run_append_own
def jx:=@Go.World.cell?_of_block
def jI:=@Go.cell_of_row
def jL:=@Go.frozen_of_row
def jO:=@Go.DataW.trod_int
end Go.Proofs.YtjnkcibpkkjniaaGreat
namespace Go.Proofs.YtjnkcibpkkjniaaGreat.j7
section
variable [Scope]
inductive rz (ρ:jR):Option Addr→Option Addr→Prop
 |none:rz ρ none none
 |some {a a':Addr}:AR ρ a a'→rz ρ (some a) (some a')
theorem rz.mono{ρ ρ':jR}{x y:Option Addr}(h:rz ρ x y)(l:ρ.le ρ'):rz ρ' x y:=by
 cases h with
 |none=>exact .none
 |some h=>exact .some (h.mono l)
theorem rz.slice{ρ:jR}{x y:Option Addr}(h:rz ρ x y)(l c:Nat):VR ρ (.slice x l c) (.slice y l c):=by
 cases h with
 |none=>exact .lW l c
 |some h=>exact .slice l c h
section
variable {P:Program} {ρ:jR}
theorem GY[ki P](ts:Array TypeId)(t:TypeId){xs ys:Array Value}(h:jW ρ xs ys):SR P VR ρ (Builtin.append_ ts t xs) (Builtin.append_ ts t ys):=by
 unfold Builtin.append_;have ho:=h.opt 0;have aa:=h.opt 1;generalize xs[0]?=x0,ys[0]?=y0 at ho;generalize xs[1]?=x1,ys[1]?=y1 at aa
 cases ts[0]? with
 |none=>exact j4
 |some st =>
  cases ho with
  |none=>exact j4
  | @some s s' hs =>
   cases aa with
   |none=>exact j4
   | @some x O hx =>
    refine SR.bind (lH st) fun U d d' l1 e=>?_
    obtain⟨rfl,_⟩:=e
    cases d with
    |slice elem =>
     have af:=hs.mono l1;have ag:=hx.mono l1;have main:∀(base r:Option Addr)(m p:Nat),(rz U base r∨(m=0∧p=0∧VR U (.slice base 0 0) (.slice r 0 0)∧base.isSome=true∧r.isSome=true))→SR P VR U
       (do
        let size ←sizeOf elem
        let mS ←match ts[1]? with
         |some C=>do pure ((←underlying C) matches .int _)
         |none=>pure false
        let n ←if mS then do
          let l:=IntKind.i64.wrap (←asInt x)
          if l<0 then runtimePanic (.error "makeslice: len out of range")
          if l*(←typeInfo elem).bytes > 2 ^ 48 then
           let made ←choose (.extern "append.ofMake.carriedOut" 2)
           runtimePanic (.error (if made == 1 then "makeslice: len out of range" else "growslice: len out of range"))
          pure l.toNat
         else Builtin.lenOf x
        let o:Sem (Array Value) :=
         if !mS then Builtin.firstCells size n x
         else if n*size=0 then pure #[]
         else do pure (Builtin.zeroCells (←zeroValue elem).cells n)
        let need:=m+n
        if need≤p then
         let new ←o
         if let some a:=base then storeCells (a.add (m*size)) new.toList
         pure (.slice base need p)
        else
         if(need:Int) > IntKind.i64.max∧(mS∨(←typeInfo elem).bytes=0) then runtimePanic (.error "growslice: len out of range")
         if Builtin.nextslicecap need p*(←typeInfo elem).bytes > 2 ^ 48 then(if mS then runtimePanic (.error "growslice: len out of range") else do
          if !(←Builtin.mayShare size m n base x) then mark .noRoom
          unsupported (.resourceLimit "append: a slice or a string whose bytes no memory bears"))
         let u ←choose (.appendCap need p elem)
         askRoom (u*(←typeInfo elem).bytes)
         let old ←Builtin.firstCells size m (.slice base m p)
         let new ←o
         let rest:=Builtin.zeroCells (←zeroValue elem).cells (u-need)
         pure (.slice (some (←newRow elem (old++new++rest))) need u))
       (do
        let size ←sizeOf elem
        let mS ←match ts[1]? with
         |some C=>do pure ((←underlying C) matches .int _)
         |none=>pure false
        let n ←if mS then do
          let l:=IntKind.i64.wrap (←asInt O)
          if l<0 then runtimePanic (.error "makeslice: len out of range")
          if l*(←typeInfo elem).bytes > 2 ^ 48 then
           let made ←choose (.extern "append.ofMake.carriedOut" 2)
           runtimePanic (.error (if made == 1 then "makeslice: len out of range" else "growslice: len out of range"))
          pure l.toNat
         else Builtin.lenOf O
        let o:Sem (Array Value) :=
         if !mS then Builtin.firstCells size n O
         else if n*size=0 then pure #[]
         else do pure (Builtin.zeroCells (←zeroValue elem).cells n)
        let need:=m+n
        if need≤p then
         let new ←o
         if let some a:=r then storeCells (a.add (m*size)) new.toList
         pure (.slice r need p)
        else
         if(need:Int) > IntKind.i64.max∧(mS∨(←typeInfo elem).bytes=0) then runtimePanic (.error "growslice: len out of range")
         if Builtin.nextslicecap need p*(←typeInfo elem).bytes > 2 ^ 48 then(if mS then runtimePanic (.error "growslice: len out of range") else do
          if !(←Builtin.mayShare size m n r O) then mark .noRoom
          unsupported (.resourceLimit "append: a slice or a string whose bytes no memory bears"))
         let u ←choose (.appendCap need p elem)
         askRoom (u*(←typeInfo elem).bytes)
         let old ←Builtin.firstCells size m (.slice r m p)
         let new ←o
         let rest:=Builtin.zeroCells (←zeroValue elem).cells (u-need)
         pure (.slice (some (←newRow elem (old++new++rest))) need u)):=by
      intro base r m p hb;refine SR.bind (pR elem) fun V size ah l2 e=>?_
      obtain⟨rfl,_⟩:=e;have ai:rz V base r∨(m=0∧p=0∧VR V (.slice base 0 0) (.slice r 0 0)∧base.isSome=true∧r.isSome=true):=hb.imp (·.mono l2) fun h=>⟨h.1,h.2.1,h.2.2.1.mono l2,h.2.2.2⟩
      have H:=ag.mono l2;have behind:∀(y:jR)(mS:Bool)(n:Nat),V.le y→(mS=false→∀ad,x=.slice (some ad) 0 0→n=0)→SR P VR y
        (do
         let o:Sem (Array Value) :=
          if !mS then Builtin.firstCells size n x
          else if n*size=0 then pure #[]
          else do pure (Builtin.zeroCells (←zeroValue elem).cells n)
         let need:=m+n
         if need≤p then
          let new ←o
          if let some a:=base then storeCells (a.add (m*size)) new.toList
          pure (.slice base need p)
         else
          if(need:Int) > IntKind.i64.max∧(mS∨(←typeInfo elem).bytes=0) then runtimePanic (.error "growslice: len out of range")
          if Builtin.nextslicecap need p*(←typeInfo elem).bytes > 2 ^ 48 then(if mS then runtimePanic (.error "growslice: len out of range") else do
           if !(←Builtin.mayShare size m n base x) then mark .noRoom
           unsupported (.resourceLimit "append: a slice or a string whose bytes no memory bears"))
          let u ←choose (.appendCap need p elem)
          askRoom (u*(←typeInfo elem).bytes)
          let old ←Builtin.firstCells size m (.slice base m p)
          let new ←o
          let rest:=Builtin.zeroCells (←zeroValue elem).cells (u-need)
          pure (.slice (some (←newRow elem (old++new++rest))) need u))
        (do
         let o:Sem (Array Value) :=
          if !mS then Builtin.firstCells size n O
          else if n*size=0 then pure #[]
          else do pure (Builtin.zeroCells (←zeroValue elem).cells n)
         let need:=m+n
         if need≤p then
          let new ←o
          if let some a:=r then storeCells (a.add (m*size)) new.toList
          pure (.slice r need p)
         else
          if(need:Int) > IntKind.i64.max∧(mS∨(←typeInfo elem).bytes=0) then runtimePanic (.error "growslice: len out of range")
          if Builtin.nextslicecap need p*(←typeInfo elem).bytes > 2 ^ 48 then(if mS then runtimePanic (.error "growslice: len out of range") else do
           if !(←Builtin.mayShare size m n r O) then mark .noRoom
           unsupported (.resourceLimit "append: a slice or a string whose bytes no memory bears"))
          let u ←choose (.appendCap need p elem)
          askRoom (u*(←typeInfo elem).bytes)
          let old ←Builtin.firstCells size m (.slice r m p)
          let new ←o
          let rest:=Builtin.zeroCells (←zeroValue elem).cells (u-need)
          pure (.slice (some (←newRow elem (old++new++rest))) need u)):=by
       intro y mS n E aj;have F:rz y base r∨(m=0∧p=0∧VR y (.slice base 0 0) (.slice r 0 0)∧base.isSome=true∧r.isSome=true):=ai.imp (·.mono E) fun h=>⟨h.1,h.2.1,h.2.2.1.mono E,h.2.2.2⟩
       have ak:=H.mono E;have app:∀(G:jR),y.le G→SR P (fun ρ a b=>jW ρ a b∧(n=0→a=#[]∧b=#[])) G
         (if !mS then Builtin.firstCells size n x
          else if n*size=0 then pure #[]
          else do pure (Builtin.zeroCells (←zeroValue elem).cells n))
         (if !mS then Builtin.firstCells size n O
          else if n*size=0 then pure #[]
          else do pure (Builtin.zeroCells (←zeroValue elem).cells n)):=fun G I =>
        SR.ite (fun A=>yV _ _ (ak.mono I) (aj (by simpa using A))) fun _=>SR.ite (fun _=>jU ⟨jW.nil _,fun _=>⟨rfl,rfl⟩⟩) fun h0 =>
         SR.bind (tO elem) fun W z z' _ A=>by obtain⟨rfl,A⟩:=A;exact jU ⟨(A W).cells.mS n,fun e=>absurd (by rw[e,eo]) h0⟩
       (try dsimp only);refine SR.ite (fun hle=>?_) fun _=>?_
       ·refine SR.bind (app y (jR.le_refl _)) fun G c c' I hc=>?_
        obtain⟨hc,al⟩:=hc;rcases F with F|⟨rfl,rfl,hv,k1,k2⟩
        rotate_left
        ·obtain rfl:n=0:=by omega
         obtain⟨rfl,rfl⟩:=al rfl;obtain⟨a,rfl⟩:=ep.1 k1;obtain⟨a',rfl⟩:=ep.1 k2;exact jU (hv.mono I)
        have am:=F.mono I
        cases am with
        |none=>exact jU (.lW _ _)
        |some Z=>exact SR.bind (xu 0 (Z.add _) hc.list) fun W _ _ l5 _=>jU (.slice _ _ (Z.mono l5))
       ·refine SR.bind (rq elem) fun G i i' I e=>?_
        obtain⟨rfl,_⟩:=e
        (try dsimp only);refine SR.ite (fun hc=>?_) (fun hc=>?_)
        ·exact SR.bind (R:=fun _ _ _=>False) (oe (.error _) trivial) fun _ _ _ _ h=>h.elim
        refine SR.bind (rq elem) fun W j j' l5 e=>?_
        obtain⟨rfl,_⟩:=e;refine SR.ite (fun _=>?_) fun _=>?_
        ·refine SR.bind (R:=fun _ _ _=>False) (SR.ite (fun _=>oe (.error _) trivial) fun _=>?_) fun _ _ _ _ h=>h.elim
         refine GW _ _ _ _ _ _ _ fun b=>?_
         cases b with
         |false=>exact SR.uN kv
         |true=>exact kv
        ·refine SR.bind (uQ _) fun ay c c' l6 e=>?_
         subst e;refine SR.bind (rq elem) fun az k k' l7 e=>?_
         obtain⟨rfl,_⟩:=e;refine SR.bind (Bj _) fun an _ _ l8 _=>?_
         have X:y.le an:=jR.le_trans I (jR.le_trans l5 (jR.le_trans l6 (jR.le_trans l7 l8)));refine SR.bind (yV size m (v:=.slice base m p) (v':=.slice r m p) (by
          rcases F with F|⟨e1,e2,hv,_⟩
          ·exact(F.mono X).slice _ _
          ·rw[e1,e2];exact hv.mono X) (fun ad e=>by cases e;rfl)) fun ao old au l9 hold=>?_
         obtain⟨hold,_⟩:=hold;refine SR.bind (app ao (jR.le_trans X l9)) fun av new aw ap J=>?_
         obtain⟨J,_⟩:=J;refine SR.bind (tO elem) fun ab z z' ae A=>?_
         obtain⟨rfl,A⟩:=A;exact SR.bind (xr elem ((((hold.mono ap).mono ae).append (J.mono ae)).append ((A ab).cells.mS _))) fun ax a a' _ Z=>jU (.slice _ _ Z)
      (try dsimp only)
      cases ts[1]? with
      |none =>
       refine SR.bind (R:=fun _ a b=>a=b) (jU rfl) fun y z z' E e=>?_
       subst e
       (try dsimp only);refine SR.ite (fun A=>?_) (fun A=>?_)
       ·refine SR.bind (vA (H.mono E)) fun M n n' Y e=>?_
        subst e
        (try dsimp only);refine SR.ite (fun _=>?_) (fun _=>?_)
        ·exact SR.bind (R:=fun _ _ _=>False) (oe (.error _) trivial) fun _ _ _ _ h=>h.elim
        refine SR.bind (rq elem) fun aq j j' m5 e=>?_
        obtain⟨rfl,_⟩:=e;refine SR.ite (fun _=>?_) (fun _=>?_)
        ·refine SR.bind (uQ _) fun N c c' m6 e=>?_
         subst e;exact SR.bind (R:=fun _ _ _=>False) (oe (.error _) trivial) fun _ _ _ _ h=>h.elim
        exact SR.bind (R:=fun _ a b=>a=b) (jU rfl) fun N a b m6 e=>by subst e;exact behind N z a (jR.le_trans E (jR.le_trans Y (jR.le_trans m5 m6))) (fun e=>by rw[e]at A;cases A)
       ·refine SR.bind (yU (H.mono E)) fun M n n' Y e=>?_
        obtain⟨rfl,en⟩:=e;exact behind M z n (jR.le_trans E Y) fun _=>en
      |some xt =>
       refine SR.bind (lH xt) fun y d d' E e=>?_
       obtain⟨rfl,_⟩:=e;refine SR.bind (R:=fun _ a b=>a=b) (jU rfl) fun G z z' I e=>?_
       subst e
       (try dsimp only);refine SR.ite (fun A=>?_) (fun A=>?_)
       ·refine SR.bind (vA (H.mono (jR.le_trans E I))) fun M n n' Y e=>?_
        subst e
        (try dsimp only);refine SR.ite (fun _=>?_) (fun _=>?_)
        ·exact SR.bind (R:=fun _ _ _=>False) (oe (.error _) trivial) fun _ _ _ _ h=>h.elim
        refine SR.bind (rq elem) fun aq j j' m5 e=>?_
        obtain⟨rfl,_⟩:=e;refine SR.ite (fun _=>?_) (fun _=>?_)
        ·refine SR.bind (uQ _) fun N c c' m6 e=>?_
         subst e;exact SR.bind (R:=fun _ _ _=>False) (oe (.error _) trivial) fun _ _ _ _ h=>h.elim
        exact SR.bind (R:=fun _ a b=>a=b) (jU rfl) fun N a b m6 e=>by subst e;exact behind N z a (jR.le_trans (jR.le_trans E I) (jR.le_trans Y (jR.le_trans m5 m6))) (fun e=>by rw[e]at A;cases A)
       ·refine SR.bind (yU (H.mono (jR.le_trans E I))) fun M n n' Y e=>?_
        obtain⟨rfl,en⟩:=e;exact behind M z n (jR.le_trans (jR.le_trans E I) Y) fun _=>en
     cases af with
     |lW l c=>exact main none none l c (.inl .none)
     |slice l c Z=>exact main (some _) (some _) l c (.inl (.some Z))
     |mN ar k=>exact main (some _) (some _) 0 0 (.inr ⟨rfl,rfl,.mN ar k,rfl,rfl⟩)
     |_=>exact j4
    |_=>exact j4
end
end
section
variable [Scope]
def xB:Builtin→Bool
 | .len | .cap | .append | .copy | .min | .max | .panic | .recover=>true
 |_=>false
def vD (b:Builtin) (ts:Array TypeId):Bool :=
 match b,ts[0]? with
 | .len,some t | .cap,some t=>!Scope.chans t
 |_,_=>true
inductive DR (ρ:jR):Deferred→Deferred→Prop
 |fn {f:FuncId} {c c' a a':Array Value}:Scope.ok f=true→jW ρ c c'→jW ρ a a'→DR ρ ⟨.fn (.func f) c,a⟩ ⟨.fn (.func f) c',a'⟩
 |nil {a a':Array Value}:jW ρ a a'→DR ρ ⟨.nil,a⟩ ⟨.nil,a'⟩
 |builtin {b:Builtin} {ts:Array TypeId} {t:TypeId} {cs:Array Bool} {a a':Array Value}:xB b=true∧vD b ts=true→jW ρ a a'→DR ρ ⟨.builtin b ts t cs,a⟩ ⟨.builtin b ts t cs,a'⟩
 |oM {n:String} {c c' a a':Array Value}:a[0]?=some (.iface 0 .nilFunc)→DR ρ ⟨.fn (.method "") c,a⟩ ⟨.fn (.method n) c',a'⟩
theorem DR.mono{ρ ρ':jR}{d d':Deferred}(h:DR ρ d d')(l:ρ.le ρ'):DR ρ' d d':=by
 cases h with
 |fn c e j=>exact .fn c (e.mono l) (j.mono l)
 |nil h=>exact .nil (h.mono l)
 |builtin c e=>exact .builtin c (e.mono l)
 |oM h=>exact .oM h
inductive NR (ρ:jR):Next→Next→Prop
 |value {v v':Value}:VR ρ v v'→NR ρ (.value v) (.value v')
 |skip:NR ρ .skip .skip
 |enter {f:FuncId} {a a':Array Value}:Scope.ok f=true→jW ρ a a'→NR ρ (.enter f a) (.enter f a')
 |defer {d d':Deferred}:DR ρ d d'→NR ρ (.defer d) (.defer d')
 |recover:NR ρ .recover .recover
class Bodies (P:Program):Prop where
 body:∀f,Scope.ok f=true→∃fn,P.funcs[f]?=some fn∧(fn.name == "runtime.NumGoroutine")=false∧fn.body.isNone=false
def yX (c:Call):Bool :=
 (match c.callee with
  | .value f=>lg f
  | .builtin b=>xB b&&vD b c.argTypes
  | .invoke _ _=>false)&&c.args.all lg
def BC (P:Program) (t:TypeId):Bool :=
 match P.underlying t with
 |some .unsafePointer=>false
 |_=>true
def ow (P:Program) (o:Oper):Bool :=
 match o.op with
 | .move x | .assign x | .box _ x | .load _ x | .nilCheck x | .unOp _ _ x | .makeInterface _ x | .field _ x _ | .extract x _ | .panic x=>lg x
 | .pick c a b=>lg c&&lg a&&lg b
 | .alloc _=>true
 | .build _ ps | .buildSlice _ _ ps=>ps.all fun p=>lg p.2
 | .store _ a x | .indexAddr _ a x | .index _ a x | .makeSlice _ a x=>lg a&&lg x
 | .binOp op t x y _=>lg x&&lg y&&BC P t&&(match op with | .eql | .neq=>sM P t x y|_=>true)
 | .convert s d x=>lg x&&yT P s d
 | .makeFunc (.func f) a b=>Scope.ok f&&a.all lg&&b.all lg
 | .slice t x lo hi mx=>lg x&&vB P t&&lo.all lg&&hi.all lg&&mx.all lg
 | .fieldAddr s x f=>lg x&&yL P s f
 | .typeAssert x _ _ ok=>lg x&&ok
 | .call c | .defer c=>yX c
 |_=>false
section
variable {P:Program} {ρ:jR}
theorem ER.map{f g:Operand→Value}(h:ER ρ f g){xs:Array Operand}(hx:xs.all lg=true):jW ρ (xs.map f) (xs.map g):=by
 refine⟨by simp,fun i v v' a b=>?_⟩;rw[dQ]at a b
 cases e:xs[i]? with
 |none=>rw[e]at a;cases a
 |some x =>
  rw[e]at a b
  cases a;cases b
  exact h.get (dv.1 hx x (dw e))
variable {f g:Operand→Value}
theorem ER.parts(h:ER ρ f g){ps:Array (Nat×Operand)}(hx:ps.all (fun p=>lg p.2)=true):rr ρ (ps.map fun(i,x)=>(i,f x)).toList (ps.map fun(i,x)=>(i,g x)).toList:=by
 obtain⟨ps⟩:=ps;simp only[et];have:∀p∈ps,lg p.2=true:=fun p hp=>dv.1 hx p (by simpa using hp)
 clear hx
 induction ps with
 |nil=>exact .nil
 |cons p ps c =>
  obtain⟨i,x⟩:=p;exact .cons (h.get (this (i,x) (by simp))) (c fun p hp=>this p (by simp[hp]))
theorem ER.opt(h:ER ρ f g){x:Option Operand}(hx:x.all lg=true):oN ρ (x.map f) (x.map g):=by
 cases x with
 |none=>exact .none
 |some x=>exact .some (h.get (by simpa using hx))
theorem BD{c:Value}(h:qm c=true):∀r,c≠.chan r:=by
 rintro r rfl
 cases h
theorem GZ{t:TypeId}{x y:Operand}(he:ER ρ f g)(h:sM P t x y=true):tR P t (f x) (f y):=by
 unfold sM at h;simp only[dZ,eh]at h;rcases h with(h|h)|h
 ·cases x with
  |const c=>rw[(he.const c).1];exact .inr (.inl (BD h))
  |_=>simp[rv]at h
 ·cases y with
  |const c=>rw[(he.const c).1];exact .inr (.inr (BD h))
  |_=>simp[rv]at h
 ·refine .inl fun d e hd=>?_
  have:qH P (11+1) t=true:=h.1;simp only[qH,hd,eh]at this;simp at this
theorem BE(c:Call)(t:TypeId)(e:yX c=true)(h:ER ρ f g):SR P DR ρ (resolve f c t) (resolve g c t):=by
 unfold yX at e;simp only[eh]at e;have j:=h.map e.2;unfold resolve
 cases d:c.callee with
 |value x =>
  rw[d]at e;have l:=h.get e.1;unfold Deferred.ofValue;simp only;generalize f x=v,g x=v' at l ⊢
  cases l with
  | @func q xs nA ys nB m o p r s=>exact jU (.fn m ⟨r,s⟩ ((jW.mk o p).append j))
  |nilFunc=>exact jU (.nil j)
  | @oM n xs ys u=>exact jU (DR.oM (a:=#[.iface 0 .nilFunc]++c.args.map f) (a':=xs++c.args.map g) (c:=#[]) (c':=ys) (by simp[dn]))
  |_=>exact j4
 |builtin b =>
  rw[d]at e;exact jU (.builtin (by simpa using e.1) j)
 |invoke x n=>rw[d]at e;simp at e
theorem G0[ki P](b:Builtin)(ts:Array TypeId)(t:TypeId)(cs:Array Bool)(hb:xB b=true∧vD b ts=true){a a':Array Value}(h:jW ρ a a'):SR P NR ρ (builtin b ts t cs a) (builtin b ts t cs a'):=by
 have val:∀{x y:Sem Value},SR P VR ρ x y→SR P NR ρ (do pure (.value (←x))) (do pure (.value (←y))):=fun h=>SR.bind h fun _ _ _ _ d=>jU (.value d)
 unfold builtin
 cases b<;>first
  |exact val (GN _ _ (fun t c=>by have:=hb.2;unfold vD at this;rw[c]at this;simpa using this) h)
  |exact val (GO _ _ (fun t c=>by have:=hb.2;unfold vD at this;rw[c]at this;simpa using this) h)
  |exact val (GY _ _ h)
  |exact val (GP _ _ h)
  |exact val (GU _ _ h)
  |exact val (GV _ _ h)
  |exact val (BA (h.getD 0 .nilIface))
  |exact jU .recover
  |simp[xB]at hb
variable {α β:Type}
theorem G1[ki P]{R:jR→α→β→Prop}(fuel:Nat)(v:Value)(k:FuncId×Value→Sem α)(y:Sem β):SR P R ρ (Go.method fuel 0 v "" >>= k) y:=by
 cases fuel with
 |zero=>exact kv
 |succ fuel =>
  unfold Go.method;unfold typeInfo;refine SR.pQ ?_;show SR P R ρ (Sem.bind (Sem.bind (match P.info? 0 with|some i=>Pure.pure i|none=>stuck "no such type") _) k) y
  cases h:P.info? 0 with
  |none=>exact j4
  |some i =>
   have:=ki.Bi (P:=P) i h;show SR P R ρ (Sem.bind (match i.methods.find? (·.name == "")with|some m=>_|_=>_) k) y;rw[this];exact j4
theorem G2[ki P]{R:jR→α→β→Prop}(fuel:Nat)(v:Value)(k:Option Bool→Sem α)(y:Sem β):SR P R ρ (Go.nilAhead (fuel+1) 0 v "" >>= k) y:=by
 unfold Go.nilAhead;unfold typeInfo;refine SR.pQ ?_;show SR P R ρ (Sem.bind (Sem.bind (match P.info? 0 with|some i=>Pure.pure i|none=>stuck "no such type") _) k) y
 cases h:P.info? 0 with
 |none=>exact j4
 |some i =>
  have:=ki.Bi (P:=P) i h;show SR P R ρ (Sem.bind (match i.methods.find? (·.name == "")with|some m=>_|_=>_) k) y;rw[this];exact j4
theorem BF[ki P][Bodies P]{d d':Deferred}(h:DR ρ d d'):SR P NR ρ (invoke d.target d.args) (invoke d'.target d'.args):=by
 cases h with
 | @fn f c c' a a' e j l =>
  show SR P NR ρ (callFunc f (a++c)) (callFunc f (a'++c'));obtain⟨fn,m,o,p⟩:=Bodies.body (P:=P) f e;unfold callFunc;refine uP ?_;simp only[m,o,p,dG,dh];exact jU (.enter e (l.append j))
 |nil h=>exact oe .nilDeref trivial
 |builtin hb h=>exact G0 _ _ _ _ hb h
 | @oM n c c' a a' r =>
  show SR P NR ρ (match a[0]? with|some recv=>callMethod recv "" (a.extract 1 a.size)|_=>stuck "call: a method without a receiver") _;rw[r];show SR P NR ρ (callMethod (.iface 0 .nilFunc) "" (a.extract 1 a.size)) _;unfold callMethod;refine SR.pQ ?_;exact G1 _ _ _ _
theorem BG[ki P][Bodies P](o:Oper)(j:ow P o=true)(h:ER ρ f g):SR P NR ρ (execOp f o) (execOp g o):=by
 have val:∀{x y:Sem Value},SR P VR ρ x y→SR P NR ρ (do pure (.value (←x))) (do pure (.value (←y))):=fun h=>SR.bind h fun _ _ _ _ r=>jU (.value r)
 have C:∀{x y:Sem Unit},SR P (fun _ _ _=>True) ρ x y→SR P NR ρ (do x;pure .skip) (do y;pure .skip):=fun h=>SR.bind h fun _ _ _ _ r=>jU .skip
 unfold ow at j;unfold execOp
 (try dsimp only)
 cases m:o.op with
 |move x=>rw[m]at j;exact jU (.value (h.get j))
 |assign x=>rw[m]at j;exact jU (.value (h.get j))
 |pick c a b =>
  rw[m]at j;simp only[eh]at j;refine SR.bind (yH (h.get j.1.1)) fun u x y z e=>?_
  subst e
  cases x with
  |true=>exact jU (.value ((h.mono z).get j.1.2))
  |false=>exact jU (.value ((h.mono z).get j.2))
 |alloc e=>exact val (FV e)
 |box e x=>rw[m]at j;exact val (FW e (h.get j))
 |build t ps=>rw[m]at j;exact val (F1 t (h.parts j))
 |buildSlice t n ps=>rw[m]at j;exact val (F2 t n (h.parts j))
 |load t a=>rw[m]at j;exact val (FX t (h.get j))
 |store t a x=>rw[m]at j;simp only[eh]at j;exact C (FY t (h.get j.1) (h.get j.2))
 |nilCheck x =>
  rw[m]at j;have r:=h.get j;simp only;generalize f x=v,g x=v' at r ⊢;have E:=r
  cases r with
  |oL=>exact oe .nilDeref trivial
  |nilIface=>exact oe .nilDeref trivial
  |nilFunc=>exact oe .nilDeref trivial
  |ptr H=>exact jU (.value (.ptr H))
  | @oM n xs ys G =>
   show SR P NR ρ (program >>= fun p=>Go.nilAhead (p.types.size+Made.depth) 0 .nilFunc "" >>= _) _;refine SR.pQ ?_;exact G2 (P.types.size+99) _ _ _
  |hole G A =>
   have r:VR ρ (.chan (some 1)) v':=.hole G A
   cases v' with
   |pointer a=>cases a with
    |none=>simp[mM]at A
    |some a=>exact jU (.value r)
   |func f a b=>cases f<;>first|exact jU (.value r)|simp[mM]at A
   |_=>first|exact jU (.value r)|simp[mM]at A
  |_=>exact jU (.value E)
 |binOp op t x y J =>
  rw[m]at j;simp only[eh]at j;have I:∀d,P.underlying t=some d→d≠.unsafePointer:=fun d hd e=>by
   have:=j.1.2;unfold BC at this;rw[hd,e]at this
   cases this
  have heq:(op=.eql∨op=.neq)→sM P t x y=true:=by
   intro m;have:=j.2;rcases m with rfl|rfl<;>exact this
  refine val (SR.bind (Gs op t x y heq h j.1.1.1 j.1.1.2) fun u _ _ z _=>?_);exact GF op t I ((h.mono z).get j.1.1.1) ((h.mono z).get j.1.1.2) (fun F=>Gr t x y (heq F) (h.mono z) j.1.1.1 j.1.1.2) fun F=>GZ h (heq F)
 |unOp op t x=>rw[m]at j;exact val (GG op (h.get j))
 |convert s d x=>rw[m]at j;simp only[eh]at j;exact val (GM s d j.2 (h.get j.1))
 |makeInterface t x=>rw[m]at j;exact val (Ga t (h.get j))
 |makeFunc fn a b =>
  rw[m]at j
  cases fn with
  |func q =>
   simp only[eh]at j;exact val (jU (jW.func j.1.1 (h.map j.1.2) (h.map j.2)))
  |_=>simp at j
 |makeSlice t l c=>rw[m]at j;simp only[eh]at j;exact val (F9 t (h.get j.1) (h.get j.2))
 |slice t x lo M N =>
  rw[m]at j;simp only[eh]at j;exact val (F6 t j.1.1.1.2 (h.get j.1.1.1.1) (h.opt j.1.1.2) (h.opt j.1.2) (h.opt j.2))
 |fieldAddr s x q=>rw[m]at j;simp only[eh]at j;exact val (F3 s q j.2 (h.get j.1))
 |field t x q=>rw[m]at j;exact val (F7 t (h.get j) q)
 |indexAddr t x i=>rw[m]at j;simp only[eh]at j;exact val (F4 t (h.get j.1) (h.get j.2))
 |index t x i=>rw[m]at j;simp only[eh]at j;exact val (F8 t (h.get j.1) (h.get j.2))
 |typeAssert x t a ok =>
  rw[m]at j;simp only[eh]at j;rw[j.2];exact val (Gd t a (h.get j.1))
 |extract x i=>rw[m]at j;exact val (Gb (h.get j) i)
 |call c =>
  rw[m]at j;exact SR.bind (BE c _ j h) fun u d d' _ hd=>BF hd
 |defer c =>
  rw[m]at j;exact SR.bind (BE c _ j h) fun u d d' _ hd=>jU (.defer hd)
 |panic x=>rw[m]at j;exact val (BA (h.get j))
 |_=>rw[m]at j;simp at j
end
end
section
variable [Scope]
def pC (P:Program):Code→Bool
 | .skip | .exit _ | .ret | .label _ | .refuse _=>true
 | .region _ ops _=>ops.all (ow P)
 | .seq a b=>pC P a&&pC P b
 | .cond c a b=>lg c&&pC P a&&pC P b
 | .block _ b | .loop b | .scope b=>pC P b
 | .goto _ | .rangeFunc ..=>false
def mU (P:Program):Item→Bool
 | .code c=>pC P c
 | .inBlock _=>true
 | .inLoop b | .inScope b=>pC P b
 | .inRegion ops _=>ops.all (ow P)
 |_=>false
class lu (P:Program):Prop extends Bodies P where
 code:∀f fn c,Scope.ok f=true→P.funcs[f]?=some fn→fn.body=some c→pC P c=true
inductive pD (ρ:jR):List PanicEntry→List PanicEntry→Prop
 |nil:pD ρ [] []
 |cons {v v':Value} {r g:Bool} {xs ys:List PanicEntry}:VR ρ v v'→pD ρ xs ys→pD ρ (⟨v,r,g⟩::xs) (⟨v',r,g⟩::ys)
theorem pD.mono{ρ ρ':jR}{x y:List PanicEntry}(h:pD ρ x y)(l:ρ.le ρ'):pD ρ' x y:=by
 induction h with
 |nil=>exact .nil
 |cons h _ c=>exact .cons (h.mono l) c
variable {ρ:jR}
theorem pD.append{x y c d:List PanicEntry}(h:pD ρ x y)(k:pD ρ c d):pD ρ (x++c) (y++d):=by
 induction h with
 |nil=>exact k
 |cons h _ e=>exact .cons h e
inductive MR (ρ:jR):FrameMode→FrameMode→Prop
 |run:MR ρ .run .run
 |returning:MR ρ .returning .returning
 |panicking {x y:List PanicEntry}:pD ρ x y→MR ρ (.panicking x) (.panicking y)
theorem MR.mono{ρ ρ':jR}{x y:FrameMode}(h:MR ρ x y)(l:ρ.le ρ'):MR ρ' x y:=by
 cases h with
 |run=>exact .run
 |returning=>exact .returning
 |panicking h=>exact .panicking (h.mono l)
inductive sN (ρ:jR):List Deferred→List Deferred→Prop
 |nil:sN ρ [] []
 |cons {x y:Deferred} {xs ys:List Deferred}:DR ρ x y→sN ρ xs ys→sN ρ (x::xs) (y::ys)
theorem sN.mono{ρ ρ':jR}{x y:List Deferred}(h:sN ρ x y)(l:ρ.le ρ'):sN ρ' x y:=by
 induction h with
 |nil=>exact .nil
 |cons h _ c=>exact .cons (h.mono l) c
structure nk (P:Program) (ρ:jR) (a b:Frame):Prop where
 fn:b.fn=a.fn
 ok:Scope.ok a.fn=true
 tmps:jW ρ a.tmps b.tmps
 todo:b.todo=a.todo
 items:a.todo.all (mU P)=true
 defers:sN ρ a.defers b.defers
 mode:MR ρ a.mode b.mode
 kind:b.kind=a.kind
 kinds:a.kind=.normal∨a.kind=.deferred
 round:a.roundOf=none∧b.roundOf=none
theorem nk.mono{P:Program}{ρ ρ':jR}{a b:Frame}(h:nk P ρ a b)(l:ρ.le ρ'):nk P ρ' a b :=
 ⟨h.fn,h.ok,h.tmps.mono l,h.todo,h.items,h.defers.mono l,h.mode.mono l,h.kind,h.kinds,h.round⟩
inductive tS (P:Program) (ρ:jR):List Frame→List Frame→Prop
 |nil:tS P ρ [] []
 |cons {x y:Frame} {xs ys:List Frame}:nk P ρ x y→tS P ρ xs ys→tS P ρ (x::xs) (y::ys)
theorem tS.mono{P:Program}{ρ ρ':jR}{x y:List Frame}(h:tS P ρ x y)(l:ρ.le ρ'):tS P ρ' x y:=by
 induction h with
 |nil=>exact .nil
 |cons h _ c=>exact .cons (h.mono l) c
def Own (P:Program) (ρ:jR) (ds cs:List Frame) (fr:Frame) (xs ys:List Frame):Prop :=
 ∃us vs,xs=us++ds∧ys=vs++cs∧tS P ρ us vs∧((us.getLast?).getD fr).kind=.normal
structure GR (P:Program) (ρ:jR) (ds cs:List Frame) (g g':Goroutine):Prop where
 frame:nk P ρ g.frame g'.frame
 callers:Own P ρ ds cs g.frame g.callers g'.callers
 status:g.status=.running∧g'.status=.running
 dying:g.dying=none∧g'.dying=none
 offers:g.offers=none
theorem pS:VR ρ undef undef:=(jW.nil ρ).tuple
variable {P:Program} {a b:Frame}
theorem nk.eval(h:nk P ρ a b):ER ρ a.eval b.eval :=
 ⟨fun t=>h.tmps.getD t pS,fun c=>⟨rfl,rfl⟩,fun i=>⟨rfl,rfl⟩⟩
theorem nk.finish{P:Program}{ρ:jR}{a b:Frame}(h:nk P ρ a b){v v':Value}(e:VR ρ v v'):nk P ρ (a.finish v) (b.finish v'):=by
 have j:=h.todo;have c:=h.items;unfold Frame.finish;rw[j]
 cases m:a.todo with
 |nil=>simp only;exact h
 |cons x k =>
  rw[m]at c;simp only[eu,eh]at c
  cases x with
  |inRegion ops l =>
   cases l with
   |nil=>exact h
   |cons i rest =>
    refine⟨h.fn,h.ok,?_,rfl,?_,h.defers,h.mode,h.kind,h.kinds,h.round⟩
    ·simp only
     cases(ops[i]?).bind (·.dst)with
     |none=>exact h.tmps
     |some d=>exact h.tmps.set d e
    ·simp only[eu,eh];exact⟨c.1,c.2⟩
  |inRangeFunc=>simp[mU]at c
  |beginRound=>simp[mU]at c
  |call=>simp[mU]at c
  |extern=>simp[mU]at c
  |_=>exact h
theorem nk.raise{P:Program}{ρ:jR}{a b:Frame}(h:nk P ρ a b){x y:List PanicEntry}(c:pD ρ x y):nk P ρ (a.raise x) (b.raise y):=by
 have hm:=h.mode;unfold Frame.raise;generalize e:a.mode=j at hm;generalize hB:b.mode=l at hm
 cases hm with
 |run=>exact⟨h.fn,h.ok,h.tmps,h.todo,h.items,h.defers,.panicking c,h.kind,h.kinds,h.round⟩
 |returning=>exact⟨h.fn,h.ok,h.tmps,h.todo,h.items,h.defers,.panicking c,h.kind,h.kinds,h.round⟩
 |panicking d=>exact⟨h.fn,h.ok,h.tmps,h.todo,h.items,h.defers,.panicking (c.append d),h.kind,h.kinds,h.round⟩
theorem nk.to(h:nk P ρ a b){k:List Item}(c:k.all (mU P)=true):nk P ρ { a with todo:=k } { b with todo:=k } :=
 ⟨h.fn,h.ok,h.tmps,rfl,c,h.defers,h.mode,h.kind,h.kinds,h.round⟩
theorem yY[lu P]{f:FuncId}(d:Scope.ok f=true){a a':Array Value}(h:jW ρ a a'){k:CallKind}(l:k=.normal∨k=.deferred):nk P ρ (Frame.enter P f a k) (Frame.enter P f a' k):=by
 obtain⟨fn,e,o,j⟩:=Bodies.body (P:=P) f d
 cases hb:fn.body with
 |none=>rw[hb]at j;cases j
 |some c =>
  have m:=lu.code (P:=P) f fn c d e hb;refine⟨rfl,d,?_,rfl,?_,.nil,.run,rfl,l,rfl,rfl⟩
  ·unfold Frame.enter;simp only[e,←h.size];exact h.append (jW.replicate _ pS)
  ·unfold Frame.enter;simp only[e,dW,hb,ez,eu,List.all_nil,Bool.and_true];exact m
def nn:GStep→World
 | .go _ w _ | .comm _ _ _ _ w _ | .spawn _ _ w _ | .count _ w _ | .timer _ _ w _ | .alone _ _ w _ | .newcoro _ _ _ w _ | .coroswitch _ _ _ w _ | .collect _ w _ | .watch _ w _ | .ended _ w _=>w
theorem vE(es:Array Event)(s:GStep):nn (s.after es)=nn s:=by cases s<;>rfl
def Plain (s:GStep):Prop:=(∃o w es,s=.ended o w es)∨∃h w es,s=.go h w es∧h.status=.running∧h.dying=none∧h.offers=none
theorem Plain.after{s:GStep}(h:Plain s)(l:Array Event):Plain (s.after l):=by
 rcases h with⟨o,w,es,rfl⟩|⟨g,w,es,rfl,c,d,e⟩
 ·exact .inl ⟨_,_,_,rfl⟩
 ·exact .inr ⟨_,_,_,rfl,c,d,e⟩
structure kl (P:Program) (ρ:jR) (L:rp) (ds cs:List Frame) (wB:World) (s s':GStep):Prop where
 plain:L.upto=none→Plain s
 xC:∀h wS es,s=.go h wS es→Fits L (nn s')→∃h' tT lz ρ',s'=.go h' tT lz∧Grow ρ wB ρ'∧GR P ρ' ds cs h h'∧HR ρ' wS tT∧TA L wS tT∧Kept ρ wB tT∧∀e∈lz,nj ρ' e
section
variable {P:Program} {ρ:jR} {L:rp} {ds cs:List Frame} {wS wB:World}
variable {w:World}
theorem Fits.down{w':World}(h:Fits L w')(k:w.drawn≤w'.drawn):Fits L w:=fun l c=>dz k (h l c)
variable {es:Array Event} {s':GStep}
theorem kl.ended{o:Outcome}:kl P ρ L ds cs wB (.ended o w es) s':=⟨fun _=>.inl ⟨_,_,_,rfl⟩,fun h wS es e=>by cases e⟩
theorem kl.go {g g':Goroutine} {w w':World} {ρ':jR} {es lz:Array Event} (hg:Grow ρ wB ρ') (h:GR P ρ' ds cs g g') (hh:HR ρ' w w') (ht:TA L w w') (hk:Kept ρ wB w') (he:∀ e∈lz,nj ρ' e) :
  kl P ρ L ds cs wB (.go g w es) (.go g' w' lz):=⟨fun _=>.inr ⟨_,_,_,rfl,h.status.1,h.dying.1,h.offers⟩,fun h1 w1 TN e _=>by cases e;exact ⟨_,_,_,ρ',rfl,hg,h,hh,ht,hk,he⟩⟩
theorem kl.xD{s:GStep}{w0:World}(hm:w0.drawn≤(nn s').drawn)(k:Fits L w0→kl P ρ L ds cs wB s s'):kl P ρ L ds cs wB s s' :=
 ⟨fun e=>(k fun l d=>by rw[e]at d;cases d).plain e,fun h w1 c e q=>(k (q.down hm)).xC h w1 c e q⟩
theorem kl.after{s s':GStep}{l l':Array Event}(d:∀e∈l',nj ρ e)(h:kl P ρ L ds cs wB s s'):kl P ρ L ds cs wB (GStep.after l s) (GStep.after l' s'):=by
 refine⟨fun e=>(h.plain e).after l,?_⟩;intro u w1 j e c;rw[vE]at c
 cases s with
 |go g w es =>
  simp only[GStep.after]at e
  cases e
  obtain⟨h',tT,lz,ρ',rfl,r1,r2,m,o,p,r⟩:=h.xC _ _ _ rfl c;refine⟨_,_,_,ρ',rfl,r1,r2,m,o,p,fun e he=>?_⟩;rcases dN.1 he with he|he
  ·exact(d e he).mono r1.le
  ·exact r e he
 |_=>simp[GStep.after]at e
theorem rB{fn:FuncId}{e:Event}(h:e∈seen P fn es):e∈es:=by
 dsimp only[seen]at h;rw[←Array.foldl_toList]at h;have key:∀(l:List Event)(x:Bool×Array Event),e∈(l.foldl (fun(x:Bool×Array Event) e=>match e.loc with
   | .mark (.extern f)=>((P.funcs[f]?).any (·.norace),x.2)
   |_=>(x.1,if(x.1&&!e.sync)=true then x.2 else x.2.push e)) x).2→e∈x.2∨e∈l:=by
  intro l
  induction l with
  |nil=>exact fun x hx=>.inl hx
  |cons a l d =>
   intro x hx;simp only[List.foldl_cons]at hx;rcases d _ hx with c|c
   ·split at c
    ·exact .inl c
    ·simp only at c;split at c
     ·exact .inl c
     ·rcases Array.mem_push.1 c with j|rfl
      ·exact .inl j
      ·exact .inr (by simp)
   ·exact .inr (by simp[c])
 rcases key es.toList _ h with c|c
 ·simp at c
 ·exact Array.mem_toList_iff.1 c
end
end
section
variable [Scope]
section
variable {P:Program} {ρ:jR} {L:rp} {ds cs:List Frame} {wS wB:World}
structure CR (P:Program) (ρ:jR) (ds cs:List Frame) (fr:Frame) (xs:List Frame) (jS:Frame) (ys:List Frame):Prop where
 frame:nk P ρ fr jS
 callers:Own P ρ ds cs fr xs ys
theorem CR.mono{ρ':jR}{fr jS:Frame}{xs ys:List Frame}(h:CR P ρ ds cs fr xs jS ys)(l:ρ.le ρ'):CR P ρ' ds cs fr xs jS ys:=by
 obtain⟨us,vs,c,d,k,b⟩:=h.callers;exact⟨h.frame.mono l,us,vs,c,d,k.mono l,b⟩
variable {fr jS:Frame} {xs ys:List Frame}
theorem CR.gr(h:CR P ρ ds cs fr xs jS ys):GR P ρ ds cs { frame:=fr,callers:=xs,status:=.running,dying:=none } { frame:=jS,callers:=ys,status:=.running,dying:=none } :=
 ⟨h.frame,h.callers,⟨rfl,rfl⟩,⟨rfl,rfl⟩,rfl⟩
theorem CR.with{fr jS g g':Frame}{xs ys:List Frame}(h:CR P ρ ds cs fr xs jS ys)(k:nk P ρ g g')(e:g.kind=fr.kind):CR P ρ ds cs g xs g' ys:=by
 obtain⟨us,vs,c,d,q,b⟩:=h.callers;refine⟨k,us,vs,c,d,q,?_⟩
 cases hx:us.getLast? with
 |none=>rw[hx]at b;simpa[e]using b
 |some x=>rw[hx]at b;simpa using b
theorem CR.push{g g':Frame}(h:CR P ρ ds cs fr xs jS ys)(k:nk P ρ g g'):CR P ρ ds cs g (fr::xs) g' (jS::ys):=by
 obtain⟨us,vs,rfl,rfl,q,b⟩:=h.callers;refine⟨k,fr::us,jS::vs,rfl,rfl,.cons h.frame q,?_⟩;rw[List.getLast?_cons];simpa using b
theorem CR.pop(h:CR P ρ ds cs fr xs jS ys)(hx:xs≠ds):∃c l c' d,xs=c::l∧ys=c'::d∧CR P ρ ds cs c l c' d:=by
 obtain⟨us,vs,rfl,rfl,q,b⟩:=h.callers
 cases q with
 |nil=>exact absurd rfl hx
 | @cons c c' e j m o =>
  refine⟨c,e++ds,c',j++cs,rfl,rfl,m,e,j,rfl,rfl,o,?_⟩;rw[List.getLast?_cons]at b;simpa using b
theorem BH(h:CR P ρ ds cs fr xs jS ys):(tryRecover fr xs=none∧tryRecover jS ys=none)∨∃v v' nA nB,tryRecover fr xs=some (v,nA)∧tryRecover jS ys=some (v',nB)∧VR ρ v v'∧CR P ρ ds cs fr nA jS nB:=by
 have s:=h.frame.kind;rcases h.frame.kinds with j|j
 ·refine .inl ⟨?_,?_⟩
  ·unfold tryRecover;rw[j]
  ·unfold tryRecover;rw[s,j]
 ·have hx:xs≠ds:=by
   obtain⟨us,vs,rfl,_,q,b⟩:=h.callers
   cases q with
   |nil=>simp at b;rw[j]at b;cases b
   | @cons c _ x _ _ _=>intro e;have:=dD List.length e;simp at this;omega
  obtain⟨c,xs,c',y,rfl,rfl,d⟩:=h.pop hx;have hm:=d.frame.mode;unfold tryRecover;rw[s,j];simp only;generalize z:c.mode=A at hm;generalize hB:c'.mode=C at hm;have mk:∀(m l:FrameMode),MR ρ m l→CR P ρ ds cs fr ({ c with mode:=m }::xs) jS ({ c' with mode:=l }::y):=fun m l o =>
   CR.push (d.with (g:={ c with mode:=m }) (g':={ c' with mode:=l }) ⟨d.frame.fn,d.frame.ok,d.frame.tmps,d.frame.todo,d.frame.items,d.frame.defers,o,d.frame.kind,d.frame.kinds,d.frame.round⟩ rfl) h.frame
  cases hm with
  |run=>exact .inl ⟨rfl,rfl⟩
  |returning=>exact .inl ⟨rfl,rfl⟩
  |panicking he =>
   cases he with
   |nil=>exact .inl ⟨rfl,rfl⟩
   | @cons v v' r g es lz u p =>
    cases r with
    |true=>exact .inl ⟨rfl,rfl⟩
    |false =>
     cases g with
     |true=>exact .inl ⟨rfl,rfl⟩
     |false=>exact .inr ⟨v,v',_,_,rfl,rfl,u,mk _ _ (.panicking (.cons u p))⟩
theorem BI(w:World)(q:Question)(c:q.forced=false):(choose q).run P w=.ok (q.cut (w.tape w.drawn q)) { w with drawn:=w.drawn+1 }:=by
 simp[choose,Sem.run,c]
theorem G3(c:HR ρ wS wB):HR ρ { wS with drawn:=wS.drawn+1 } { wB with drawn:=wB.drawn+1 }∧Kept ρ wB { wB with drawn:=wB.drawn+1 } :=
 ⟨⟨c.obj,c.inj,c.base,c.os,c.sync⟩,rfl,rfl,rfl,dM _,dx _,fun _ _ _=>rfl,(Kept.refl c).part⟩
theorem uT{α:Type}{x:Sem α}{w:World}{r:Result α}(e:x.run P w=r):w.drawn≤r.world.drawn:=e▸Bh x w
theorem BJ(fr:Frame)(xs:List Frame)(d:Option Dying)(m:String)(w:World):w.drawn≤(nn (endFatal P fr xs d m w)).drawn:=by
 unfold endFatal;dsimp only;split
 ·rename_i e;exact uT e
 ·rename_i e;exact uT e
 ·rename_i e;exact uT e
theorem G4(fr:Frame)(xs:List Frame)(d:Option Dying)(g:Nat)(w:World):w.drawn≤(nn (early P fr xs d g w)).drawn:=by
 have h:∀w:World,w.drawn≤(nn (match w.heap[g]? with
  |some (.pending c elem)=>GStep.go { frame:=fr,callers:=xs,status:=.running,dying:=d } { w with heap:=w.heap.setIfInBounds g (.cells c elem) }
  |_=>.ended (.stuck "early: the variable does not wait" (fr.pos P)) w)).drawn:=by
  intro w;split<;>exact dx _
 unfold early;dsimp only;split
 ·exact h w
 ·split
  ·exact dx _
  ·split
   ·exact h w
   ·split
    ·exact h w
    ·split
     ·exact dx _
     ·exact dx _
     ·exact dx _
     ·exact h w
     ·split
      ·exact dx _
      ·split
       ·exact h w
       ·split
        ·rename_i e;exact dz (uT e) (h _)
        ·rename_i e;exact uT e
        ·rename_i e;exact uT e
theorem G5(fr:Frame)(xs:List Frame)(d:Option Dying)(x:Sem Next)(w:World):(x.run P w).world.drawn≤(nn (stepG.apply P true fr xs d x w)).drawn:=by
 unfold stepG.apply;simp only[dg,dO,vE];generalize x.run P w=r
 cases r with
 |ok a w =>
  cases a<;>simp only<;>first
   |exact dx _
   |(split<;>exact dx _)
   |(repeat' split)<;>exact dx _
 |halt h w =>
  cases h with
  |unsupported u=>cases u<;>first|exact G4 _ _ _ _ _|exact dx _
  |fatal m=>exact BJ _ _ _ _ _
  |throw m=>exact dx _
  |_=>exact dx _
theorem G6{xs ys:Array Value}(h:jW ρ xs ys)(ops:Array Oper):yielded ops xs=yielded ops ys:=by
 funext j;unfold yielded
 cases(ops[j]?).bind (·.dst)with
 |none=>rfl
 |some d =>
  simp only[dW]
  cases e:xs[d]? with
  |none=>rw[h.tL e]
  |some v =>
   obtain⟨v',c,k⟩:=h.at_ e;rw[c]
   cases k<;>first|rfl|(rename_i l;cases v'<;>first|rfl|simp[mM]at l)
theorem yZ(id:Nat):∀(k k':List Item),k.all (mU P)=true→exitTo id k=some k'→k'.all (mU P)=true
 |[],k',_,h=>by simp[exitTo]at h
 |x::k,k',c,h=>by
  simp only[eu,eh]at c
  cases x with
  |inBlock d =>
   simp only[exitTo]at h;split at h
   ·cases h;exact c.2
   ·exact yZ id k k' c.2 h
  |_=>exact yZ id k k' c.2 (by simpa[exitTo]using h)
theorem G7[ki P][lu P](h:CR P ρ ds cs fr xs jS ys)(hh:HR ρ wS wB)(ht:TA L wS wB){x y:Sem Next}(W:SR P NR ρ x y)(J:∃ops i l k,fr.todo=.inRegion ops (i::l)::k):kl P ρ L ds cs wB (stepG.apply P true fr xs none x wS) (stepG.apply P true jS ys none y wB):=by
 have o:=uO W wS wB #[] hh ht;refine kl.xD (G5 jS ys none y wB) fun X=>?_
 have M:(fr.kind == CallKind.early)=false:=by rcases h.frame.kinds with e|e<;>rw[e]<;>rfl
 have Y:(jS.kind == CallKind.early)=false:=by rw[h.frame.kind];exact M
 obtain⟨ops,i,l,k,j⟩:=J;have p:jS.todo=.inRegion ops (i::l)::k:=h.frame.todo.trans j;have A:=h.frame.round;unfold stepG.apply;simp only[dg,M,Y,dG,dh,dO,j,p,A.1,A.2];have N:(y.runT P wB #[])=(y.run P wB,y.events P wB #[]):=dO ..;rw[N]at o;generalize ad:x.run P wS=rx at o;generalize x.events P wS #[]=ex;generalize ae:y.run P wB=ry at o X;generalize af:y.events P wB #[]=Z at o;unfold After at o
 cases rx with
 |ok a w =>
  obtain⟨b,w',new,ρ',e,O,hn,C,E,F,G⟩:=o X;simp only[eA,eC]at e;obtain⟨rfl,rfl⟩:=e;have h':=h.mono O.le;have z:∀e∈seen P jS.fn Z,nj ρ' e:=fun e he=>G e (rB he)
  have out:∀{g g':Frame}{U us:List Frame},CR P ρ' ds cs g U g' us→kl P ρ L ds cs wB (GStep.after (seen P fr.fn ex) (.go { frame:=g,callers:=U,status:=.running,dying:=none } w)) (GStep.after (seen P jS.fn Z) (.go { frame:=g',callers:=us,status:=.running,dying:=none } w')):=by
   intro g g' U us V;exact kl.go O V.gr C E F (by simpa using z)
  cases hn with
  |value R=>exact out (h'.with (h'.frame.finish R) (by unfold Frame.finish;rw[j]))
  |skip=>exact out (h'.with (h'.frame.finish pS) (by unfold Frame.finish;rw[j]))
  |enter aa H=>exact out (h'.push (yY aa H (.inl rfl)))
  | @defer d d' hd =>
   have I:nk P ρ' { fr with defers:=d::fr.defers } { jS with defers:=d'::jS.defers } :=
    ⟨h'.frame.fn,h'.frame.ok,h'.frame.tmps,h'.frame.todo,h'.frame.items,.cons hd h'.frame.defers,h'.frame.mode,h'.frame.kind,h'.frame.kinds,h'.frame.round⟩
   have:=out (h'.with (I.finish pS) (by unfold Frame.finish;simp only[j]));simpa only[j,p,A.1,A.2]using this
  |recover =>
   simp only;rcases BH h' with⟨e1,e2⟩|⟨v,v',U,us,e1,e2,R,V⟩
   ·simp only[e1,e2];exact out (h'.with (h'.frame.finish .nilIface) (by unfold Frame.finish;rw[j]))
   ·simp only[e1,e2];exact out (V.with (V.frame.finish R) (by unfold Frame.finish;rw[j]))
 |halt ab w =>
  cases ab with
  |panic v =>
   obtain⟨v',w',new,ρ',e,O,R,C,E,F,G⟩:=o X;simp only[eA,eC]at e;obtain⟨rfl,rfl⟩:=e;have h':=h.mono O.le;have z:∀e∈seen P jS.fn Z,nj ρ' e:=fun e he=>G e (rB he)
   have I:=h'.with (h'.frame.raise (.cons (r:=false) (g:=false) R .nil)) (by unfold Frame.raise;split<;>rfl);exact kl.go O I.gr C E F (by simpa using z)
  |blocked=>cases o
  |waiting=>cases o
  |goexit=>cases o
  |unsupported u =>
   cases u with
   |initOrder g=>cases o
   |_=>exact kl.ended
  |fatal m=>cases o
  |throw m=>cases o
  |exit c=>cases o
  |stuck s=>exact kl.ended
end
end
section
variable [Scope]
section
variable {P:Program} {ρ:jR} {L:rp} {ds cs:List Frame} {wS wB:World} {main:Bool}
def AtEnd (ds:List Frame) (g:Goroutine):Prop:=g.callers=ds∧g.frame.defers=[]∧g.frame.mode≠.run
variable {fr jS:Frame} {xs ys:List Frame}
theorem kl.still(h:CR P ρ ds cs fr xs jS ys)(c:HR ρ wS wB)(d:TA L wS wB):kl P ρ L ds cs wB (.go { frame:=fr,callers:=xs,status:=.running,dying:=none } wS) (.go { frame:=jS,callers:=ys,status:=.running,dying:=none } wB) :=
 kl.go (Grow.refl _ _) h.gr c d (.refl c) (by simp)
theorem G8{s s' t t':GStep}(c:Prop)[Decidable c](h:c→kl P ρ L ds cs wB s s')(k:¬c→kl P ρ L ds cs wB t t'):kl P ρ L ds cs wB (if c then s else t) (if c then s' else t'):=by
 by_cases e:c
 ·rw[dj e,dj e];exact h e
 ·rw[dk e,dk e];exact k e
theorem G9[ki P][lu P](h:CR P ρ ds cs fr xs jS ys)(s:HR ρ wS wB)(m:TA L wS wB)(hm:fr.mode=.run):kl P ρ L ds cs wB (stepG.exec P true true fr xs none wS) (stepG.exec P main true jS ys none wB):=by
 obtain⟨fn,tmps,todo,defers,mode,kind,ro⟩:=fr;obtain⟨p,r,y,e,z,d,N⟩:=jS;obtain⟨G,H⟩:=h.frame.round;have I:=h.frame.todo;have J:=h.frame.kind;have M:=h.frame.fn;have C:=h.frame.mode;have A:=h.frame.items;simp only at G H I J M hm C A;subst G H I J M hm;have O:z=.run:=by cases C;rfl
 subst O;have j:=h.with (g:=⟨p,tmps,y,defers,.returning,d,none⟩) (g':=⟨p,r,y,e,.returning,d,none⟩) ⟨rfl,h.frame.ok,h.frame.tmps,rfl,h.frame.items,h.frame.defers,.returning,rfl,h.frame.kinds,rfl,rfl⟩ rfl;have to:∀{k:List Item},k.all (mU P)=true→CR P ρ ds cs ⟨p,tmps,k,defers,.run,d,none⟩ xs ⟨p,r,k,e,.run,d,none⟩ ys:=fun u=>h.with (h.frame.to u) rfl
 unfold stepG.exec
 cases y with
 |nil=>exact kl.still j s m
 |cons x k =>
  simp only[eu,eh]at A;obtain⟨hx,u⟩:=A
  cases x with
  |code c =>
   cases c with
   |skip=>exact kl.still (to u) s m
   |label l=>exact kl.still (to u) s m
   |ret=>exact kl.still j s m
   |seq a b =>
    simp only[mU,pC,eh]at hx;exact kl.still (to (by simp[mU,hx.1,hx.2,u])) s m
   |cond c a b =>
    simp only[mU,pC,eh]at hx;have E:=h.frame.eval.get hx.1.1;simp only;generalize Frame.eval ⟨p,tmps,.code (.cond c a b)::k,defers,.run,d,none⟩ c=v at E ⊢;generalize Frame.eval ⟨p,r,.code (.cond c a b)::k,e,.run,d,none⟩ c=v' at E ⊢
    cases E with
    |bool t=>cases t<;>exact kl.still (to (by simp[mU,hx.1.2,hx.2,u])) s m
    |_=>exact kl.ended
   |block id b=>exact kl.still (to (by simp only[eu,eh];exact⟨hx,rfl,u⟩)) s m
   |loop b=>exact kl.still (to (by simp only[eu,eh];exact⟨hx,hx,u⟩)) s m
   |scope b=>exact kl.still (to (by simp only[eu,eh];exact⟨hx,hx,u⟩)) s m
   |exit id =>
    simp only
    cases he:exitTo id k with
    |none=>simp only[Option.elim];exact kl.ended
    |some k'=>simp only[Option.elim];exact kl.still (to (yZ id k k' u he)) s m
   |goto l=>simp[mU,pC]at hx
   |rangeFunc=>simp[mU,pC]at hx
   |refuse R=>exact kl.ended
   |region id ops draw =>
    simp only[mU,pC]at hx
    cases draw with
    |false =>
     simp only[Bool.not_false,dg];exact kl.still (to (by simp only[eu,eh,mU];exact⟨hx,u⟩)) s m
    |true =>
     simp only[Bool.not_true,dG,dh];rw[BI wS (.order p id) rfl,BI wB (.order p id) rfl];obtain⟨g1,U⟩:=G3 s;refine kl.xD (w0:={ wB with drawn:=wB.drawn+1 }) (dx _) fun V=>?_
     rw[m.now (fun l W=>by have:=V l W;simp only at this;omega) (.order p id)];exact kl.go (Grow.refl _ _) (to (by simp only[eu,eh,mU];exact⟨hx,u⟩)).gr g1 m.draw U (by simp)
  |inBlock id=>exact kl.still (to u) s m
  |inScope b=>exact kl.still (to u) s m
  |inLoop b=>exact kl.still (to (by simp only[eu,eh];exact⟨hx,hx,u⟩)) s m
  |inRegion ops l =>
   cases l with
   |nil=>exact kl.still (to u) s m
   |cons i rest =>
    simp only;have X:yielded ops tmps=yielded ops r:=G6 h.frame.tmps ops;rw[←X];refine G8 _ (fun hw=>?_) (fun hw=>kl.still (h.with (h.frame.finish pS) rfl) s m);unfold stepG.oper Frame.oper?;simp only
    cases Y:ops[i]? with
    |none=>exact kl.ended
    |some o =>
     have F:ow P o=true:=dv.1 hx o (dw Y);exact G7 h s m (BG o F h.frame.eval) ⟨ops,i,rest,k,rfl⟩
  |inRangeFunc=>simp[mU]at hx
  |endRangeFunc=>simp[mU]at hx
  |beginRound=>simp[mU]at hx
  |call=>simp[mU]at hx
  |extern=>simp[mU]at hx
theorem Ha{x y:List PanicEntry}(h:pD ρ x y):pD ρ (x.dropWhile (!·.goexit)) (y.dropWhile (!·.goexit)):=by
 induction h with
 |nil=>exact .nil
 | @cons v v' r g xs ys c d e =>
  simp only[List.dropWhile_cons]
  cases g with
  |false=>exact e
  |true=>exact .cons c d
theorem Hd{c c':Frame}(h:CR P ρ ds cs fr (c::xs) jS (c'::ys))(hx:c::xs≠ds)(l:HR ρ wS wB)(o:TA L wS wB){v v':Value}(A:VR ρ v v'):kl P ρ L ds cs wB (doReturn P true fr (c::xs) none v wS) (doReturn P main jS (c'::ys) none v' wB):=by
 obtain⟨c1,z1,c2,F,C,e,j⟩:=h.pop hx
 cases e
 cases C
 have E:=h.frame.kind;unfold doReturn;rw[E];rcases h.frame.kinds with p|p
 ·simp only[p];exact kl.still (j.with (j.frame.finish A) (by unfold Frame.finish;repeat' (first|rfl|split))) l o
 ·simp only[p];have hm:=j.frame.mode;have mk:∀(m s:FrameMode),MR ρ m s→CR P ρ ds cs { c with mode:=m } xs { c' with mode:=s } ys:=fun m s x =>
   j.with ⟨j.frame.fn,j.frame.ok,j.frame.tmps,j.frame.todo,j.frame.items,j.frame.defers,x,j.frame.kind,j.frame.kinds,j.frame.round⟩ rfl
  generalize G:c.mode=H at hm;generalize hB:c'.mode=I at hm
  cases hm with
  |run=>exact kl.still j l o
  |returning=>exact kl.still j l o
  |panicking he =>
   cases he with
   |nil=>exact kl.still j l o
   | @cons u J r g es lz hu y =>
    cases r with
    |false=>exact kl.still j l o
    |true =>
     have hd:=Ha y;simp only;generalize es.dropWhile (!·.goexit)=d,lz.dropWhile (!·.goexit)=d' at hd
     cases hd with
     |nil=>exact kl.still (mk _ _ .returning) l o
     |cons hw z=>exact kl.still (mk _ _ (.panicking (.cons hw z))) l o
theorem za{fn:Func}{xs ys:Array Value}(h:jW ρ xs ys):SR P VR ρ (results fn xs) (results fn ys):=by
 unfold results;rw[dP,dP];have key:∀(l:List ResultVar)(ρ':jR),ρ.le ρ'→SR P ou ρ' (l.mapM fun
   | .tmp t=>pure (xs.getD t undef)
   | .cell a t=>do loadVar t (←asAddr (xs.getD a undef))) (l.mapM fun
   | .tmp t=>pure (ys.getD t undef)
   | .cell a t=>do loadVar t (←asAddr (ys.getD a undef))):=by
  intro l
  induction l with
  |nil=>intro ρ' _;simp only[List.mapM_nil];exact jU .nil
  |cons x l r =>
   intro ρ' m;simp only[List.mapM_cons];have hx:SR P VR ρ' (match x with
     | .tmp t=>pure (xs.getD t undef)
     | .cell a t=>do loadVar t (←asAddr (xs.getD a undef))) (match x with
     | .tmp t=>pure (ys.getD t undef)
     | .cell a t=>do loadVar t (←asAddr (ys.getD a undef))):=by
    cases x with
    |tmp t=>exact jU ((h.mono m).getD t pS)
    |cell a t=>exact SR.bind (FU ((h.mono m).getD a pS)) fun j b b' _ hb=>Bo t hb
   refine SR.bind hx fun j v v' s u=>?_
   exact SR.bind (r j (jR.le_trans m s)) fun y vs d z c=>jU (.cons (u.mono z) c)
 refine SR.bind (R:=jW) (SR.bind (key fn.results.toList ρ (jR.le_refl _)) fun o vs d _ c=>jU c.array) fun o vs d A c=>?_
 have C:=c.size
 by_cases e:vs.size=1
 ·have p:d.size=1:=by omega
  simp only[e,p,dite_true];exact jU (c.get 0 _ _ (dq (by omega)) (dq (by omega)))
 ·have p:¬d.size=1:=by omega
  simp only[e,p,dite_false];exact jU c.tuple
end
end
section
variable [Scope]
section
variable {P:Program} {ρ:jR} {L:rp} {ds cs:List Frame} {wS wB:World} {main:Bool}
theorem kl.trans{ρ':jR}{w1:World}{s s':GStep}(h:kl P ρ' L ds cs w1 s s')(g:Grow ρ wB ρ')(k:Kept ρ wB w1):kl P ρ L ds cs wB s s':=by
 refine⟨h.plain,?_⟩;intro u d j e l;obtain⟨h',tT,lz,c,r0,r1,r2,m,o,p,r⟩:=h.xC _ _ _ e l;exact⟨h',tT,lz,c,r0,g.trans k.size r1,r2,m,o,k.trans g p,r⟩
theorem Hg{c c':Prop}[Decidable c][Decidable c']{s s' t':GStep}{o:Outcome}{w:World}{es:Array Event}(d:c'→c)(h:kl P ρ L ds cs wB s s'):kl P ρ L ds cs wB (if c then .ended o w es else s) (if c' then t' else s'):=by
 by_cases e:c
 ·rw[dj e];exact kl.ended
 ·rw[dk e,dk fun x=>e (d x)];exact h
theorem BK(main:Bool)(fr:Frame)(xs:List Frame)(o:Option Dying)(v:Value)(w:World):(nn (doReturn P main fr xs o v w))=w:=by
 unfold doReturn
 repeat' split
 all_goals first|rfl|(simp only;repeat' split)<;>rfl
variable {fr jS:Frame} {xs ys:List Frame}
theorem Hh[ki P][lu P](h:CR P ρ ds cs fr xs jS ys)(X:HR ρ wS wB)(Y:TA L wS wB){d d':Deferred}(hd:DR ρ d d')(hm:fr.mode≠.run):kl P ρ L ds cs wB (callDeferred P fr xs none d wS) (callDeferred P jS ys none d' wB):=by
 unfold callDeferred;refine Hg (fun C=>?_) ?_
 ·have j:=h.frame.mode;revert C;generalize fr.mode=V at j ⊢;generalize jS.mode=W at j ⊢
  cases hd<;>cases j<;>exact id
 have o:=uO (BF (P:=P) hd) wS wB #[] X Y;simp only[dO];refine kl.xD (w0:=((invoke d'.target d'.args).run P wB).world) ?_ fun H=>?_
 ·rw[vE];generalize(invoke d'.target d'.args).run P wB=r
  cases r with
  |ok a w =>
   cases a with
   |alone b v=>cases b<;>exact dx _
   |coroswitch c b=>cases b<;>exact dx _
   |recover=>simp only;split<;>exact dx _
   |_=>exact dx _
  |halt h w =>
   cases h with
   |fatal m=>exact BJ _ _ _ _ _
   |_=>exact dx _
 have E:((invoke d'.target d'.args).runT P wB #[])=((invoke d'.target d'.args).run P wB,(invoke d'.target d'.args).events P wB #[]):=dO ..;rw[E]at o;generalize Z:(invoke d.target d.args).run P wS=rx at o;generalize(invoke d.target d.args).events P wS #[]=ex;generalize aa:(invoke d'.target d'.args).run P wB=ry at o H;generalize ab:(invoke d'.target d'.args).events P wB #[]=I at o;unfold After at o
 cases rx with
 |ok a w =>
  obtain⟨b,w',new,ρ',e,F,hn,p,x,y,z⟩:=o H;simp only[eA,eC]at e;obtain⟨rfl,rfl⟩:=e;have h':=h.mono F.le;have l:∀e∈seen P jS.fn I,nj ρ' e:=fun e he=>z e (rB he)
  have out:∀{g g':Frame}{G us:List Frame},CR P ρ' ds cs g G g' us→kl P ρ L ds cs wB (GStep.after (seen P fr.fn ex) (.go { frame:=g,callers:=G,status:=.running,dying:=none } w)) (GStep.after (seen P jS.fn I) (.go { frame:=g',callers:=us,status:=.running,dying:=none } w')):=by
   intro g g' G us C;exact kl.go F C.gr p x y (by simpa using l)
  cases hn with
  |value J=>exact out h'
  |skip=>exact out h'
  |enter M A=>exact out (h'.push (yY M A (.inr rfl)))
  |defer hd=>exact out h'
  |recover =>
   simp only;have j:=h.frame.mode;rcases BH h' with⟨N,O⟩|⟨v,v',G,us,N,O,J,C⟩
   ·simp only[N,O];generalize fr.mode=V at j ⊢;generalize jS.mode=W at j ⊢
    cases j<;>exact out h'
   ·simp only[N,O];generalize fr.mode=V at j ⊢;generalize jS.mode=W at j ⊢
    cases j<;>first|exact out h'|exact out C
 |halt R w =>
  cases R with
  |panic v =>
   obtain⟨v',w',new,ρ',e,F,J,p,x,y,z⟩:=o H;simp only[eA,eC]at e;obtain⟨rfl,rfl⟩:=e;have h':=h.mono F.le;have l:∀e∈seen P jS.fn I,nj ρ' e:=fun e he=>z e (rB he)
   have U:=h'.with (h'.frame.raise (.cons (r:=false) (g:=false) J .nil)) (by unfold Frame.raise;split<;>rfl);exact kl.go F U.gr p x y (by simpa using l)
  |unsupported u =>
   cases u with
   |initOrder g=>cases o
   |_=>exact kl.ended
  |stuck s=>exact kl.ended
  |_=>cases o
theorem BL[ki P][lu P](h:CR P ρ ds cs fr xs jS ys)(z:HR ρ wS wB)(A:TA L wS wB)(hm:fr.mode≠.run)(o:¬(xs=ds∧fr.defers=[])):kl P ρ L ds cs wB (unwind P true fr xs none wS) (unwind P main jS ys none wB):=by
 have j:=h.frame.defers;have l:=h.frame.mode;have kG:∀(es lz:List Deferred),sN ρ es lz→CR P ρ ds cs { fr with defers:=es } xs { jS with defers:=lz } ys:=fun es lz hd =>
  h.with ⟨h.frame.fn,h.frame.ok,h.frame.tmps,h.frame.todo,h.frame.items,hd,h.frame.mode,h.frame.kind,h.frame.kinds,h.frame.round⟩ rfl
 obtain⟨fn,C,_,_⟩:=Bodies.body (P:=P) fr.fn h.frame.ok;have p:P.funcs[jS.fn]?=some fn:=by rw[h.frame.fn];exact C
 unfold unwind;generalize R:fr.defers=da at j;generalize hB:jS.defers=db at j
 cases j with
 | @cons d d' es lz hd u =>
  have:=Hh (kG es lz u) z A hd hm
  cases hd<;>exact this
 |nil =>
  simp only;generalize E:fr.mode=ma at l;generalize U:jS.mode=mb at l;have hx:xs≠ds:=fun e=>o ⟨e,R⟩
  ·obtain⟨c,xs,c',zs,rfl,rfl,M⟩:=h.pop hx
   cases l with
   |run=>exact absurd E hm
   |panicking he =>
    have c1:fr.catches P=false:=by unfold Frame.catches;rw[C]
    have c2:jS.catches P=false:=by unfold Frame.catches;rw[p]
    simp only[c1,c2,dG,dh];exact kl.still (M.with (M.frame.raise he) (by unfold Frame.raise;split<;>rfl)) z A
   |returning =>
    simp only[C,p,dO];have m:=uO (za (P:=P) (fn:=fn) h.frame.tmps) wS wB #[] z A;have x:((results fn jS.tmps).runT P wB #[])=((results fn jS.tmps).run P wB,(results fn jS.tmps).events P wB #[]):=dO ..;rw[x]at m;generalize V:(results fn fr.tmps).run P wS=rx at m;generalize(results fn fr.tmps).events P wS #[]=ex;refine kl.xD (w0:=((results fn jS.tmps).run P wB).world) ?_ fun N=>?_
    ·rw[vE];generalize(results fn jS.tmps).run P wB=r
     cases r with
     |ok v w=>simp only[BK];exact dx _
     |halt h w=>cases h<;>exact dx _
    generalize W:(results fn jS.tmps).run P wB=ry at m N;generalize X:(results fn jS.tmps).events P wB #[]=Y at m;unfold After at m
    cases rx with
    |ok a w =>
     obtain⟨b,w',new,ρ',e,O,Z,F,G,H,I⟩:=m N;simp only[eA,eC]at e;obtain⟨rfl,rfl⟩:=e;have h':=h.mono O.le;have y:∀e∈seen P jS.fn Y,nj ρ' e:=fun e he=>I e (rB he)
     exact kl.trans (kl.after y (Hd h' hx F G Z)) O H
    |halt J w =>
     cases J with
     |panic v =>
      exact kl.ended
     |stuck s=>exact kl.ended
     |_=>exact kl.ended
variable {g g':Goroutine}
theorem BM[ki P][lu P](h:GR P ρ ds cs g g')(s:HR ρ wS wB)(u:TA L wS wB)(j:¬AtEnd ds g):kl P ρ L ds cs wB (stepG P true g wS) (stepG P main g' wB):=by
 obtain⟨fr,xs,st,E,off⟩:=g;obtain⟨jS,ys,st',C,A⟩:=g';obtain⟨l,m,⟨x,y⟩,⟨o,p⟩,F⟩:=h;simp only at l m x y o p;subst o p;have z:CR P ρ ds cs fr xs jS ys:=⟨l,m⟩;unfold stepG;have d:=l.mode
 cases c:fr.mode with
 |run =>
  have e:jS.mode=.run:=by rw[c]at d;cases r:jS.mode<;>rw[r]at d<;>first|rfl|cases d
  simp only[c,e];exact G9 z s u c
 |returning =>
  have e:jS.mode=.returning:=by rw[c]at d;cases r:jS.mode<;>rw[r]at d<;>first|rfl|cases d
  simp only[c,e];exact BL z s u (by rw[c];simp) fun⟨a,b⟩=>j ⟨a,b,by rw[c];simp⟩
 |panicking es =>
  have e:∃lz,jS.mode=.panicking lz:=by rw[c]at d;cases r:jS.mode<;>rw[r]at d<;>first|exact⟨_,rfl⟩|cases d
  obtain⟨lz,e⟩:=e;simp only[c,e];exact BL z s u (by rw[c];simp) fun⟨a,b⟩=>j ⟨a,b,by rw[c];simp⟩
theorem Hj[ki P][lu P](h:GR P ρ ds cs g g')(c:HR ρ wS wB)(d:¬AtEnd ds g):Plain (stepG P true g wS):=by
 have e:HR ρ wS { wB with tape:=fun n q=>wS.tape (n-wB.drawn+wS.drawn) q }:=⟨c.obj,c.inj,c.base,c.os,c.sync⟩;have l:TA ⟨none,(wB.drawn:Int)-wS.drawn,wS.tape⟩ wS { wB with tape:=fun n q=>wS.tape (n-wB.drawn+wS.drawn) q } :=
  ⟨by simp only;omega,rfl,fun j q _=>by
   show wS.tape (wB.drawn+j-wB.drawn+wS.drawn) q=wS.tape (wS.drawn+j) q;congr 1;omega⟩
 exact(BM (main:=true) h e l d).plain rfl
end
end
section
variable [Scope]
def cap (P:Program):Frame:={ fn:=P.funcs.size,tmps:=#[],todo:=[.call default true "fmt's door" #[]],defers:=[],mode:=.run,kind:=.normal }
theorem Hk:Extern.next "fmt's door" = none:=by decide
theorem Hm:("fmt's door":String).startsWith "fmt's door" = true:=by kernel_rfl
section
variable {P:Program}
theorem Ho(v:Value)(w:World):∃o w',step P (lone ((cap P).finish v) [] w)=.ended o w':=by
 refine⟨.stuck ("no extern row "++ "fmt's door") (Frame.pos P ((cap P).finish v)),w,eD ?_⟩;simp[stepG,stepG.exec,cap,Frame.finish,Hk,Option.elim]
theorem Hq(es:List PanicEntry)(w:World):∃o w',step P (lone ((cap P).raise es) [] w)=.ended o w':=by
 refine⟨.unsupported (.noEntry "a panic or Goexit out of a method that fmt calls behind a cut's door") (Frame.pos P ((cap P).raise es)),w,eD ?_⟩;have c:Frame.catches P ((cap P).raise es)=true:=by
  unfold Frame.catches;simp only[cap,Frame.raise,Array.getElem?_size];exact Hm
 have hm:((cap P).raise es).mode=.panicking es:=rfl;have hd:((cap P).raise es).defers=[]:=rfl;simp[stepG,unwind,hm,hd,c]
variable {fr:Frame} {fn:Func}
theorem Ht(hm:fr.mode≠.run)(hd:fr.defers=[])(e:fr.kind=.normal)(d:P.funcs[fr.fn]?=some fn)(w:World):(∃o w',step P (lone fr [cap P] w)=.ended o w')∨∃jS w',step P (lone fr [cap P] w)=.next (lone jS [] w')∧∃o w2,step P (lone jS [] w')=.ended o w2:=by
 have j:fr.catches P=false:=by unfold Frame.catches;rw[d]
 cases c:fr.mode with
 |run=>exact absurd c hm
 |panicking es =>
  refine .inr ⟨(cap P).raise es,w,step_lone_go ?_,Hq es w⟩;simp[stepG,unwind,c,hd,j]
 |returning =>
  cases hr:(results fn fr.tmps).run P w with
  |ok v w' =>
   refine .inr ⟨(cap P).finish v,w',step_lone_go ?_,Ho v w'⟩;simp[stepG,unwind,doReturn,c,hd,d,hr,e]
  |halt h w' =>
   refine .inl ?_
   cases h with
   |stuck s=>exact⟨_,_,eD (by simp only[stepG,unwind,c,hd,d,dO,hr,GStep.bare_after];rfl)⟩
   |_=>exact⟨_,_,eD (by simp only[stepG,unwind,c,hd,d,dO,hr,GStep.bare_after];rfl)⟩
theorem Hu(hm:fr.mode≠.run)(hd:fr.defers=[])(c:fr.kind=.normal)(d:P.funcs[fr.fn]?=some fn)(w:World)(m:Nat)(fr2:Frame)(xs:List Frame)(w2:World):runN P (m+1) (lone fr [cap P] w)≠.next (lone fr2 (xs++[cap P]) w2):=by
 rcases Ht hm hd c d w with⟨o,w',h⟩|⟨jS,w',h,o,w3,h'⟩
 ·simp[runN,h]
 ·cases m with
  |zero=>intro hx;simp only[runN,h]at hx;simp[lone]at hx
  |succ m=>simp[runN,h,h']
variable {f:FuncId} {args:Array Value} {w:World}
theorem zb{R:Ending→World→Prop}(h:Calls P f args w R)(m:∀w',¬R .outgrown w'):∃K fr w' e,runN P K (lone (Frame.enter P f args .normal) [cap P] w)=.next (lone fr [cap P] w')∧R e w'∧fr.fn=f∧fr.leaving P w' e∧AtEnd [cap P] { frame:=fr,callers:=[cap P],status:=.running,dying:=none }:=by
 obtain⟨e,w',fr,hr,j,l,c⟩:=h [cap P]
 cases e with
 |outgrown=>exact absurd hr (m w')
 |returned v =>
  obtain⟨K,d⟩:=j;exact⟨K,fr,w',_,d,hr,l,c,rfl,c.2.1,by simp[c.1]⟩
 |panicked ch =>
  obtain⟨K,d⟩:=j;exact⟨K,fr,w',_,d,hr,l,c,rfl,c.2.1,by simp[c.1]⟩
structure mV (P:Program) (m0:Machine) (K:Nat) (T:Tape) (ρ:jR) (cs:List Frame) (k D:Nat) (gS:Goroutine) (wS:World) (g:Goroutine) (w:World):Prop where
 run:runN P k m0=.next (lone gS.frame gS.callers wS)
 gr:GR P ρ [cap P] cs gS g
 hr:HR ρ wS w
 tape:wS.tape=T
 drawn:wS.drawn=D
 le:k≤K
def uU (P:Program) (m0:Machine) (K:Nat) (nT:Frame) (wE:World):Prop :=
 runN P K m0=.next (lone nT [cap P] wE)∧nT.mode≠.run∧nT.defers=[]
variable {m0:Machine} {K k D:Nat} {T:Tape} {ρ:jR} {cs:List Frame} {gS g:Goroutine} {wS:World}
theorem mV.at_end[lu P](h:mV P m0 K T ρ cs k D gS wS g w){nT:Frame}{wE:World}(j:uU P m0 K nT wE)(c:AtEnd [cap P] gS):k=K∧gS.frame=nT∧wS=wE:=by
 have hle:=h.le;obtain⟨n,rfl⟩:∃n,K=k+n:=⟨K-k,by omega⟩;have d:=j.1;rw[runN_add,h.run]at d;simp only at d
 cases n with
 |zero =>
  simp only[runN,lone,eE,Machine.mk.injEq,eF,eG,eH]at d;exact⟨rfl,d.2.1.1.1,d.1⟩
 |succ n =>
  obtain⟨fn,l,_,_⟩:=Bodies.body (P:=P) gS.frame.fn h.gr.frame.ok;have m:gS.frame.kind=.normal:=by
   obtain⟨us,vs,e,_,q,b⟩:=h.gr.callers;rw[c.1]at e
   cases us with
   |nil=>simpa using b
   |cons u us=>have:=dD List.length e;simp at this
  rw[c.1]at d;exact absurd d (Hu c.2.2 c.2.1 m l wS n _ [] _)
theorem mV.step[ki P][lu P]{m0:Machine}{K:Nat}{T:Tape}{ρ:jR}{cs:List Frame}{k D:Nat}{gS g:Goroutine}{wS w:World}(h:mV P m0 K T ρ cs k D gS wS g w){nT:Frame}{wE:World}(z:uU P m0 K nT wE)(c:¬AtEnd [cap P] gS)(main:Bool)(s:∀j q,w.drawn+j<(nn (stepG P main g w)).drawn→w.tape (w.drawn+j) q=T (D+j) q):∃g' w' es ρ' A C,stepG P main g w=.go g' w' es∧Grow ρ w ρ'∧Kept ρ w w'∧(∀e∈es,nj ρ' e)∧mV P m0 K T ρ' cs (k+1) (D+(w'.drawn-w.drawn)) A C g' w':=by
 have hle:=h.le;have R:k≠K:=by
  rintro rfl;have d:=z.1;rw[h.run]at d;simp only[lone,eE,Machine.mk.injEq,eF,eG,eH]at d;obtain⟨_,⟨⟨a,b,_⟩,_⟩,_⟩:=d;exact c ⟨b,by rw[a];exact z.2.2,by rw[a];exact z.2.1⟩
 obtain⟨n,rfl⟩:∃n,K=k+1+n:=⟨K-(k+1),by omega⟩;have r:runN P (k+1) m0=Go.step P (lone gS.frame gS.callers wS):=by
  rw[runN_add,h.run];simp only[runN]
  cases Go.step P (lone gS.frame gS.callers wS)<;>rfl
 have u:∃m,Go.step P (lone gS.frame gS.callers wS)=.next m:=by
  have d:=z.1;rw[runN_add,r]at d
  cases U:Go.step P (lone gS.frame gS.callers wS)with
  |next m=>exact⟨m,rfl⟩
  |ended o w=>rw[U]at d;cases d
 have p:=Hj h.gr h.hr c;have V:TA ⟨some (nn (stepG P main g w)).drawn,(w.drawn:Int)-D,T⟩ wS w:=⟨by rw[h.drawn];simp only;omega,h.tape,fun j q E=>by rw[h.tape,h.drawn];exact s j q (E _ rfl)⟩;have F:=(BM (main:=main) h.gr h.hr V c).xC;obtain⟨fr,xs,st,dy,off⟩:=gS;obtain⟨x,_⟩:=h.gr.status;obtain⟨y,_⟩:=h.gr.dying;have G:=h.gr.offers;simp only at x y G;subst x y G;rcases p with⟨o,w1,es,e⟩|⟨⟨W,X,Y,Z,H⟩,w1,es,e,I,J,M⟩
 ·obtain⟨m,hm⟩:=u;simp only at hm;rw[eD (o:=o) (w':=w1) (by rw[e];rfl)]at hm
  cases hm
 ·simp only at I J M;subst I J M;obtain⟨g',w',lz,ρ',r0,r1,r2,r3,N,O,r6⟩:=F _ _ _ e (fun l E=>by cases E;exact dx _);refine⟨g',w',lz,ρ',_,w1,r0,r1,O,r6,?_,r2,r3,N.tape,?_,by omega⟩
  ·rw[r];exact step_lone_go (by rw[e];rfl)
  ·have d:=N.off;have h2:=O.drawn;simp only at d;omega
theorem mV.start[lu P](d:Scope.ok f=true){lF:Array Value}(e:jW ρ args lF)(c:HR ρ wS w)(cs:List Frame)(T:Tape)(K:Nat):mV P (lone (Frame.enter P f args .normal) [cap P] { wS with tape:=T,drawn:=0 }) K T ρ cs 0 0 { frame:=Frame.enter P f args .normal,callers:=[cap P],status:=.running,dying:=none } { wS with tape:=T,drawn:=0 } { frame:=Frame.enter P f lF .normal,callers:=cs,status:=.running,dying:=none } w :=
 ⟨rfl,⟨yY d e (.inl rfl),⟨[],[],rfl,rfl,.nil,rfl⟩,⟨rfl,rfl⟩,⟨rfl,rfl⟩,rfl⟩,⟨c.obj,c.inj,c.base,c.os,c.sync⟩,rfl,rfl,eI _⟩
theorem mV.others{w':World}(h:mV P m0 K T ρ cs k D gS wS g w)(d:w'.os=w.os)(hsz:Scope.sync=true→w'.heap.size=w.heap.size)(j:∀b p o o',ρ b=some p→w.heap[p.block]?=some o→lR ρ p o' o→∃c,w'.heap[p.block]?=some c∧lR ρ p o' c):mV P m0 K T ρ cs k D gS wS g w' :=
 ⟨h.run,h.gr,⟨fun b p hb=>by
  obtain⟨o,o',l,m,r⟩:=h.hr.obj b p hb;obtain⟨c,k1,k2⟩:=j b p o' o hb m r;exact⟨o,c,l,k1,k2⟩,h.hr.inj,h.hr.base,d.trans h.hr.os,fun e=>⟨(h.hr.sync e).1.trans (hsz e).symm,(h.hr.sync e).2⟩⟩,h.tape,h.drawn,h.le⟩
end
def kp (zc:Nat→Nat×Nat):Nat→Nat
 |0=>0
 |n+1=>kp zc n+((zc n).2-(zc n).1)
theorem BN(c:Nat→Nat×Nat){a b:Nat}(h:a≤b):kp c a≤kp c b:=by
 induction h with
 |refl=>exact dx _
 |step _ d=>exact dz d (Nat.le_add_right _ _)
theorem glue(T:Nat→Tape)(c:Nat→Nat×Nat):∃G:Tape,∀n j q,(c n).1+j<(c n).2→G (kp c n+j) q=T n ((c n).1+j) q:=by
 classical
 refine⟨fun x q=>if h:∃d:Nat×Nat,kp c d.1+d.2=x∧(c d.1).1+d.2<(c d.1).2 then T h.choose.1 ((c h.choose.1).1+h.choose.2) q else 0,fun n j q m=>?_⟩;have hx:∃d:Nat×Nat,kp c d.1+d.2=kp c n+j∧(c d.1).1+d.2<(c d.1).2:=⟨(n,j),rfl,m⟩;simp only[hx,dite_true];obtain⟨e,l⟩:=hx.choose_spec;generalize hx.choose=d at e l ⊢;obtain⟨n',o⟩:=d;simp only at e l ⊢;have p:n'=n:=by
  rcases Nat.lt_trichotomy n' n with h|h|h
  ·have:=BN c (Nat.succ_le_of_lt h);simp only[kp]at this;omega
  ·exact h
  ·have:=BN c (Nat.succ_le_of_lt h);simp only[kp]at this;omega
 subst p;have:o=j:=by omega
 rw[this]
end
section
open Go.Conc
open Go.ConcN (sumTo upd sumTo_upd upd_ne upd_same)
theorem xE(P:Program):∃pk:Machine→Nat×Nat×Option (Nat×Nat),∀gs w sl,(∀g∈gs,awake g)→(∃(i:Nat)(g:Goroutine),gs[i]?=some g∧g.status=.running) →
  ∃g,gs[(pk (crowd gs w sl)).1]?=some g∧g.status=.running∧stepT P (crowd gs w sl)=runT P (crowd gs (w.at (pk (crowd gs w sl)).2.1) (pk (crowd gs w sl)).2.2) (pk (crowd gs w sl)).1:=by
 classical
 refine⟨fun m=>if h:∃x:Nat×Nat×Option (Nat×Nat),∃g,m.gs[x.1]?=some g∧g.status=.running∧stepT P m=runT P (crowd m.gs (m.world.at x.2.1) x.2.2) x.1 then h.choose else(0,0,none),fun gs w sl c hr=>?_⟩;obtain⟨i,g,d,j0,e,j,l⟩:=crowd_pick (P:=P) (w:=w) (sl:=sl) c hr;have h:∃x:Nat×Nat×Option (Nat×Nat),∃g,(crowd gs w sl).gs[x.1]?=some g∧g.status=.running∧stepT P (crowd gs w sl)=runT P (crowd (crowd gs w sl).gs ((crowd gs w sl).world.at x.2.1) x.2.2) x.1:=⟨(i,d,j0),g,e,j,l⟩;simp only[dif_pos h];exact h.choose_spec
section
variable (P:Program) (pk:Machine→Nat×Nat×Option (Nat×Nat)) (i0:Nat) (m0:Machine) (t0:Trace)
def kr (n:Nat):Nat×Nat :=
 match(runNT P n m0 t0).1 with
 | .next m=>if(pk m).1=i0 then((pk m).2.1,(nn (stepG P (i0 == 0) (m.gs.getD i0 default) (m.world.at (pk m).2.1))).drawn) else(0,0)
 | .ended _ _=>(0,0)
def uV (n:Nat):Tape :=
 match(runNT P n m0 t0).1 with
 | .next m=>m.world.tape
 | .ended _ w=>w.tape
variable {P pk i0 m0 t0}
variable {n:Nat} {gs:Array Goroutine} {w:World} {sl:Option (Nat×Nat)} {t:Trace}
theorem zd{g:Goroutine}(h:runNT P n m0 t0=(.next (crowd gs w sl),t))(c:gs[i0]?=some g)(hp:(pk (crowd gs w sl)).1=i0):kr P pk i0 m0 t0 n=((pk (crowd gs w sl)).2.1,(nn (stepG P (i0 == 0) g (w.at (pk (crowd gs w sl)).2.1))).drawn):=by
 unfold kr;rw[h];simp only[hp,dg];have:(crowd gs w sl).gs.getD i0 default=g:=by
  show gs.getD i0 default=g;rw[du,c];rfl
 rw[this];rfl
theorem tU(h:runNT P n m0 t0=(.next (crowd gs w sl),t))(hp:(pk (crowd gs w sl)).1≠i0):kr P pk i0 m0 t0 n=(0,0):=by
 unfold kr;rw[h];simp only[hp,dh]
theorem BO(h:runNT P n m0 t0=(.next (crowd gs w sl),t)):uV P m0 t0 n=w.tape:=by
 unfold uV;rw[h];rfl
end
structure Beside (P:Program) (m0:Machine) (t0:Trace) (Shun:Loc→Prop) (n:Nat) (gs:Array Goroutine) (w:World) (sl:Option (Nat×Nat)) (t:Trace) (q:Nat→Nat) (g:Goroutine):Prop where
 run:runNT P n m0 t0=(.next (crowd gs w sl),t)
 main:gs[0]?=some g
 leave:Leavers P t gs q
 past:Past Shun w.heap.size t
section
variable {P:Program} {m0:Machine} {t0:Trace} {Shun:Loc→Prop} {pk:Machine→Nat×Nat×Option (Nat×Nat)}
variable {n:Nat} {t:Trace}
theorem oh{m c:Machine}{ops:Array MemOp}(h:runNT P n m0 t0=(.next m,t))(d:stepT P m=(.next c,ops)):runNT P (n+1) m0 t0=(.next c,t++ops):=by
 rw[eL,h];simp only[runNT,d]
variable {gs:Array Goroutine} {q:Nat→Nat} {g:Goroutine}
theorem BP(h:Leavers P t gs q){g':Goroutine}{w':World}(m:gs[0]?=some g)(fn:FuncId)(pos:String)(es:Array Event):Leavers P (t++MemOp.ofEvents 0 fn pos es) ((gs.map (woken P g g' w')).setIfInBounds 0 g') q:=by
 refine⟨fun j x d hx=>?_,fun j d=>?_⟩
 ·rw[dI (show(0:Nat)≠j by omega),dQ]at hx;obtain⟨y,o,rfl⟩:=eg.1 hx;have l:=h.old j y d o;rw[eM l,eN t (show(0:Nat)≠j by omega) _ (fun op c=>by obtain⟨e,_,rfl⟩:=eP c;rfl)];exact l
 ·have r:0<gs.size:=(dp.1 m).1;have p:gs.size≤j:=by simpa using d
  rw[eN t (g':=0) (show(0:Nat)≠j by omega) _ (fun op c=>by obtain⟨e,_,rfl⟩:=eP c;rfl)];exact h.above j p
theorem turn(I:∀gs w sl,(∀g∈gs,awake g)→(∃(i:Nat)(g:Goroutine),gs[i]?=some g∧g.status=.running) →
  ∃g,gs[(pk (crowd gs w sl)).1]?=some g∧g.status=.running∧stepT P (crowd gs w sl)=runT P (crowd gs (w.at (pk (crowd gs w sl)).2.1) (pk (crowd gs w sl)).2.2) (pk (crowd gs w sl)).1){w:World}{sl:Option (Nat×Nat)}(h:Beside P m0 t0 Shun n gs w sl t q g)(J:g.status=.running):∃d j0,(∃gs' t' q',Beside P m0 t0 Shun (n+1) gs' (w.at d) j0 t' q' g∧gs'.size=gs.size∧sumTo gs.size q'<sumTo gs.size q∧kr P pk 0 m0 t0 n=(0,0)) ∨
   (kr P pk 0 m0 t0 n=(d,(nn (stepG P true g (w.at d))).drawn)∧∀g' w' es,stepG P true g (w.at d)=.go g' w' es→(∀e∈es,EvL Shun w'.heap.size e)→w.heap.size≤w'.heap.size →
    ∃gs' t',Beside P m0 t0 Shun (n+1) gs' w' j0 t' q g'∧gs'.size=gs.size):=by
 have M:∀x∈gs,awake x:=by
  intro x hx;obtain⟨i,W,rfl⟩:=eQ.1 hx;rcases eT i with rfl|c
  ·have:gs[0]=g:=by simpa[dq W]using h.main
   rw[this];exact eU (.inl J)
  ·exact eU ((h.leave.old i _ c (dq W)).status.elim .inl fun x=>.inr (.inr x))
 obtain⟨x,hx,p,r⟩:=I gs w sl M ⟨0,g,h.main,J⟩;have l:=zd (P:=P) (pk:=pk) (i0:=0) h.run h.main;have m:=tU (P:=P) (pk:=pk) (i0:=0) h.run;generalize pk (crowd gs w sl)=y at hx r l m;obtain⟨i,d,j0⟩:=y;simp only at hx r l m;refine⟨d,j0,?_⟩;rcases eT i with rfl|c
 ·refine .inr ⟨l rfl,fun g' w' es hgo N hsz=>?_⟩;obtain rfl:x=g:=by rw[h.main]at hx;exact(eX hx).symm
  have o:=eZ (P:=P) (sl:=j0) (i:=0) h.main (show stepG P (0 == 0) x (w.at d)=_ from hgo);have s:0<gs.size:=(dp.1 h.main).1;refine⟨_,_,⟨oh h.run (r.trans o),by simp[s],BP h.leave h.main _ _ _,(h.past.mono hsz).own N⟩,by simp⟩
 ·refine .inl ?_;have G:=h.leave.old i x c hx;have s:i<gs.size:=(dp.1 hx).1;have O:(i == 0)=false:=by simp;omega
  cases A:q i with
  |zero=>rw[A]at G;rw[G.1]at p;cases p
  |succ k =>
   rw[A]at G;rcases G with⟨Y,_⟩|⟨_,g',es,hm,E,R⟩
   ·rw[Y]at p;cases p
   have o:=eZ (P:=P) (sl:=j0) (i:=i) hx (by rw[O];exact E (w.at d));have X:sumTo gs.size (upd q i k)+(k+1)=sumTo gs.size q+k:=by
    have:=fb q k id s;simpa[A]using this
   refine⟨_,_,upd q i k,⟨oh h.run (r.trans o),?_,⟨fun j z U H=>?_,fun j U=>?_⟩,h.past.mute (show i≠0 by omega) hm⟩,by simp,by omega,m (show i≠0 by omega)⟩
   ·rw[dI (show i≠0 by omega),dQ,h.main];simp[fe J]
   ·by_cases u:i=j
    ·subst u;rw[ff (by simpa using s)]at H;obtain rfl:=eX H;rw[fg,fh];exact R
    ·rw[dI u,dQ]at H;obtain⟨y,Z,rfl⟩:=eg.1 H;have F:=h.leave.old j y U Z;rw[eM F,fi q k (dE u),eN t u _ (fun op C=>by obtain⟨e,_,rfl⟩:=eP C;rfl)];exact F
   ·have V:gs.size≤j:=by simpa using U
    rw[eN t (g':=i) (show i≠j by omega) _ (fun op C=>by obtain⟨e,_,rfl⟩:=eP C;rfl)];exact h.leave.above j V
end
end
section
open Go.Conc
open Go.ConcN (sumTo upd sumTo_upd upd_ne upd_same)
variable [Scope]
section
variable {P:Program}
theorem mV.leave[ki P][lu P]{m0:Machine}{K:Nat}{T:Tape}{ρ:jR}{c:Frame}{cs:List Frame}{k D:Nat}{gS g:Goroutine}{wS w:World}(h:mV P m0 K T ρ (c::cs) k D gS wS g w){v:Value}(o:gS.frame.leaving P wS (.returned v))(y:gS.callers=[cap P])(main:Bool)(m:∀j q,w.drawn+j<(nn (stepG P main g w)).drawn→w.tape (w.drawn+j) q=T (D+j) q):∃v' w' es ρ',stepG P main g w=.go { frame:=c.finish v',callers:=cs,status:=.running,dying:=none } w' es∧Grow ρ w ρ'∧Kept ρ w w'∧(∀e∈es,nj ρ' e)∧HR ρ' wS w'∧VR ρ' v v':=by
 obtain⟨hm,hd,R,fn,U,hr⟩:=o;have V:TA ⟨some (nn (stepG P main g w)).drawn,(w.drawn:Int)-D,T⟩ wS w:=⟨by rw[h.drawn];simp only;omega,h.tape,fun j q o=>by rw[h.tape,h.drawn];exact m j q (o _ rfl)⟩;have z:=uO (za (P:=P) (fn:=fn) h.gr.frame.tmps) wS w #[] h.hr V;rw[hr]at z;obtain⟨jS,ys,st',A,d⟩:=g;have W:st'=.running:=h.gr.status.2;have C:A=none:=h.gr.dying.2;subst W C;have E:ys=c::cs:=by
  obtain⟨us,vs,O,X,q,_⟩:=h.gr.callers;rw[y]at O
  cases q with
  |nil=>simpa using X
  |cons _ _=>have:=dD List.length O;simp at this
 subst E;have p:jS.mode=.returning:=by
  have:=h.gr.frame.mode;rw[hm]at this;simp only at this
  cases F:jS.mode<;>rw[F]at this<;>first|rfl|cases this
 have G:jS.defers=[]:=by
  have:=h.gr.frame.defers;rw[hd]at this;simp only at this
  cases F:jS.defers<;>rw[F]at this<;>first|rfl|cases this
 have H:jS.kind=.normal:=h.gr.frame.kind.trans R;have I:P.funcs[jS.fn]?=some fn:=by rw[show jS.fn=gS.frame.fn from h.gr.frame.fn];exact U
 have u:stepG P main { frame:=jS,callers:=c::cs,status:=.running,dying:=none,offers:=d } w=GStep.after (seen P jS.fn ((results fn jS.tmps).runT P w #[]).2) (match((results fn jS.tmps).runT P w #[]).1 with
   | .ok v w=>doReturn P main jS (c::cs) none v w
   | .halt (.stuck s) w=>.ended (.stuck s (jS.pos P)) w
   | .halt _ w=>.ended (.stuck "return: the result variables cannot be read" (jS.pos P)) w):=by
  unfold stepG;simp only[p];unfold unwind;simp only[G,p,I];rfl
 have x:Fits ⟨some (nn (stepG P main { frame:=jS,callers:=c::cs,status:=.running,dying:=none,offers:=d } w)).drawn,(w.drawn:Int)-D,T⟩ ((results fn jS.tmps).runT P w #[]).1.world:=by
  intro l o
  cases o
  rw[u,vE];generalize((results fn jS.tmps).runT P w #[]).1=r
  cases r with
  |ok v w=>simp only[BK];exact dx _
  |halt h w=>cases h<;>exact dx _
 unfold After at z;obtain⟨v',w',new,ρ',e,Y,Z,J,aa,M,N⟩:=z x;rw[u,e];refine⟨v',w',seen P jS.fn (#[]++new)++#[],ρ',?_,Y,M,?_,J,Z⟩
 ·simp only[doReturn,H,GStep.after]
 ·intro e he;simp only[fj]at he;have:=rB he;simp only[eA]at this;exact N e this
structure rC (Shun:Loc→Prop) (ρ:jR) (w:World):Prop where
 cell:∀b p a,ρ b=some p→a.block=p.block→¬Shun (.cell a)
 obj:∀b p,ρ b=some p→¬Shun (.obj p.block)
 low:∀l,Shun l→l.low w.heap.size
 out:¬Shun .output
variable {Shun:Loc→Prop} {ρ ρ':jR} {w w':World}
theorem rC.grow(h:rC Shun ρ w)(g:Grow ρ w ρ')(d:w.heap.size≤w'.heap.size):rC Shun ρ' w':=by
 refine⟨fun b p a hb e hx=>?_,fun b p hb hx=>?_,fun l j=>Loc.low_mono d (h.low l j),h.out⟩
 ·rcases g.new b p hb with c|⟨_,c⟩
  ·exact h.cell b p a c e hx
  ·have:a.block<w.heap.size:=h.low _ hx;omega
 ·rcases g.new b p hb with c|⟨_,c⟩
  ·exact h.obj b p c hx
  ·have:p.block<w.heap.size:=h.low _ hx;omega
variable {wS:World}
theorem vF(h:rC Shun ρ w)(l:HR ρ wS w){e:Event}(he:nj ρ e):EvL Shun w.heap.size e:=by
 obtain⟨loc,wr,j⟩:=e;have size:∀b p,ρ b=some p→p.block<w.heap.size:=fun b p hb=>by
  obtain⟨_,_,_,o,_⟩:=l.obj b p hb;exact(dp.1 o).1
 unfold nj at he
 cases loc with
 |cell a =>
  obtain⟨b,p,hb,hp,_⟩:=he;refine⟨fun x hx c=>?_,by simp,by simp,?_⟩
  ·have d:x.loc=.cell a:=by
    simp only[MemAct.ofEvent,MemAct.touch?]at hx;split at hx<;>first|(cases hx;rfl)|cases hx
   rw[d]at c;exact absurd c (h.cell b p a hb hp.symm)
  ·show a.block<_;rw[←hp];exact size b p hb
 |obj r =>
  obtain⟨b,hb⟩:=he;have no:∀x,(MemAct.ofEvent ⟨.obj r,wr,j⟩).touch? = some x→x.loc=.obj r:=by
   intro x hx
   cases wr<;>cases j<;>simp[MemAct.ofEvent,MemAct.touch?]at hx<;>rw[←hx]
  refine⟨fun x hx c=>?_,by simp,by simp,?_⟩
  ·rw[no x hx]at c;exact absurd c (h.obj b _ hb)
  ·cases wr<;>cases j<;>exact size b _ hb
 |mark m =>
  obtain rfl:m=.noRoom:=he;exact⟨fun x hx=>by simp[MemAct.ofEvent,MemAct.touch?]at hx,by simp,by simp,trivial⟩
 |output =>
  refine⟨fun x hx c=>?_,by simp,by simp,trivial⟩;have d:x.loc=.output:=by
   simp only[MemAct.ofEvent,MemAct.touch?]at hx;split at hx<;>first|(cases hx;rfl)|cases hx
  rw[d]at c;exact absurd c h.out
 |_=>exact he.elim
variable {v:World}
theorem Grow.from_(h:Grow ρ w ρ')(e:v.heap.size=w.heap.size):Grow ρ v ρ':=⟨h.le,by rw[e];exact h.new⟩
theorem Kept.from_(h:Kept ρ w w')(d:v.os=w.os)(e:v.tape=w.tape)(j:v.output=w.output)(c:v.heap=w.heap)(l:v.drawn≤w'.drawn):Kept ρ v w' :=
 ⟨by rw[d];exact h.os,by rw[e];exact h.tape,by rw[j];exact h.output,l,by rw[c];exact h.size,by rw[c];exact h.other,by rw[c];exact h.part⟩
theorem Kept.uW(h:Kept ρ w w')(d:v.os=w'.os)(e:v.tape=w'.tape)(j:v.output=w'.output)(c:v.heap=w'.heap)(l:w.drawn≤v.drawn):Kept ρ w v :=
 ⟨d.trans h.os,e.trans h.tape,j.trans h.output,l,by rw[c];exact h.size,by rw[c];exact h.other,by rw[c];exact h.part⟩
theorem Hv[ki P][lu P]{gs:Array Goroutine}{sl:Option (Nat×Nat)}{t:Trace}{q:Nat→Nat}{f:FuncId}(hf:Scope.ok f=true){args lF:Array Value}(ha:jW ρ args lF)(hh:HR ρ wS w){c:Frame}{cs:List Frame}(h0:gs[0]?=some { frame:=Frame.enter P f lF .normal,callers:=c::cs,status:=.running,dying:=none })(hL:Leavers P t gs q)(hP:Past Shun w.heap.size t)(hS:rC Shun ρ w){R:Value→World→Prop}(hc:∀T,Calls P f args { wS with tape:=T,drawn:=0 } fun e w'=>∃v,e=.returned v∧R v w'):∃N gs' w' j0 t' q' ρ' v v' m,runNT P N (crowd gs w sl) t=(.next (crowd gs' w' j0),t')∧gs'.size=gs.size∧gs'[0]?=some { frame:=c.finish v',callers:=cs,status:=.running,dying:=none }∧Leavers P t' gs' q'∧Past Shun w'.heap.size t' ∧
   Grow ρ w ρ'∧Kept ρ (w.at 0) w'∧HR ρ' m w'∧VR ρ' v v'∧R v m:=by
 obtain⟨pk,Z⟩:=xE P;obtain⟨T,hT⟩:=glue (uV P (crowd gs w sl) t) (kr P pk 0 (crowd gs w sl) t);obtain⟨K,nT,wE,e,hK,⟨v,rfl,hR⟩,ae,aa,W⟩:=zb (hc T) (by rintro w' ⟨v,hv,_⟩;cases hv);have hE:uU P _ K nT wE:=⟨hK,W.2.2,W.2.1⟩;have hstart:=mV.start (P:=P) hf ha hh (c::cs) T K
 suffices key:∀Y n G w1 X t1 M g1 k r gS u,Beside P (crowd gs w sl) t Shun n G w1 X t1 M g1→G.size=gs.size→mV P (lone (Frame.enter P f args .normal) [cap P] { wS with tape:=T,drawn:=0 }) K T r (c::cs) k (kp (kr P pk 0 (crowd gs w sl) t) n) gS u g1 w1 →
   Grow ρ w r→Kept ρ (w.at 0) w1→(K-k)+sumTo gs.size M=Y →
   ∃N gs' w' j0 t' q' ρ' v v' m,runNT P N (crowd gs w sl) t=(.next (crowd gs' w' j0),t')∧gs'.size=gs.size∧gs'[0]?=some { frame:=c.finish v',callers:=cs,status:=.running,dying:=none }∧Leavers P t' gs' q'∧Past Shun w'.heap.size t' ∧
    Grow ρ w ρ'∧Kept ρ (w.at 0) w'∧HR ρ' m w'∧VR ρ' v v'∧R v m from
  key _ 0 gs w sl t q _ 0 ρ _ _ ⟨rfl,h0,hL,hP⟩ rfl hstart (Grow.refl _ _) ((Kept.refl hh).from_ rfl rfl rfl rfl (eI _)) rfl
 intro Y
 induction Y using Nat.strongRecOn with
 |_ Y ih =>
  intro n G w1 X t1 M g1 k r gS u hb hsz hr O U af;have s:g1.status=.running:=hr.gr.status.2;obtain⟨d,j0,H⟩:=turn (pk:=pk) Z hb s;have y:=hS.grow O U.size;have I:mV P (lone (Frame.enter P f args .normal) [cap P] { wS with tape:=T,drawn:=0 }) K T r (c::cs) k (kp (kr P pk 0 (crowd gs w sl) t) n) gS u g1 (w1.at d):=hr.others rfl (fun _=>rfl) fun b p o o' _ h1 h2=>⟨o,h1,h2⟩
  rcases H with⟨z,t2,q2,h,A,ab,l⟩|⟨l,hgo⟩
  ·have C:kp (kr P pk 0 (crowd gs w sl) t) (n+1)=kp (kr P pk 0 (crowd gs w sl) t) n:=by simp[kp,l]
   rw[hsz]at ab;exact ih ((K-k)+sumTo gs.size q2) (by omega) (n+1) z (w1.at d) j0 t2 q2 g1 k r gS u h (A.trans hsz) (by rw[C];exact I) O (U.uW rfl rfl rfl rfl (eI _)) rfl
  ·have E:∀j x,(w1.at d).drawn+j<(nn (stepG P true g1 (w1.at d))).drawn→(w1.at d).tape ((w1.at d).drawn+j) x=T (kp (kr P pk 0 (crowd gs w sl) t) n+j) x:=by
    intro j x hj;have:=hT n j x (by rw[l];exact hj);rw[l,BO hb.run]at this;exact this.symm
   by_cases F:AtEnd [cap P] gS
   ·obtain⟨rfl,e1,rfl⟩:=hr.at_end hE F;obtain⟨v',w',es,ρ',r0,J,r2,r3,V,r5⟩:=I.leave (v:=v) (by rw[e1];exact aa) F.1 true E;have r1:Grow r w1 ρ':=J.from_ rfl;obtain⟨z,t2,h,A⟩:=hgo _ _ _ r0 (fun e he=>vF (y.grow r1 r2.size) V (r3 e he)) r2.size;exact⟨n+1,z,w',j0,t2,M,ρ',v,v',u,h.run,A.trans hsz,h.main,h.leave,h.past,O.trans U.size r1,(U.uW (v:=w1.at d) rfl rfl rfl rfl (eI _)).trans (O.from_ rfl) r2,V,r5,hR⟩
   ·obtain⟨g2,w',es,ρ',ad,m,r0,J,r2,r3,V⟩:=I.step hE F true E;have r1:Grow r w1 ρ':=J.from_ rfl;obtain⟨z,t2,h,A⟩:=hgo _ _ _ r0 (fun e he=>vF (y.grow r1 r2.size) V.hr (r3 e he)) r2.size;have C:kp (kr P pk 0 (crowd gs w sl) t) (n+1)=kp (kr P pk 0 (crowd gs w sl) t) n+(w'.drawn-(w1.at d).drawn):=by
     simp only[kp,l];rw[r0];rfl
    have hle:=V.le;exact ih ((K-(k+1))+sumTo gs.size M) (by omega) (n+1) z w' j0 t2 M g2 (k+1) ρ' ad m h (A.trans hsz) (by rw[C];exact V) (O.trans U.size r1) ((U.uW (v:=w1.at d) rfl rfl rfl rfl (eI _)).trans (O.from_ rfl) r2) rfl
end
end
section
open Go.Conc
open Go.ConcN (sumTo upd sumTo_upd upd_ne upd_same)
section
variable {P:Program}
variable {w:World}
theorem tV{Shun:Loc→Prop}{Post:Goroutine→World→Prop}{g:Goroutine}(F:g.status=.running)(h:∀d,∃g' w' es,stepG P true g (w.at d)=.go g' w' es∧(∀e∈es,EvL Shun w'.heap.size e)∧w.heap.size≤w'.heap.size∧Post g' w'):∀(gs:Array Goroutine)(sl:Option (Nat×Nat)) (t:Trace) (q:Nat→Nat),gs[0]?=some g→Leavers P t gs q→Past Shun w.heap.size t →
   ∃N gs' g' w' j0 t' q',runNT P N (crowd gs w sl) t=(.next (crowd gs' w' j0),t')∧gs'.size=gs.size∧gs'[0]?=some g'∧Leavers P t' gs' q'∧Past Shun w'.heap.size t'∧Post g' w':=by
 obtain⟨pk,s⟩:=xE P
 suffices key:∀(r:Nat)(w1:World),(∃d,w1=w.at d)∨w1=w→∀(gs:Array Goroutine)(sl:Option (Nat×Nat)) (t:Trace) (q:Nat→Nat),sumTo gs.size q=r→gs[0]?=some g→Leavers P t gs q→Past Shun w.heap.size t →
   ∃N gs' g' w' j0 t' q',runNT P N (crowd gs w1 sl) t=(.next (crowd gs' w' j0),t')∧gs'.size=gs.size∧gs'[0]?=some g'∧Leavers P t' gs' q'∧Past Shun w'.heap.size t'∧Post g' w' from
  fun gs sl t q u x y=>key _ w (.inr rfl) gs sl t q rfl u x y
 intro r
 induction r using Nat.strongRecOn with
 |_ r G =>
  intro w1 p gs sl t q z u x y;have m:∀d,w1.at d=w.at d:=by
   intro d;rcases p with⟨d',rfl⟩|rfl<;>rfl
  have hsz:w1.heap.size=w.heap.size:=by rcases p with⟨d',rfl⟩|rfl<;>rfl
  have hb:Beside P (crowd gs w1 sl) t Shun 0 gs w1 sl t q g:=⟨rfl,u,x,by rw[hsz];exact y⟩;obtain⟨d,j0,o⟩:=turn (pk:=pk) s hb F;rcases o with⟨j,t2,E,c,l,A,_⟩|⟨_,hgo⟩
  ·obtain⟨N,gs',g',w',C,t',q',r1,r2,H⟩:=G (sumTo j.size E) (by rw[l,←z];exact A) (w1.at d) (.inl ⟨d,m d⟩) j j0 t2 E rfl c.main c.leave (by have:=c.past;rw[m d]at this;exact this);refine⟨1+N,gs',g',w',C,t',q',?_,r2.trans l,H⟩;rw[eL,show runNT P 1 (crowd gs w1 sl) t=_ from c.run];exact r1
  ·obtain⟨g',w',es,I,J,M,O⟩:=h d;obtain⟨j,t2,c,l⟩:=hgo g' w' es (by rw[m d];exact I) J (by rw[hsz];exact M);exact⟨1,j,g',w',j0,t2,q,c.run,l,c.main,c.leave,c.past,O⟩
variable [Scope]
def ze (Shun:Loc→Prop) (B:Nat):Prop:=(∀a:Addr,a.block=B→¬Shun (.cell a))∧¬Shun (.obj B)
def RO (ρ:jR) (B:Nat):Prop:=∀b p,ρ b=some p→p.block=B→∃ty,p.part=some ⟨0,0,ty⟩
variable {ρ:jR} {B:Nat}
theorem RO.of(h:∀b p,ρ b=some p→p.block≠B):RO ρ B:=fun b p hb e=>absurd e (h b p hb)
variable {ρ':jR}
theorem RO.back(h:RO ρ B)(k:∀b p,ρ' b=some p→p.block=B→ρ b=some p):RO ρ' B:=fun b p hb e=>h b p (k b p hb e) e
structure kW (Shun:Loc→Prop) (ρ:jR) (w:World) (sO:Loc→Prop) (ρ':jR) (w':World):Prop where
 os:w'.os=w.os
 size:w.heap.size≤w'.heap.size
 block:∀B,B<w.heap.size→RO ρ B→ze Shun B→w'.heap[B]?=w.heap[B]?∧(∀b p,ρ' b=some p→p.block=B→ρ b=some p)∧ze sO B
theorem kW.at(Shun:Loc→Prop)(ρ:jR)(w:World)(d:Nat):kW Shun ρ w Shun ρ (w.at d):=⟨rfl,dx _,fun _ _ e c=>⟨rfl,fun _ _ h _=>h,c⟩⟩
theorem kW.refl(Shun:Loc→Prop)(ρ:jR)(w:World):kW Shun ρ w Shun ρ w:=⟨rfl,dx _,fun _ _ d c=>⟨rfl,fun _ _ h _=>h,c⟩⟩
theorem kW.trans{S S' d:Loc→Prop}{ρ ρ' c:jR}{w w' j:World}(h:kW S ρ w S' ρ' w')(k:kW S' ρ' w' d c j):kW S ρ w d c j :=
 ⟨k.os.trans h.os,dz h.size k.size,fun B hB l o=>by
  obtain⟨r,m,s⟩:=h.block B hB l o;obtain⟨f1,f2,f3⟩:=k.block B (dA hB h.size) (l.back m) s;exact⟨f1.trans r,fun b p hb e=>m b p (f2 b p hb e) e,f3⟩⟩
variable {S:Loc→Prop}
theorem kW.kept{v w':World}(h:Kept ρ v w')(g:Grow ρ w ρ')(c:v.heap=w.heap)(j:v.os=w.os):kW S ρ w S ρ' w' :=
 ⟨h.os.trans j,by rw[←c];exact h.size,fun B hB l m=>⟨by
  by_cases d:∃b p,ρ b=some p∧p.block=B
  ·obtain⟨b,p,hb,rfl⟩:=d;obtain⟨ty,hp⟩:=l b p hb rfl;obtain⟨C,E,C',fr,_,k1,k2,r,o⟩:=h.part b p 0 0 ty hb hp;rw[←c,k1,k2];have:C'=C:=by
    apply dJ;intro i;exact o i (.inr (by omega))
   rw[this]
  ·rw[←c];exact h.other B (by rw[c];exact hB) fun b p hb e=>d ⟨b,p,hb,e⟩,fun b p hb e=>by
  rcases g.new b p hb with k|⟨_,k⟩
  ·exact k
  ·omega,m⟩⟩
def Hw (v:Value) (C:Array Value):Value:=.agg #[.chan (some 0),v,.agg C]
def kT:Value→Bool
 | .agg ⟨[.chan (some _),_,.agg _]⟩=>true
 |_=>false
def Hy (v:Value) (ad:Addr):Prop:=v=.pointer (some ad)∨∃l c,v=.slice (some ad) l c
def xF (Shun:Loc→Prop) (ρ:jR) (w:World) (ad:Addr) (C:Array Value):Prop:=(∃ty fr,w.heap[ad.block]?=some (.cells C ty fr))∧(∀y p,ρ y=some p→p.block≠ad.block)∧ze Shun ad.block
theorem xF.mB{S S':Loc→Prop}{ρ ρ':jR}{w w':World}{ad:Addr}{C:Array Value}(h:xF S ρ w ad C)(k:kW S ρ w S' ρ' w'):xF S' ρ' w' ad C:=by
 obtain⟨⟨ty,fr,e⟩,c,d⟩:=h;obtain⟨k1,k2,j⟩:=k.block _ (dp.1 e).1 (RO.of c) d;exact⟨⟨ty,fr,k1.trans e⟩,fun b p hb e=>c b p (k2 b p hb e) e,j⟩
def VF (Shun:Loc→Prop) (ρ:jR) (w:World) (v v':Value):Prop:=VR ρ v v'∨∃C ad,v=Hw v' C∧Hy v' ad∧xF Shun ρ w ad C
theorem VF.mB{S S':Loc→Prop}{ρ ρ':jR}{w w':World}{v v':Value}(h:VF S ρ w v v')(l:ρ.le ρ')(k:kW S ρ w S' ρ' w'):VF S' ρ' w' v v':=by
 rcases h with h|⟨C,ad,c,d,e⟩
 ·exact .inl (h.mono l)
 ·exact .inr ⟨C,ad,c,d,e.mB k⟩
theorem VF.vr{S:Loc→Prop}{ρ:jR}{w:World}{v v':Value}(h:VF S ρ w v v')(hm:kT v=false):VR ρ v v':=by
 rcases h with h|⟨C,ad,rfl,_⟩
 ·exact h
 ·cases hm
structure mq (Shun:Loc→Prop) (ρ:jR) (w:World) (xs ys:Array Value):Prop where
 size:xs.size=ys.size
 get:∀(i:Nat) v v',xs[i]?=some v→ys[i]?=some v'→VF Shun ρ w v v'
section
variable {S S':Loc→Prop} {ρ ρ':jR} {w w':World} {xs ys:Array Value}
theorem mq.mB(h:mq S ρ w xs ys)(l:ρ.le ρ')(k:kW S ρ w S' ρ' w'):mq S' ρ' w' xs ys:=⟨h.size,fun i v v' a b=>(h.get i v v' a b).mB l k⟩
theorem mq.of(h:jW ρ xs ys):mq S ρ w xs ys:=⟨h.size,fun i v v' a b=>.inl (h.get i v v' a b)⟩
variable {v:Value}
theorem mq.set(h:mq S ρ w xs ys)(i:Nat){v':Value}(k:VF S ρ w v v'):mq S ρ w (xs.setIfInBounds i v) (ys.setIfInBounds i v'):=by
 refine⟨by simp[h.size],fun j u c a b=>?_⟩;rw[dr]at a b;rw[←h.size]at b;split at a
 ·rename_i e;rw[dj e]at b;split at a
  ·rename_i d;rw[dj d]at b;cases a;cases b;exact k
  ·cases a
 ·rename_i e;rw[dk e]at b;exact h.get j u c a b
variable {i:Nat}
theorem mq.at_(h:mq S ρ w xs ys)(e:xs[i]?=some v):∃v',ys[i]?=some v'∧VF S ρ w v v':=by
 have c:i<ys.size:=by have:=(dp.1 e).1;have:=h.size;omega
 exact⟨ys[i],dq c,h.get i _ _ e (dq c)⟩
theorem mq.tL(h:mq S ρ w xs ys)(e:xs[i]?=none):ys[i]?=none:=by
 rw[Array.getElem?_eq_none_iff]at e ⊢;have:=h.size;omega
theorem mq.getD(h:mq S ρ w xs ys)(i:Nat):VF S ρ w (xs.getD i undef) (ys.getD i undef):=by
 simp only[du]
 cases e:xs[i]? with
 |none=>rw[h.tL e];exact .inl pS
 |some v=>obtain⟨v',c,k⟩:=h.at_ e;rw[c];exact k
theorem mq.yielded(h:mq S ρ w xs ys)(ops:Array Oper):yielded ops xs=yielded ops ys:=by
 funext j;unfold Go.yielded
 cases(ops[j]?).bind (·.dst)with
 |none=>rfl
 |some d =>
  simp only[dW]
  cases e:xs[d]? with
  |none=>rw[h.tL e]
  |some v =>
   obtain⟨v',c,k⟩:=h.at_ e;rw[c];rcases k with k|⟨C,ad,rfl,k|⟨_,_,k⟩,_⟩
   ·cases k<;>first|rfl|(rename_i l;cases v'<;>first|rfl|simp[mM]at l)
   ·subst k;rfl
   ·subst k;rfl
theorem mq.append(h:mq S ρ w xs ys){nA nB:Array Value}(k:jW ρ nA nB):mq S ρ w (xs++nA) (ys++nB):=by
 refine⟨by simp[h.size,k.size],fun i u c a b=>?_⟩;rw[dn]at a b;rw[←h.size]at b;split at a
 ·rename_i e;rw[dj e]at b;exact h.get i u c a b
 ·rename_i e;rw[dk e]at b;exact .inl (k.get _ u c a b)
def uX (xs:Array Value) (e:Operand→Value):Operand→Value
 | .tmp t=>if kT (xs.getD t undef) then undef else e (.tmp t)
 |x=>e x
def uY (o:Oper) (e:Operand→Value):Bool:=o.op.operands.all fun x=>!kT (e x)
end
structure kR (Shun:Loc→Prop) (ρ:jR) (w:World) (a b:Frame):Prop where
 fn:b.fn=a.fn
 tmps:mq Shun ρ w a.tmps b.tmps
 todo:b.todo=a.todo
 defers:a.defers=[]∧b.defers=[]
 mode:b.mode=a.mode∧(a.mode=.run∨a.mode=.returning)
 kind:a.kind=.normal∧b.kind=.normal
 round:a.roundOf=none∧b.roundOf=none
theorem kR.mB{S S':Loc→Prop}{ρ ρ':jR}{w w':World}{a b:Frame}(h:kR S ρ w a b)(l:ρ.le ρ')(k:kW S ρ w S' ρ' w'):kR S' ρ' w' a b:=⟨h.fn,h.tmps.mB l k,h.todo,h.defers,h.mode,h.kind,h.round⟩
inductive qn (Shun:Loc→Prop) (ρ:jR) (w:World):List Frame→List Frame→Prop
 |nil:qn Shun ρ w [] []
 |cons {x y:Frame} {xs ys:List Frame}:kR Shun ρ w x y→qn Shun ρ w xs ys→qn Shun ρ w (x::xs) (y::ys)
theorem qn.mB{S S':Loc→Prop}{ρ ρ':jR}{w w':World}{x y:List Frame}(h:qn S ρ w x y)(l:ρ.le ρ')(k:kW S ρ w S' ρ' w'):qn S' ρ' w' x y:=by
 induction h with
 |nil=>exact .nil
 |cons h _ c=>exact .cons (h.mB l k) c
theorem kR.eval{a b:Frame}(h:kR S ρ w a b):ER ρ (uX a.tmps a.eval) (uX a.tmps b.eval):=by
 refine⟨fun t=>?_,fun c=>⟨rfl,rfl⟩,fun i=>⟨rfl,rfl⟩⟩;unfold uX;simp only;have:=h.tmps.getD t;split
 ·exact pS
 ·rename_i hm;exact this.vr (by simpa using hm)
theorem BQ{o:Oper}{xs:Array Value}{e g:Operand→Value}(c:∀cs b,o.op≠.select cs b)(he:∀t,e (.tmp t)=xs.getD t undef)(hu:uY o e=true):execOp (uX xs g) o=execOp g o:=by
 refine execOp_congr o c fun x hx=>?_
 have:=dv.1 hu x hx
 cases x with
 |tmp t =>
  rw[he t]at this;unfold uX;simp only;rw[dk (by simpa using this)]
 |_=>rfl
structure oO (P:Program) (Shun:Loc→Prop) (ρ:jR) (cs:List Frame) (fr:Frame) (xs:List Frame) (wS:World) (gs:Array Goroutine) (w:World) (t:Trace) (q:Nat→Nat):Prop where
 main:∃jS ys,gs[0]?=some (G jS (ys++cs))∧kR Shun ρ w fr jS∧qn Shun ρ w xs ys
 hr:HR ρ wS w
 leave:Leavers P t gs q
 past:Past Shun w.heap.size t
 mD:rC Shun ρ w
variable (P) in
def j6 (cs:List Frame) (Q:Frame→List Frame→World→Prop) (fr:Frame) (xs:List Frame) (wS:World):Prop :=
 ∀Shun ρ gs w sl t q,oO P Shun ρ cs fr xs wS gs w t q →
  ∃N gs' w' j0 t' q' sO ρ' jS nA BR,runNT P N (crowd gs w sl) t=(.next (crowd gs' w' j0),t')∧ρ.le ρ'∧oO P sO ρ' cs jS nA BR gs' w' t' q'∧Q jS nA BR∧kW Shun ρ w sO ρ' w'
variable {cs xs:List Frame} {Q:Frame→List Frame→World→Prop} {fr:Frame} {wS:World}
theorem j6.done(h:Q fr xs wS):j6 P cs Q fr xs wS :=
 fun Shun ρ gs w sl t q c=>⟨0,gs,w,sl,t,q,Shun,ρ,_,_,_,rfl,jR.le_refl _,c,h,kW.refl _ _ _⟩
theorem j6.bind{x:Frame→List Frame→World→Prop}(h:j6 P cs Q fr xs wS)(k:∀fr xs wS,Q fr xs wS→j6 P cs x fr xs wS):j6 P cs x fr xs wS:=by
 intro Shun ρ gs w sl t q y;obtain⟨N,e,w1,j,t1,z,c,l,A,C,E,F,hle,G,H,I⟩:=h Shun ρ gs w sl t q y;obtain⟨J,m,w2,o,t2,M,d,p,fr2,r,s,k1,u,k2,O,R⟩:=k _ _ _ H c l e w1 j t1 z G;refine⟨N+J,m,w2,o,t2,M,d,p,fr2,r,s,?_,jR.le_trans hle u,k2,O,I.trans R⟩;rw[eL,F];exact k1
theorem j6.ctl{fr2:Frame}(h:∀S ρ v jS ys w,kR S ρ v fr jS→∃c,stepG P true (G jS ys) w=.go (G c ys) w #[]∧kR S ρ v fr2 c)(k:j6 P cs Q fr2 xs wS):j6 P cs Q fr xs wS:=by
 refine j6.bind (Q:=fun f x v=>f=fr2∧x=xs∧v=wS) (fun Shun ρ gs w sl t q j=>?_) (by rintro _ _ _ ⟨rfl,rfl,rfl⟩;exact k);obtain⟨jS,ys,m,o,hx⟩:=j.main;obtain⟨N,gs',g',w',j0,t',q',r1,r2,p,r,s,c,rfl,l,d,rfl⟩:=tV (P:=P) (Shun:=Shun) (Post:=fun g' w'=>∃c,g'=G c (ys++cs)∧kR Shun ρ w fr2 c∧∃d,w'=w.at d) (w:=w) (g:=G jS (ys++cs)) rfl (fun d=>by
  obtain⟨c,e,l⟩:=h Shun ρ w jS (ys++cs) (w.at d) o;exact⟨_,_,_,e,by simp,dx _,c,rfl,l,d,rfl⟩) gs sl t q m j.leave j.past
 exact⟨N,gs',w.at d,j0,t',q',Shun,ρ,fr2,xs,wS,r1,jR.le_refl _,⟨⟨c,ys,p,l.mB (jR.le_refl _) (kW.at _ _ _ d),hx.mB (jR.le_refl _) (kW.at _ _ _ d)⟩,⟨j.hr.obj,j.hr.inj,j.hr.base,j.hr.os,j.hr.sync⟩,r,s,⟨j.mD.cell,j.mD.obj,j.mD.low,j.mD.out⟩⟩,⟨rfl,rfl,rfl⟩,kW.at _ _ _ d⟩
end
end
section
open Go.Conc
open Go.ConcN (sumTo upd sumTo_upd upd_ne upd_same)
variable [Scope]
section
variable {P:Program}
end
end
section
open Go.Conc
def again (w:World) (T:Tape):World:={ w with tape:=T,drawn:=0 }
section
variable {P:Program} {BS:Frame→World→(Frame→World→Prop)→Prop}
variable (P BS) in
end
variable [Scope]
theorem HR.jZ{ρ:jR}{w v w':World}(h:HR ρ w w')(c:v.heap=w.heap)(d:v.os=w.os):HR ρ v w' :=
 ⟨by rw[c];exact h.obj,h.inj,by rw[c];exact h.base,by rw[d];exact h.os,by rw[c];exact h.sync⟩
variable (P:Program) in
section
variable {P:Program} {BS:Frame→World→(Frame→World→Prop)→Prop}
end
end
end Go.Proofs.YtjnkcibpkkjniaaGreat.j7
