import Derived.Test.YtjnkcibpkkjniaaGreatA00
import Derived.Test.YtjnkcibpkkjniaaGreatA01
import Derived.Conc.Beside
import Derived.Conc.CompanyCalls
set_option linter.all false
namespace Go.Proofs.YtjnkcibpkkjniaaGreat
def eQ:=@Go.runNT_add
def eT:=@Go.Conc.woken_quitsD
def eU:=@Go.Conc.Deaf_other
def eX:=@Go.Conc.mem_ofEvents
def fe:=@Go.Conc.awake_of
def fg:=@Go.Conc.runT_crowd_go
def fh:=@Go.ConcN.sumTo_upd
def fi:=@Go.Conc.woken_run
def fl:=@Go.ConcN.upd_same
def fo:=@Go.Conc.Deaf_own
def fp:=@Go.ConcN.upd_ne
def fw:=@Go.Conc.stepG_cond
def fy:=@Go.Conc.stepG_region
def fz:=@Go.Conc.goes_call
def fA:=@Go.Conc.goes_go
def fC:=@Go.Conc.events_results_tmp
def fI:=@Go.Conc.touch_of
def fJ:=@Go.Conc.getElem?_append_cases
def fK:=@Go.Conc.lt_size_of_getElem?
def fL:=@Go.Conc.noRace_append
def fY:=@Go.Conc.stepG_end
def ga:=@Go.Conc.Goes.rely
def gb:=@Go.Conc.Goes.running
def gd:=@Go.Conc.seen_none
def gh:=@Go.mem_ready
def gx:=@Go.Conc.Goes.step
def gy:=@Go.Conc.stepG_value
def gz:=@Go.Conc.mem_listed
def gA:=@Go.ConcN.cell_of_block
def gC:=@Go.Conc.goes_oper_k
def gJ:=@Go.Conc.ofEvents_eq
def gQ:=@Go.Conc.Goes.cases
def iH:=@Go.wp_region_any
def iJ:=@Go.RowKit.Below.refl
def iR:=@Go.DataW.trod_struct
def iS:=@Go.DataW.trod_int
def iU:=@Go.World.cells?_some
def jm:=@Go.RowKit.Below.setCell
def jq:=@Go.heap_alloc_new
def ju:=@Go.World.ownsRow_nil
def jC:=@Go.RowKit.Below.trans
def jA:=@Go.World.ownsRow.lt
def jJ:=@Go.ByteArray.toList_eq
def jL:=@Go.heap_alloc_new
def jT:=@Go.World.cell?_of_block
def jU:=@Go.World.frozen?_of_block
def jY:=@Go.cell_of_row
def j0:=@Go.frozen_of_row
end Go.Proofs.YtjnkcibpkkjniaaGreat
namespace Go.Proofs.YtjnkcibpkkjniaaGreat.kx
section
variable [Scope]
theorem ki.opt{ρ:j7}{xs ys:Array Value}(h:ki ρ xs ys)(i:Nat):o9 ρ xs[i]? ys[i]?:=by
 cases e:xs[i]? with
 |none=>rw[h.uq e];exact .none
 |some v=>obtain⟨v',j,k⟩:=h.at_ e;rw[j];exact .some k
section
variable {P:Program} {ρ:j7}
variable {xs ys:Array Value}
theorem Ig[kD P](ts:Array TypeId)(t:TypeId)(j:∀t,ts[0]?=some t→Scope.chans t=false)(h:ki ρ xs ys):SR P VR ρ (Builtin.len_ ts t xs) (Builtin.len_ ts t ys):=by
 unfold Builtin.len_;have r:=h.opt 0;generalize xs[0]?=x,ys[0]?=y at r;generalize ts[0]?=z at j
 cases z with
 |none=>exact kr
 |some t =>
  cases r with
  |none=>exact kr
  |some E =>
   refine SR.bind (mi t) fun F d d' G e=>?_
   obtain⟨rfl,H⟩:=e;have m:=E.mono G
   cases d with
   |chan I J =>
    have C:=kD.chans (P:=P) t I J H;rw[j t rfl]at C
    cases C
   |map k e =>
    cases m with
    |map hr =>
     refine SR.bind (zx hr) fun A o o' M r=>?_
     cases r with
     |map a b=>simp only[a];exact kg (.int _ _)
     |_=>exact kr
    |qS=>exact kg (.int _ _)
    |_=>exact kr
   |pointer arr =>
    refine SR.bind (mi arr) fun A d d' M e=>?_
    obtain⟨rfl,_⟩:=e
    cases d<;>first|exact kg (.int _ _)|exact kr
   |_=>cases m<;>first|exact kg (.int _ _)|exact kr
theorem Ih[kD P](ts:Array TypeId)(t:TypeId)(j:∀t,ts[0]?=some t→Scope.chans t=false)(h:ki ρ xs ys):SR P VR ρ (Builtin.cap_ ts t xs) (Builtin.cap_ ts t ys):=by
 unfold Builtin.cap_;have z:=h.opt 0;generalize xs[0]?=x,ys[0]?=y at z;generalize ts[0]?=m at j
 cases m with
 |none=>exact kr
 |some t =>
  cases z with
  |none=>exact kr
  |some C =>
   refine SR.bind (mi t) fun E d d' F e=>?_
   obtain⟨rfl,G⟩:=e;have r:=C.mono F
   cases d with
   |chan H I =>
    have A:=kD.chans (P:=P) t H I G;rw[j t rfl]at A
    cases A
   |pointer arr =>
    refine SR.bind (mi arr) fun J d d' M e=>?_
    obtain⟨rfl,_⟩:=e
    cases d<;>first|exact kg (.int _ _)|exact kr
   |_=>cases r<;>first|exact kg (.int _ _)|exact kr
variable {v v':Value}
theorem zF(h:VR ρ v v'):SR P (fun _ a b=>a=b∧∀ad,v=.slice (some ad) 0 0→a=0) ρ (Builtin.lenOf v) (Builtin.lenOf v'):=by
 unfold Builtin.lenOf
 cases h<;>first|exact kr|exact kg ⟨rfl,fun ad e=>by cases e<;>rfl⟩
theorem zG(size n:Nat)(h:VR ρ v v')(r:∀ad,v=.slice (some ad) 0 0→n=0):SR P (fun ρ a b=>ki ρ a b∧(n=0→a=#[]∧b=#[])) ρ (Builtin.firstCells size n v) (Builtin.firstCells size n v'):=by
 by_cases j:n=0
 ·subst j
  cases h with
  |mI l c=>exact kg ⟨ki.nil _,fun _=>⟨rfl,rfl⟩⟩
  | @slice a a' l c m =>
   have e:∀b:Addr,Builtin.firstCells size 0 (.slice (some b) l c)=Pure.pure #[]:=fun b=>by
    show loadCells b (0*size)=_;rw[ez];rfl
   rw[e,e];exact kg ⟨ki.nil _,fun _=>⟨rfl,rfl⟩⟩
  | @nD a a' z k =>
   have e:∀b:Addr,Builtin.firstCells size 0 (.slice (some b) 0 0)=Pure.pure #[]:=fun b=>by
    show loadCells b (0*size)=_;rw[ez];rfl
   rw[e,e];exact kg ⟨ki.nil _,fun _=>⟨rfl,rfl⟩⟩
  |string s =>
   refine kg ⟨ki.ints (fun b=>.int .u8 b.toNat) (fun b=>.int _ _) _,fun _=>?_⟩;have:(s.extract 0 0).data=#[]:=by simp
   rw[this];simp
  |_=>exact kr
 ·unfold Builtin.firstCells
  cases h with
  |mI l c=>exact kg ⟨ki.nil _,fun e=>absurd e j⟩
  |slice l c m=>exact(zp _ m).mono fun _ _ _ _ h=>⟨h,fun e=>absurd e j⟩
  |nD z k=>exact absurd (r _ rfl) j
  |string s=>exact kg ⟨ki.ints (fun b=>.int .u8 b.toNat) (fun b=>.int _ _) _,fun e=>absurd e j⟩
  |_=>exact kr
theorem Ii(ts:Array TypeId)(t:TypeId)(h:ki ρ xs ys):SR P VR ρ (Builtin.copy_ ts t xs) (Builtin.copy_ ts t ys):=by
 unfold Builtin.copy_;have G:=h.opt 0;have m:=h.opt 1;generalize xs[0]?=x,ys[0]?=y at G;generalize xs[1]?=u,ys[1]?=v at m
 cases ts[0]? with
 |none=>exact kr
 |some t =>
  cases G with
  |none=>exact kr
  |some hd =>
   cases m with
   |none=>exact kr
   | @some src j H =>
    refine SR.bind (mi t) fun r d d' z e=>?_
    obtain⟨rfl,_⟩:=e
    cases d with
    |slice elem =>
     have fin:∀(b b':Option Addr)(dl:Nat),(b=none∧b'=none∨(∃a a',b=some a∧b'=some a'∧AR r a a')∨(dl=0∧∃a a',b=some a∧b'=some a'))→SR P VR r
       (do
        let n:=Nat.min (←Builtin.lenOf src) dl
        let cells ←Builtin.firstCells (←sizeOf elem) n src
        if let some a:=b then storeCells a cells.toList
        pure (goInt n))
       (do
        let n:=Nat.min (←Builtin.lenOf j) dl
        let cells ←Builtin.firstCells (←sizeOf elem) n j
        if let some a:=b' then storeCells a cells.toList
        pure (goInt n)):=by
      intro b b' dl hb;refine SR.bind (zF (H.mono z)) fun M n n' I e=>?_
      obtain⟨rfl,N⟩:=e;refine SR.bind (qy elem) fun O s s' J e=>?_
      obtain⟨rfl,_⟩:=e
      (try dsimp only);refine SR.bind (zG _ _ (((H.mono z).mono I).mono J) fun ad e=>by rw[N ad e];exact Nat.zero_min _) fun R c c' U A=>?_
      obtain⟨A,C⟩:=A;rcases hb with⟨rfl,rfl⟩|⟨a,a',rfl,rfl,E⟩|⟨rfl,a,a',rfl,rfl⟩
      ·exact kg (.int _ _)
      rotate_left
      ·obtain⟨rfl,rfl⟩:=C (Nat.min_zero _);exact kg (.int _ _)
      ·exact SR.bind (xZ 0 (((E.mono I).mono J).mono U) A.list) fun _ _ _ _ _=>kg (.int _ _)
     have F:=hd.mono z
     cases F with
     |mI l c=>exact fin none none l (.inl ⟨rfl,rfl⟩)
     |slice l c E=>exact fin (some _) (some _) l (.inr (.inl ⟨_,_,rfl,rfl,E⟩))
     |nD _ _=>exact fin (some _) (some _) 0 (.inr (.inr ⟨rfl,_,_,rfl,rfl⟩))
     |_=>exact kr
    |_=>exact kr
variable {u u':Value}
theorem Ij(h:VR ρ v v')(k:VR ρ u u'):SR P VR ρ (Builtin.min2 v u) (Builtin.min2 v' u'):=by
 unfold Builtin.min2
 cases h with
 |int=>cases k<;>first|exact kg (.int _ _)|exact kr|exact kP
 |string a =>
  cases k with
  |string b =>
   refine SR.bind (zA .leq a b) fun j x r z hx=>?_
   exact SR.bind (zq hx) fun m c c' _ e=>by subst e;exact kg (.string _)
  |_=>first|exact kr|exact kP
 |_=>cases k<;>first|exact kr|exact kP
theorem Ik(h:VR ρ v v')(k:VR ρ u u'):SR P VR ρ (Builtin.max2 v u) (Builtin.max2 v' u'):=by
 unfold Builtin.max2
 cases h with
 |int=>cases k<;>first|exact kg (.int _ _)|exact kr|exact kP
 |string a =>
  cases k with
  |string b =>
   refine SR.bind (zA .geq a b) fun j x r z hx=>?_
   exact SR.bind (zq hx) fun m c c' _ e=>by subst e;exact kg (.string _)
  |_=>first|exact kr|exact kP
 |_=>cases k<;>first|exact kr|exact kP
theorem zH(f:Value→Value→Sem Value)(m:∀{ρ:j7}{v v' u u':Value},VR ρ v v'→VR ρ u u'→SR P VR ρ (f v u) (f v' u')):∀{l l':List Value}{ρ:j7}{v v':Value},oR ρ l l'→VR ρ v v'→SR P VR ρ (l.foldlM f v) (l'.foldlM f v')
 |[],_,_,_,_,h,e=>by cases h;exact kg e
 |x::l,_,_,_,_,h,e=>by
  cases h with
  |cons r z =>
   simp only[List.foldlM_cons];exact SR.bind (m e r) fun A a b C j=>zH f m (oR.mono z C) j
theorem Il(ts:Array TypeId)(t:TypeId)(h:ki ρ xs ys):SR P VR ρ (Builtin.min_ ts t xs) (Builtin.min_ ts t ys):=by
 unfold Builtin.min_;have e:=h.list;generalize xs.toList=l,ys.toList=l' at e
 cases e with
 |nil=>exact kr
 |cons j m=>exact zH _ Ij m j
theorem Im(ts:Array TypeId)(t:TypeId)(h:ki ρ xs ys):SR P VR ρ (Builtin.max_ ts t xs) (Builtin.max_ ts t ys):=by
 unfold Builtin.max_;have e:=h.list;generalize xs.toList=l,ys.toList=l' at e
 cases e with
 |nil=>exact kr
 |cons j m=>exact zH _ Ik m j
theorem ki.nN{z e:Array Value}(h:ki ρ z e)(n:Nat):ki ρ (Builtin.zeroCells z n) (Builtin.zeroCells e n):=by
 unfold Builtin.zeroCells;rw[←h.size];have:=h.zt (n*z.size) zu;rw[←h.size]at this;exact this
theorem Io{α β:Type}{R:j7→α→β→Prop}(size h n:Nat)(base:Option Addr)(x:Value)(k:Bool→Sem α)(y:Sem β)(e:∀b,SR P R ρ (k b) y):SR P R ρ (Builtin.mayShare size h n base x >>= k) y:=by
 have holds:∀(a:Addr)(c:Nat)(k:Bool→Sem α),(∀b,SR P R ρ (k b) y)→SR P R ρ (Builtin.holdsCells a c >>= k) y:=fun a c k e=>by
  unfold Builtin.holdsCells;refine SR.tD fun s=>?_
  cases s<;>exact e _
 have tail:∀b:Bool,SR P R ρ ((if !b then pure true else match x with
   | .slice (some b) _ _=>do pure (!(←Builtin.holdsCells b (n*size)) || base.any (·.block == b.block))
   |_=>pure false:Sem Bool) >>= k) y:=by
  intro b
  cases b with
  |false=>exact e true
  |true =>
   cases x with
   |slice a l c =>
    cases a with
    |none=>exact e false
    |some a =>
     unfold Builtin.holdsCells;refine SR.tD fun s=>?_
     cases s<;>exact e _
   |_=>exact e false
 unfold Builtin.mayShare
 cases base with
 |none=>exact tail true
 |some a =>
  refine SR.tD fun s=>?_
  cases s with
  |none=>exact SR.ur fun f=>tail (false&&!f)
  |some q=>exact SR.ur fun f=>tail _
end
end
section
variable [Scope]
inductive sd (ρ:j7):Option Addr→Option Addr→Prop
 |none:sd ρ none none
 |some {a a':Addr}:AR ρ a a'→sd ρ (some a) (some a')
theorem sd.mono{ρ ρ':j7}{x y:Option Addr}(h:sd ρ x y)(l:ρ.le ρ'):sd ρ' x y:=by
 cases h with
 |none=>exact .none
 |some h=>exact .some (h.mono l)
theorem sd.slice{ρ:j7}{x y:Option Addr}(h:sd ρ x y)(l c:Nat):VR ρ (.slice x l c) (.slice y l c):=by
 cases h with
 |none=>exact .mI l c
 |some h=>exact .slice l c h
section
variable {P:Program} {ρ:j7}
theorem Ip[kD P](ts:Array TypeId)(t:TypeId){xs ys:Array Value}(h:ki ρ xs ys):SR P VR ρ (Builtin.append_ ts t xs) (Builtin.append_ ts t ys):=by
 unfold Builtin.append_;have ho:=h.opt 0;have ae:=h.opt 1;generalize xs[0]?=x0,ys[0]?=y0 at ho;generalize xs[1]?=x1,ys[1]?=y1 at ae
 cases ts[0]? with
 |none=>exact kr
 |some st =>
  cases ho with
  |none=>exact kr
  | @some s s' hs =>
   cases ae with
   |none=>exact kr
   | @some x X hx =>
    refine SR.bind (mi st) fun Y d d' l1 e=>?_
    obtain⟨rfl,_⟩:=e
    cases d with
    |slice elem =>
     have ah:=hs.mono l1;have ai:=hx.mono l1;have main:∀(base C:Option Addr)(m A:Nat),(sd Y base C∨(m=0∧A=0∧VR Y (.slice base 0 0) (.slice C 0 0)∧base.isSome=true∧C.isSome=true))→SR P VR Y
       (do
        let size ←sizeOf elem
        let nN ←match ts[1]? with
         |some H=>do pure ((←underlying H) matches .int _)
         |none=>pure false
        let n ←if nN then do
          let l:=IntKind.i64.wrap (←asInt x)
          if l<0 then runtimePanic (.error "makeslice: len out of range")
          if l*(←typeInfo elem).bytes > 2 ^ 48 then
           let made ←choose (.extern "append.ofMake.carriedOut" 2)
           runtimePanic (.error (if made == 1 then "makeslice: len out of range" else "growslice: len out of range"))
          pure l.toNat
         else Builtin.lenOf x
        let r:Sem (Array Value) :=
         if !nN then Builtin.firstCells size n x
         else if n*size=0 then pure #[]
         else do pure (Builtin.zeroCells (←zeroValue elem).cells n)
        let need:=m+n
        if need≤A then
         let new ←r
         if let some a:=base then storeCells (a.add (m*size)) new.toList
         pure (.slice base need A)
        else
         if(need:Int) > IntKind.i64.max∧(nN∨(←typeInfo elem).bytes=0) then runtimePanic (.error "growslice: len out of range")
         if Builtin.nextslicecap need A*(←typeInfo elem).bytes > 2 ^ 48 then(if nN then runtimePanic (.error "growslice: len out of range") else do
          if !(←Builtin.mayShare size m n base x) then mark .noRoom
          unsupported (.resourceLimit "append: a slice or a string whose bytes no memory bears"))
         let E ←choose (.appendCap need A elem)
         askRoom (E*(←typeInfo elem).bytes)
         let old ←Builtin.firstCells size m (.slice base m A)
         let new ←r
         let rest:=Builtin.zeroCells (←zeroValue elem).cells (E-need)
         pure (.slice (some (←newRow elem (old++new++rest))) need E))
       (do
        let size ←sizeOf elem
        let nN ←match ts[1]? with
         |some H=>do pure ((←underlying H) matches .int _)
         |none=>pure false
        let n ←if nN then do
          let l:=IntKind.i64.wrap (←asInt X)
          if l<0 then runtimePanic (.error "makeslice: len out of range")
          if l*(←typeInfo elem).bytes > 2 ^ 48 then
           let made ←choose (.extern "append.ofMake.carriedOut" 2)
           runtimePanic (.error (if made == 1 then "makeslice: len out of range" else "growslice: len out of range"))
          pure l.toNat
         else Builtin.lenOf X
        let r:Sem (Array Value) :=
         if !nN then Builtin.firstCells size n X
         else if n*size=0 then pure #[]
         else do pure (Builtin.zeroCells (←zeroValue elem).cells n)
        let need:=m+n
        if need≤A then
         let new ←r
         if let some a:=C then storeCells (a.add (m*size)) new.toList
         pure (.slice C need A)
        else
         if(need:Int) > IntKind.i64.max∧(nN∨(←typeInfo elem).bytes=0) then runtimePanic (.error "growslice: len out of range")
         if Builtin.nextslicecap need A*(←typeInfo elem).bytes > 2 ^ 48 then(if nN then runtimePanic (.error "growslice: len out of range") else do
          if !(←Builtin.mayShare size m n C X) then mark .noRoom
          unsupported (.resourceLimit "append: a slice or a string whose bytes no memory bears"))
         let E ←choose (.appendCap need A elem)
         askRoom (E*(←typeInfo elem).bytes)
         let old ←Builtin.firstCells size m (.slice C m A)
         let new ←r
         let rest:=Builtin.zeroCells (←zeroValue elem).cells (E-need)
         pure (.slice (some (←newRow elem (old++new++rest))) need E)):=by
      intro base C m A hb;refine SR.bind (qy elem) fun Z size aj l2 e=>?_
      obtain⟨rfl,_⟩:=e;have ak:sd Z base C∨(m=0∧A=0∧VR Z (.slice base 0 0) (.slice C 0 0)∧base.isSome=true∧C.isSome=true):=hb.imp (·.mono l2) fun h=>⟨h.1,h.2.1,h.2.2.1.mono l2,h.2.2.2⟩
      have N:=ai.mono l2;have behind:∀(F:j7)(nN:Bool)(n:Nat),Z.le F→(nN=false→∀ad,x=.slice (some ad) 0 0→n=0)→SR P VR F
        (do
         let r:Sem (Array Value) :=
          if !nN then Builtin.firstCells size n x
          else if n*size=0 then pure #[]
          else do pure (Builtin.zeroCells (←zeroValue elem).cells n)
         let need:=m+n
         if need≤A then
          let new ←r
          if let some a:=base then storeCells (a.add (m*size)) new.toList
          pure (.slice base need A)
         else
          if(need:Int) > IntKind.i64.max∧(nN∨(←typeInfo elem).bytes=0) then runtimePanic (.error "growslice: len out of range")
          if Builtin.nextslicecap need A*(←typeInfo elem).bytes > 2 ^ 48 then(if nN then runtimePanic (.error "growslice: len out of range") else do
           if !(←Builtin.mayShare size m n base x) then mark .noRoom
           unsupported (.resourceLimit "append: a slice or a string whose bytes no memory bears"))
          let E ←choose (.appendCap need A elem)
          askRoom (E*(←typeInfo elem).bytes)
          let old ←Builtin.firstCells size m (.slice base m A)
          let new ←r
          let rest:=Builtin.zeroCells (←zeroValue elem).cells (E-need)
          pure (.slice (some (←newRow elem (old++new++rest))) need E))
        (do
         let r:Sem (Array Value) :=
          if !nN then Builtin.firstCells size n X
          else if n*size=0 then pure #[]
          else do pure (Builtin.zeroCells (←zeroValue elem).cells n)
         let need:=m+n
         if need≤A then
          let new ←r
          if let some a:=C then storeCells (a.add (m*size)) new.toList
          pure (.slice C need A)
         else
          if(need:Int) > IntKind.i64.max∧(nN∨(←typeInfo elem).bytes=0) then runtimePanic (.error "growslice: len out of range")
          if Builtin.nextslicecap need A*(←typeInfo elem).bytes > 2 ^ 48 then(if nN then runtimePanic (.error "growslice: len out of range") else do
           if !(←Builtin.mayShare size m n C X) then mark .noRoom
           unsupported (.resourceLimit "append: a slice or a string whose bytes no memory bears"))
          let E ←choose (.appendCap need A elem)
          askRoom (E*(←typeInfo elem).bytes)
          let old ←Builtin.firstCells size m (.slice C m A)
          let new ←r
          let rest:=Builtin.zeroCells (←zeroValue elem).cells (E-need)
          pure (.slice (some (←newRow elem (old++new++rest))) need E)):=by
       intro F nN n I al;have J:sd F base C∨(m=0∧A=0∧VR F (.slice base 0 0) (.slice C 0 0)∧base.isSome=true∧C.isSome=true):=ak.imp (·.mono I) fun h=>⟨h.1,h.2.1,h.2.2.1.mono I,h.2.2.2⟩
       have am:=N.mono I;have app:∀(M:j7),F.le M→SR P (fun ρ a b=>ki ρ a b∧(n=0→a=#[]∧b=#[])) M
         (if !nN then Builtin.firstCells size n x
          else if n*size=0 then pure #[]
          else do pure (Builtin.zeroCells (←zeroValue elem).cells n))
         (if !nN then Builtin.firstCells size n X
          else if n*size=0 then pure #[]
          else do pure (Builtin.zeroCells (←zeroValue elem).cells n)):=fun M O =>
        SR.ite (fun G=>zG _ _ (am.mono O) (al (by simpa using G))) fun _=>SR.ite (fun _=>kg ⟨ki.nil _,fun _=>⟨rfl,rfl⟩⟩) fun h0 =>
         SR.bind (uv elem) fun aa z z' _ G=>by obtain⟨rfl,G⟩:=G;exact kg ⟨(G aa).cells.nN n,fun e=>absurd (by rw[e,ez]) h0⟩
       (try dsimp only);refine SR.ite (fun hle=>?_) fun _=>?_
       ·refine SR.bind (app F (j7.le_refl _)) fun M c c' O hc=>?_
        obtain⟨hc,an⟩:=hc;rcases J with J|⟨rfl,rfl,hv,k1,k2⟩
        rotate_left
        ·obtain rfl:n=0:=by omega
         obtain⟨rfl,rfl⟩:=an rfl;obtain⟨a,rfl⟩:=eA.1 k1;obtain⟨a',rfl⟩:=eA.1 k2;exact kg (hv.mono O)
        have ao:=J.mono O
        cases ao with
        |none=>exact kg (.mI _ _)
        |some ha=>exact SR.bind (xZ 0 (ha.add _) hc.list) fun aa _ _ l5 _=>kg (.slice _ _ (ha.mono l5))
       ·refine SR.bind (rY elem) fun M i i' O e=>?_
        obtain⟨rfl,_⟩:=e
        (try dsimp only);refine SR.ite (fun hc=>?_) (fun hc=>?_)
        ·exact SR.bind (R:=fun _ _ _=>False) (oJ (.error _) trivial) fun _ _ _ _ h=>h.elim
        refine SR.bind (rY elem) fun aa j j' l5 e=>?_
        obtain⟨rfl,_⟩:=e;refine SR.ite (fun _=>?_) fun _=>?_
        ·refine SR.bind (R:=fun _ _ _=>False) (SR.ite (fun _=>oJ (.error _) trivial) fun _=>?_) fun _ _ _ _ h=>h.elim
         refine Io _ _ _ _ _ _ _ fun b=>?_
         cases b with
         |false=>exact SR.vt kP
         |true=>exact kP
        ·refine SR.bind (vw _) fun aA c c' l6 e=>?_
         subst e;refine SR.bind (rY elem) fun aB k k' l7 e=>?_
         obtain⟨rfl,_⟩:=e;refine SR.bind (B2 _) fun ap _ _ l8 _=>?_
         have ab:F.le ap:=j7.le_trans O (j7.le_trans l5 (j7.le_trans l6 (j7.le_trans l7 l8)));refine SR.bind (zG size m (v:=.slice base m A) (v':=.slice C m A) (by
          rcases J with J|⟨e1,e2,hv,_⟩
          ·exact(J.mono ab).slice _ _
          ·rw[e1,e2];exact hv.mono ab) (fun ad e=>by cases e;rfl)) fun aq old aw l9 hold=>?_
         obtain⟨hold,_⟩:=hold;refine SR.bind (app aq (j7.le_trans ab l9)) fun ax new ay ar U=>?_
         obtain⟨U,_⟩:=U;refine SR.bind (uv elem) fun af z z' ag G=>?_
         obtain⟨rfl,G⟩:=G;exact SR.bind (xY elem ((((hold.mono ar).mono ag).append (U.mono ag)).append ((G af).cells.nN _))) fun az a a' _ ha=>kg (.slice _ _ ha)
      (try dsimp only)
      cases ts[1]? with
      |none =>
       refine SR.bind (R:=fun _ a b=>a=b) (kg rfl) fun F z z' I e=>?_
       subst e
       (try dsimp only);refine SR.ite (fun G=>?_) (fun G=>?_)
       ·refine SR.bind (wH (N.mono I)) fun V n n' m4 e=>?_
        subst e
        (try dsimp only);refine SR.ite (fun _=>?_) (fun _=>?_)
        ·exact SR.bind (R:=fun _ _ _=>False) (oJ (.error _) trivial) fun _ _ _ _ h=>h.elim
        refine SR.bind (rY elem) fun au j j' m5 e=>?_
        obtain⟨rfl,_⟩:=e;refine SR.ite (fun _=>?_) (fun _=>?_)
        ·refine SR.bind (vw _) fun W c c' m6 e=>?_
         subst e;exact SR.bind (R:=fun _ _ _=>False) (oJ (.error _) trivial) fun _ _ _ _ h=>h.elim
        exact SR.bind (R:=fun _ a b=>a=b) (kg rfl) fun W a b m6 e=>by subst e;exact behind W z a (j7.le_trans I (j7.le_trans m4 (j7.le_trans m5 m6))) (fun e=>by rw[e]at G;cases G)
       ·refine SR.bind (zF (N.mono I)) fun V n n' m4 e=>?_
        obtain⟨rfl,en⟩:=e;exact behind V z n (j7.le_trans I m4) fun _=>en
      |some xt =>
       refine SR.bind (mi xt) fun F d d' I e=>?_
       obtain⟨rfl,_⟩:=e;refine SR.bind (R:=fun _ a b=>a=b) (kg rfl) fun M z z' O e=>?_
       subst e
       (try dsimp only);refine SR.ite (fun G=>?_) (fun G=>?_)
       ·refine SR.bind (wH (N.mono (j7.le_trans I O))) fun V n n' m4 e=>?_
        subst e
        (try dsimp only);refine SR.ite (fun _=>?_) (fun _=>?_)
        ·exact SR.bind (R:=fun _ _ _=>False) (oJ (.error _) trivial) fun _ _ _ _ h=>h.elim
        refine SR.bind (rY elem) fun au j j' m5 e=>?_
        obtain⟨rfl,_⟩:=e;refine SR.ite (fun _=>?_) (fun _=>?_)
        ·refine SR.bind (vw _) fun W c c' m6 e=>?_
         subst e;exact SR.bind (R:=fun _ _ _=>False) (oJ (.error _) trivial) fun _ _ _ _ h=>h.elim
        exact SR.bind (R:=fun _ a b=>a=b) (kg rfl) fun W a b m6 e=>by subst e;exact behind W z a (j7.le_trans (j7.le_trans I O) (j7.le_trans m4 (j7.le_trans m5 m6))) (fun e=>by rw[e]at G;cases G)
       ·refine SR.bind (zF (N.mono (j7.le_trans I O))) fun V n n' m4 e=>?_
        obtain⟨rfl,en⟩:=e;exact behind V z n (j7.le_trans (j7.le_trans I O) m4) fun _=>en
     cases ah with
     |mI l c=>exact main none none l c (.inl .none)
     |slice l c ha=>exact main (some _) (some _) l c (.inl (.some ha))
     |nD av k=>exact main (some _) (some _) 0 0 (.inr ⟨rfl,rfl,.nD av k,rfl,rfl⟩)
     |_=>exact kr
    |_=>exact kr
end
end
section
variable [Scope]
def x9:Builtin→Bool
 | .len | .cap | .append | .copy | .min | .max | .panic | .recover=>true
 |_=>false
def wK (b:Builtin) (ts:Array TypeId):Bool :=
 match b,ts[0]? with
 | .len,some t | .cap,some t=>!Scope.chans t
 |_,_=>true
inductive DR (ρ:j7):Deferred→Deferred→Prop
 |fn {f:FuncId} {c c' a a':Array Value}:Scope.ok f=true→ki ρ c c'→ki ρ a a'→DR ρ ⟨.fn (.func f) c,a⟩ ⟨.fn (.func f) c',a'⟩
 |nil {a a':Array Value}:ki ρ a a'→DR ρ ⟨.nil,a⟩ ⟨.nil,a'⟩
 |builtin {b:Builtin} {ts:Array TypeId} {t:TypeId} {cs:Array Bool} {a a':Array Value}:x9 b=true∧wK b ts=true→ki ρ a a'→DR ρ ⟨.builtin b ts t cs,a⟩ ⟨.builtin b ts t cs,a'⟩
 |o7 {n:String} {c c' a a':Array Value}:a[0]?=some (.iface 0 .nilFunc)→DR ρ ⟨.fn (.method "") c,a⟩ ⟨.fn (.method n) c',a'⟩
theorem DR.mono{ρ ρ':j7}{d d':Deferred}(h:DR ρ d d')(l:ρ.le ρ'):DR ρ' d d':=by
 cases h with
 |fn e j m=>exact .fn e (j.mono l) (m.mono l)
 |nil h=>exact .nil (h.mono l)
 |builtin e j=>exact .builtin e (j.mono l)
 |o7 h=>exact .o7 h
inductive NR (ρ:j7):Next→Next→Prop
 |value {v v':Value}:VR ρ v v'→NR ρ (.value v) (.value v')
 |skip:NR ρ .skip .skip
 |enter {f:FuncId} {a a':Array Value}:Scope.ok f=true→ki ρ a a'→NR ρ (.enter f a) (.enter f a')
 |defer {d d':Deferred}:DR ρ d d'→NR ρ (.defer d) (.defer d')
 |recover:NR ρ .recover .recover
class Bodies (P:Program):Prop where
 body:∀f,Scope.ok f=true→∃fn,P.funcs[f]?=some fn∧(fn.name == "runtime.NumGoroutine")=false∧fn.body.isNone=false
def zI (c:Call):Bool :=
 (match c.callee with
  | .value f=>lN f
  | .builtin b=>x9 b&&wK b c.argTypes
  | .invoke _ _=>false)&&c.args.all lN
def Cj (P:Program) (t:TypeId):Bool :=
 match P.underlying t with
 |some .unsafePointer=>false
 |_=>true
def oB (P:Program) (o:Oper):Bool :=
 match o.op with
 | .move x | .assign x | .box _ x | .load _ x | .nilCheck x | .unOp _ _ x | .makeInterface _ x | .field _ x _ | .extract x _ | .panic x=>lN x
 | .pick c a b=>lN c&&lN a&&lN b
 | .alloc _=>true
 | .build _ ps | .buildSlice _ _ ps=>ps.all fun p=>lN p.2
 | .store _ a x | .indexAddr _ a x | .index _ a x | .makeSlice _ a x=>lN a&&lN x
 | .binOp op t x y _=>lN x&&lN y&&Cj P t&&(match op with | .eql | .neq=>tH P t x y|_=>true)
 | .convert s d x=>lN x&&zE P s d
 | .makeFunc (.func f) a b=>Scope.ok f&&a.all lN&&b.all lN
 | .slice t x lo hi mx=>lN x&&wI P t&&lo.all lN&&hi.all lN&&mx.all lN
 | .fieldAddr s x f=>lN x&&zw P s f
 | .typeAssert x _ _ ok=>lN x&&ok
 | .call c | .defer c=>zI c
 |_=>false
section
variable {P:Program} {ρ:j7}
theorem ER.map{f g:Operand→Value}(h:ER ρ f g){xs:Array Operand}(hx:xs.all lN=true):ki ρ (xs.map f) (xs.map g):=by
 refine⟨by simp,fun i v v' a b=>?_⟩;rw[dV]at a b
 cases e:xs[i]? with
 |none=>rw[e]at a;cases a
 |some x =>
  rw[e]at a b
  cases a;cases b
  exact h.get (dB.1 hx x (dC e))
variable {f g:Operand→Value}
theorem ER.parts(h:ER ρ f g){ps:Array (Nat×Operand)}(hx:ps.all (fun p=>lN p.2)=true):rZ ρ (ps.map fun(i,x)=>(i,f x)).toList (ps.map fun(i,x)=>(i,g x)).toList:=by
 obtain⟨ps⟩:=ps;simp only[eC];have:∀p∈ps,lN p.2=true:=fun p hp=>dB.1 hx p (by simpa using hp)
 clear hx
 induction ps with
 |nil=>exact .nil
 |cons p ps e =>
  obtain⟨i,x⟩:=p;exact .cons (h.get (this (i,x) (by simp))) (e fun p hp=>this p (by simp[hp]))
theorem ER.opt(h:ER ρ f g){x:Option Operand}(hx:x.all lN=true):o9 ρ (x.map f) (x.map g):=by
 cases x with
 |none=>exact .none
 |some x=>exact .some (h.get (by simpa using hx))
theorem Ck{c:Value}(h:qT c=true):∀r,c≠.chan r:=by
 rintro r rfl
 cases h
theorem Iq{t:TypeId}{x y:Operand}(he:ER ρ f g)(h:tH P t x y=true):uy P t (f x) (f y):=by
 unfold tH at h;simp only[eh,ep]at h;rcases h with(h|h)|h
 ·cases x with
  |const c=>rw[(he.const c).1];exact .inr (.inl (Ck h))
  |_=>simp[r7]at h
 ·cases y with
  |const c=>rw[(he.const c).1];exact .inr (.inr (Ck h))
  |_=>simp[r7]at h
 ·refine .inl fun d e hd=>?_
  have:rv P (11+1) t=true:=h.1;simp only[rv,hd,ep]at this;simp at this
theorem Cl(c:Call)(t:TypeId)(j:zI c=true)(h:ER ρ f g):SR P DR ρ (resolve f c t) (resolve g c t):=by
 unfold zI at j;simp only[ep]at j;have m:=h.map j.2;unfold resolve
 cases e:c.callee with
 |value x =>
  rw[e]at j;have r:=h.get j.1;unfold Deferred.ofValue;simp only;generalize f x=v,g x=v' at r ⊢
  cases r with
  | @func q xs n9 ys oa z A C E F=>exact kg (.fn z ⟨E,F⟩ ((ki.mk A C).append m))
  |nilFunc=>exact kg (.nil m)
  | @o7 n xs ys G=>exact kg (DR.o7 (a:=#[.iface 0 .nilFunc]++c.args.map f) (a':=xs++c.args.map g) (c:=#[]) (c':=ys) (by simp[du]))
  |_=>exact kr
 |builtin b =>
  rw[e]at j;exact kg (.builtin (by simpa using j.1) m)
 |invoke x n=>rw[e]at j;simp at j
theorem Ir[kD P](b:Builtin)(ts:Array TypeId)(t:TypeId)(cs:Array Bool)(hb:x9 b=true∧wK b ts=true){a a':Array Value}(h:ki ρ a a'):SR P NR ρ (builtin b ts t cs a) (builtin b ts t cs a'):=by
 have val:∀{x y:Sem Value},SR P VR ρ x y→SR P NR ρ (do pure (.value (←x))) (do pure (.value (←y))):=fun h=>SR.bind h fun _ _ _ _ j=>kg (.value j)
 unfold builtin
 cases b<;>first
  |exact val (Ig _ _ (fun t e=>by have:=hb.2;unfold wK at this;rw[e]at this;simpa using this) h)
  |exact val (Ih _ _ (fun t e=>by have:=hb.2;unfold wK at this;rw[e]at this;simpa using this) h)
  |exact val (Ip _ _ h)
  |exact val (Ii _ _ h)
  |exact val (Il _ _ h)
  |exact val (Im _ _ h)
  |exact val (Ch (h.getD 0 .nilIface))
  |exact kg .recover
  |simp[x9]at hb
variable {α β:Type}
theorem Is[kD P]{R:j7→α→β→Prop}(fuel:Nat)(v:Value)(k:FuncId×Value→Sem α)(y:Sem β):SR P R ρ (Go.method fuel 0 v "" >>= k) y:=by
 cases fuel with
 |zero=>exact kP
 |succ fuel =>
  unfold Go.method;unfold typeInfo;refine SR.qx ?_;show SR P R ρ (Sem.bind (Sem.bind (match P.info? 0 with|some i=>Pure.pure i|none=>stuck "no such type") _) k) y
  cases h:P.info? 0 with
  |none=>exact kr
  |some i =>
   have:=kD.B1 (P:=P) i h;show SR P R ρ (Sem.bind (match i.methods.find? (·.name == "")with|some m=>_|_=>_) k) y;rw[this];exact kr
theorem It[kD P]{R:j7→α→β→Prop}(fuel:Nat)(v:Value)(k:Option Bool→Sem α)(y:Sem β):SR P R ρ (Go.nilAhead (fuel+1) 0 v "" >>= k) y:=by
 unfold Go.nilAhead;unfold typeInfo;refine SR.qx ?_;show SR P R ρ (Sem.bind (Sem.bind (match P.info? 0 with|some i=>Pure.pure i|none=>stuck "no such type") _) k) y
 cases h:P.info? 0 with
 |none=>exact kr
 |some i =>
  have:=kD.B1 (P:=P) i h;show SR P R ρ (Sem.bind (match i.methods.find? (·.name == "")with|some m=>_|_=>_) k) y;rw[this];exact kr
theorem Cm[kD P][Bodies P]{d d':Deferred}(h:DR ρ d d'):SR P NR ρ (invoke d.target d.args) (invoke d'.target d'.args):=by
 cases h with
 | @fn f c c' a a' e j m =>
  show SR P NR ρ (callFunc f (a++c)) (callFunc f (a'++c'));obtain⟨fn,r,z,A⟩:=Bodies.body (P:=P) f e;unfold callFunc;refine vv ?_;simp only[r,z,A,dL,dp];exact kg (.enter e (m.append j))
 |nil h=>exact oJ .nilDeref trivial
 |builtin hb h=>exact Ir _ _ _ _ hb h
 | @o7 n c c' a a' C =>
  show SR P NR ρ (match a[0]? with|some recv=>callMethod recv "" (a.extract 1 a.size)|_=>stuck "call: a method without a receiver") _;rw[C];show SR P NR ρ (callMethod (.iface 0 .nilFunc) "" (a.extract 1 a.size)) _;unfold callMethod;refine SR.qx ?_;exact Is _ _ _ _
theorem Cn[kD P][Bodies P](o:Oper)(j:oB P o=true)(h:ER ρ f g):SR P NR ρ (execOp f o) (execOp g o):=by
 have val:∀{x y:Sem Value},SR P VR ρ x y→SR P NR ρ (do pure (.value (←x))) (do pure (.value (←y))):=fun h=>SR.bind h fun _ _ _ _ r=>kg (.value r)
 have E:∀{x y:Sem Unit},SR P (fun _ _ _=>True) ρ x y→SR P NR ρ (do x;pure .skip) (do y;pure .skip):=fun h=>SR.bind h fun _ _ _ _ r=>kg .skip
 unfold oB at j;unfold execOp
 (try dsimp only)
 cases m:o.op with
 |move x=>rw[m]at j;exact kg (.value (h.get j))
 |assign x=>rw[m]at j;exact kg (.value (h.get j))
 |pick c a b =>
  rw[m]at j;simp only[ep]at j;refine SR.bind (zq (h.get j.1.1)) fun z x y A e=>?_
  subst e
  cases x with
  |true=>exact kg (.value ((h.mono A).get j.1.2))
  |false=>exact kg (.value ((h.mono A).get j.2))
 |alloc e=>exact val (GL e)
 |box e x=>rw[m]at j;exact val (GM e (h.get j))
 |build t ps=>rw[m]at j;exact val (GS t (h.parts j))
 |buildSlice t n ps=>rw[m]at j;exact val (GU t n (h.parts j))
 |load t a=>rw[m]at j;exact val (GN t (h.get j))
 |store t a x=>rw[m]at j;simp only[ep]at j;exact E (GO t (h.get j.1) (h.get j.2))
 |nilCheck x =>
  rw[m]at j;have r:=h.get j;simp only;generalize f x=v,g x=v' at r ⊢;have F:=r
  cases r with
  |o4=>exact oJ .nilDeref trivial
  |nilIface=>exact oJ .nilDeref trivial
  |nilFunc=>exact oJ .nilDeref trivial
  |ptr I=>exact kg (.value (.ptr I))
  | @o7 n xs ys H =>
   show SR P NR ρ (program >>= fun p=>Go.nilAhead (p.types.size+Made.depth) 0 .nilFunc "" >>= _) _;refine SR.qx ?_;exact It (P.types.size+99) _ _ _
  |hole H C =>
   have r:VR ρ (.chan (some 1)) v':=.hole H C
   cases v' with
   |pointer a=>cases a with
    |none=>simp[nC]at C
    |some a=>exact kg (.value r)
   |func f a b=>cases f<;>first|exact kg (.value r)|simp[nC]at C
   |_=>first|exact kg (.value r)|simp[nC]at C
  |_=>exact kg (.value F)
 |binOp op t x y M =>
  rw[m]at j;simp only[ep]at j;have J:∀d,P.underlying t=some d→d≠.unsafePointer:=fun d hd e=>by
   have:=j.1.2;unfold Cj at this;rw[hd,e]at this
   cases this
  have heq:(op=.eql∨op=.neq)→tH P t x y=true:=by
   intro m;have:=j.2;rcases m with rfl|rfl<;>exact this
  refine val (SR.bind (Ht op t x y heq h j.1.1.1 j.1.1.2) fun z _ _ A _=>?_);exact H6 op t J ((h.mono A).get j.1.1.1) ((h.mono A).get j.1.1.2) (fun G=>Hq t x y (heq G) (h.mono A) j.1.1.1 j.1.1.2) fun G=>Iq h (heq G)
 |unOp op t x=>rw[m]at j;exact val (H7 op (h.get j))
 |convert s d x=>rw[m]at j;simp only[ep]at j;exact val (Ie s d j.2 (h.get j.1))
 |makeInterface t x=>rw[m]at j;exact val (G3 t (h.get j))
 |makeFunc fn a b =>
  rw[m]at j
  cases fn with
  |func q =>
   simp only[ep]at j;exact val (kg (ki.func j.1.1 (h.map j.1.2) (h.map j.2)))
  |_=>simp at j
 |makeSlice t l c=>rw[m]at j;simp only[ep]at j;exact val (G2 t (h.get j.1) (h.get j.2))
 |slice t x lo N O =>
  rw[m]at j;simp only[ep]at j;exact val (GZ t j.1.1.1.2 (h.get j.1.1.1.1) (h.opt j.1.1.2) (h.opt j.1.2) (h.opt j.2))
 |fieldAddr s x q=>rw[m]at j;simp only[ep]at j;exact val (GV s q j.2 (h.get j.1))
 |field t x q=>rw[m]at j;exact val (G0 t (h.get j) q)
 |indexAddr t x i=>rw[m]at j;simp only[ep]at j;exact val (GW t (h.get j.1) (h.get j.2))
 |index t x i=>rw[m]at j;simp only[ep]at j;exact val (G1 t (h.get j.1) (h.get j.2))
 |typeAssert x t a ok =>
  rw[m]at j;simp only[ep]at j;rw[j.2];exact val (G6 t a (h.get j.1))
 |extract x i=>rw[m]at j;exact val (G4 (h.get j) i)
 |call c =>
  rw[m]at j;exact SR.bind (Cl c _ j h) fun z d d' _ hd=>Cm hd
 |defer c =>
  rw[m]at j;exact SR.bind (Cl c _ j h) fun z d d' _ hd=>kg (.defer hd)
 |panic x=>rw[m]at j;exact val (Ch (h.get j))
 |_=>rw[m]at j;simp at j
end
end
section
variable [Scope]
def p6 (P:Program):Code→Bool
 | .skip | .exit _ | .ret | .label _ | .refuse _=>true
 | .region _ ops _=>ops.all (oB P)
 | .seq a b=>p6 P a&&p6 P b
 | .cond c a b=>lN c&&p6 P a&&p6 P b
 | .block _ b | .loop b | .scope b=>p6 P b
 | .goto _ | .rangeFunc ..=>false
def nO (P:Program):Item→Bool
 | .code c=>p6 P c
 | .inBlock _=>true
 | .inLoop b | .inScope b=>p6 P b
 | .inRegion ops _=>ops.all (oB P)
 |_=>false
class lV (P:Program):Prop extends Bodies P where
 code:∀f fn c,Scope.ok f=true→P.funcs[f]?=some fn→fn.body=some c→p6 P c=true
inductive p7 (ρ:j7):List PanicEntry→List PanicEntry→Prop
 |nil:p7 ρ [] []
 |cons {v v':Value} {r g:Bool} {xs ys:List PanicEntry}:VR ρ v v'→p7 ρ xs ys→p7 ρ (⟨v,r,g⟩::xs) (⟨v',r,g⟩::ys)
theorem p7.mono{ρ ρ':j7}{x y:List PanicEntry}(h:p7 ρ x y)(l:ρ.le ρ'):p7 ρ' x y:=by
 induction h with
 |nil=>exact .nil
 |cons h _ e=>exact .cons (h.mono l) e
variable {ρ:j7}
theorem p7.append{x y e j:List PanicEntry}(h:p7 ρ x y)(k:p7 ρ e j):p7 ρ (x++e) (y++j):=by
 induction h with
 |nil=>exact k
 |cons h _ m=>exact .cons h m
inductive MR (ρ:j7):FrameMode→FrameMode→Prop
 |run:MR ρ .run .run
 |returning:MR ρ .returning .returning
 |panicking {x y:List PanicEntry}:p7 ρ x y→MR ρ (.panicking x) (.panicking y)
theorem MR.mono{ρ ρ':j7}{x y:FrameMode}(h:MR ρ x y)(l:ρ.le ρ'):MR ρ' x y:=by
 cases h with
 |run=>exact .run
 |returning=>exact .returning
 |panicking h=>exact .panicking (h.mono l)
inductive tI (ρ:j7):List Deferred→List Deferred→Prop
 |nil:tI ρ [] []
 |cons {x y:Deferred} {xs ys:List Deferred}:DR ρ x y→tI ρ xs ys→tI ρ (x::xs) (y::ys)
theorem tI.mono{ρ ρ':j7}{x y:List Deferred}(h:tI ρ x y)(l:ρ.le ρ'):tI ρ' x y:=by
 induction h with
 |nil=>exact .nil
 |cons h _ e=>exact .cons (h.mono l) e
structure nV (P:Program) (ρ:j7) (a b:Frame):Prop where
 fn:b.fn=a.fn
 ok:Scope.ok a.fn=true
 tmps:ki ρ a.tmps b.tmps
 todo:b.todo=a.todo
 items:a.todo.all (nO P)=true
 defers:tI ρ a.defers b.defers
 mode:MR ρ a.mode b.mode
 kind:b.kind=a.kind
 kinds:a.kind=.normal∨a.kind=.deferred
 round:a.roundOf=none∧b.roundOf=none
theorem nV.mono{P:Program}{ρ ρ':j7}{a b:Frame}(h:nV P ρ a b)(l:ρ.le ρ'):nV P ρ' a b :=
 ⟨h.fn,h.ok,h.tmps.mono l,h.todo,h.items,h.defers.mono l,h.mode.mono l,h.kind,h.kinds,h.round⟩
inductive uA (P:Program) (ρ:j7):List Frame→List Frame→Prop
 |nil:uA P ρ [] []
 |cons {x y:Frame} {xs ys:List Frame}:nV P ρ x y→uA P ρ xs ys→uA P ρ (x::xs) (y::ys)
theorem uA.mono{P:Program}{ρ ρ':j7}{x y:List Frame}(h:uA P ρ x y)(l:ρ.le ρ'):uA P ρ' x y:=by
 induction h with
 |nil=>exact .nil
 |cons h _ e=>exact .cons (h.mono l) e
def Own (P:Program) (ρ:j7) (ds cs:List Frame) (fr:Frame) (xs ys:List Frame):Prop :=
 ∃us vs,xs=us++ds∧ys=vs++cs∧uA P ρ us vs∧((us.getLast?).getD fr).kind=.normal
structure GR (P:Program) (ρ:j7) (ds cs:List Frame) (g g':Goroutine):Prop where
 frame:nV P ρ g.frame g'.frame
 callers:Own P ρ ds cs g.frame g.callers g'.callers
 status:g.status=.running∧g'.status=.running
 dying:g.dying=none∧g'.dying=none
 offers:g.offers=none
theorem qA:VR ρ undef undef:=(ki.nil ρ).tuple
variable {P:Program} {a b:Frame}
theorem nV.eval(h:nV P ρ a b):ER ρ a.eval b.eval :=
 ⟨fun t=>h.tmps.getD t qA,fun c=>⟨rfl,rfl⟩,fun i=>⟨rfl,rfl⟩⟩
theorem nV.finish{P:Program}{ρ:j7}{a b:Frame}(h:nV P ρ a b){v v':Value}(j:VR ρ v v'):nV P ρ (a.finish v) (b.finish v'):=by
 have m:=h.todo;have e:=h.items;unfold Frame.finish;rw[m]
 cases r:a.todo with
 |nil=>simp only;exact h
 |cons x k =>
  rw[r]at e;simp only[eD,ep]at e
  cases x with
  |inRegion ops l =>
   cases l with
   |nil=>exact h
   |cons i rest =>
    refine⟨h.fn,h.ok,?_,rfl,?_,h.defers,h.mode,h.kind,h.kinds,h.round⟩
    ·simp only
     cases(ops[i]?).bind (·.dst)with
     |none=>exact h.tmps
     |some d=>exact h.tmps.set d j
    ·simp only[eD,ep];exact⟨e.1,e.2⟩
  |inRangeFunc=>simp[nO]at e
  |beginRound=>simp[nO]at e
  |call=>simp[nO]at e
  |extern=>simp[nO]at e
  |_=>exact h
theorem nV.raise{P:Program}{ρ:j7}{a b:Frame}(h:nV P ρ a b){x y:List PanicEntry}(e:p7 ρ x y):nV P ρ (a.raise x) (b.raise y):=by
 have hm:=h.mode;unfold Frame.raise;generalize m:a.mode=r at hm;generalize hB:b.mode=z at hm
 cases hm with
 |run=>exact⟨h.fn,h.ok,h.tmps,h.todo,h.items,h.defers,.panicking e,h.kind,h.kinds,h.round⟩
 |returning=>exact⟨h.fn,h.ok,h.tmps,h.todo,h.items,h.defers,.panicking e,h.kind,h.kinds,h.round⟩
 |panicking j=>exact⟨h.fn,h.ok,h.tmps,h.todo,h.items,h.defers,.panicking (e.append j),h.kind,h.kinds,h.round⟩
theorem nV.to(h:nV P ρ a b){k:List Item}(e:k.all (nO P)=true):nV P ρ { a with todo:=k } { b with todo:=k } :=
 ⟨h.fn,h.ok,h.tmps,rfl,e,h.defers,h.mode,h.kind,h.kinds,h.round⟩
theorem zJ[lV P]{f:FuncId}(e:Scope.ok f=true){a a':Array Value}(h:ki ρ a a'){k:CallKind}(r:k=.normal∨k=.deferred):nV P ρ (Frame.enter P f a k) (Frame.enter P f a' k):=by
 obtain⟨fn,j,A,m⟩:=Bodies.body (P:=P) f e
 cases hb:fn.body with
 |none=>rw[hb]at m;cases m
 |some c =>
  have z:=lV.code (P:=P) f fn c e j hb;refine⟨rfl,e,?_,rfl,?_,.nil,.run,rfl,r,rfl,rfl⟩
  ·unfold Frame.enter;simp only[j,←h.size];exact h.append (ki.replicate _ qA)
  ·unfold Frame.enter;simp only[j,ed,hb,eE,eD,List.all_nil,Bool.and_true];exact z
def nW:GStep→World
 | .go _ w _ | .comm _ _ _ _ w _ | .spawn _ _ w _ | .count _ w _ | .timer _ _ w _ | .alone _ _ w _ | .newcoro _ _ _ w _ | .coroswitch _ _ _ w _ | .collect _ w _ | .watch _ w _ | .ended _ w _=>w
theorem wL(es:Array Event)(s:GStep):nW (s.after es)=nW s:=by cases s<;>rfl
def Plain (s:GStep):Prop:=(∃o w es,s=.ended o w es)∨∃h w es,s=.go h w es∧h.status=.running∧h.dying=none∧h.offers=none
theorem Plain.after{s:GStep}(h:Plain s)(l:Array Event):Plain (s.after l):=by
 rcases h with⟨o,w,es,rfl⟩|⟨g,w,es,rfl,e,j,m⟩
 ·exact .inl ⟨_,_,_,rfl⟩
 ·exact .inr ⟨_,_,_,rfl,e,j,m⟩
structure kG (P:Program) (ρ:j7) (L:ru) (ds cs:List Frame) (wB:World) (s s':GStep):Prop where
 plain:L.upto=none→Plain s
 ya:∀h wS es,s=.go h wS es→Fits L (nW s')→∃h' uB lW ρ',s'=.go h' uB lW∧Grow ρ wB ρ'∧GR P ρ' ds cs h h'∧HR ρ' wS uB∧TA L wS uB∧Kept ρ wB uB∧∀e∈lW,nU ρ' e
section
variable {P:Program} {ρ:j7} {L:ru} {ds cs:List Frame} {wS wB:World}
variable {w w':World}
theorem Fits.down(h:Fits L w')(k:w.drawn≤w'.drawn):Fits L w:=fun l e=>dE k (h l e)
variable {es:Array Event} {s':GStep}
theorem kG.ended{o:Outcome}:kG P ρ L ds cs wB (.ended o w es) s':=⟨fun _=>.inl ⟨_,_,_,rfl⟩,fun h wS es e=>by cases e⟩
theorem kG.go {g g':Goroutine} {ρ':j7} {lW:Array Event} (hg:Grow ρ wB ρ') (h:GR P ρ' ds cs g g') (hh:HR ρ' w w') (ht:TA L w w') (hk:Kept ρ wB w') (he:∀ e∈lW,nU ρ' e) :
  kG P ρ L ds cs wB (.go g w es) (.go g' w' lW):=⟨fun _=>.inr ⟨_,_,_,rfl,h.status.1,h.dying.1,h.offers⟩,fun h1 w1 UW e _=>by cases e;exact ⟨_,_,_,ρ',rfl,hg,h,hh,ht,hk,he⟩⟩
theorem kG.yb{s:GStep}{w0:World}(hm:w0.drawn≤(nW s').drawn)(k:Fits L w0→kG P ρ L ds cs wB s s'):kG P ρ L ds cs wB s s' :=
 ⟨fun e=>(k fun l j=>by rw[e]at j;cases j).plain e,fun m w1 h e q=>(k (q.down hm)).ya m w1 h e q⟩
theorem kG.after{s s':GStep}{l l':Array Event}(m:∀e∈l',nU ρ e)(h:kG P ρ L ds cs wB s s'):kG P ρ L ds cs wB (GStep.after l s) (GStep.after l' s'):=by
 refine⟨fun e=>(h.plain e).after l,?_⟩;intro F w1 r e j;rw[wL]at j
 cases s with
 |go g w es =>
  simp only[GStep.after]at e
  cases e
  obtain⟨h',uB,lW,ρ',rfl,r1,r2,z,A,C,E⟩:=h.ya _ _ _ rfl j;refine⟨_,_,_,ρ',rfl,r1,r2,z,A,C,fun e he=>?_⟩;rcases dS.1 he with he|he
  ·exact(m e he).mono r1.le
  ·exact E e he
 |_=>simp[GStep.after]at e
theorem se{fn:FuncId}{e:Event}(h:e∈seen P fn es):e∈es:=by
 dsimp only[seen]at h;rw[←Array.foldl_toList]at h;have key:∀(l:List Event)(x:Bool×Array Event),e∈(l.foldl (fun(x:Bool×Array Event) e=>match e.loc with
   | .mark (.extern f)=>((P.funcs[f]?).any (·.norace),x.2)
   |_=>(x.1,if(x.1&&!e.sync)=true then x.2 else x.2.push e)) x).2→e∈x.2∨e∈l:=by
  intro l
  induction l with
  |nil=>exact fun x hx=>.inl hx
  |cons a l m =>
   intro x hx;simp only[List.foldl_cons]at hx;rcases m _ hx with j|j
   ·split at j
    ·exact .inl j
    ·simp only at j;split at j
     ·exact .inl j
     ·rcases Array.mem_push.1 j with r|rfl
      ·exact .inl r
      ·exact .inr (by simp)
   ·exact .inr (by simp[j])
 rcases key es.toList _ h with j|j
 ·simp at j
 ·exact Array.mem_toList_iff.1 j
end
end
section
variable [Scope]
section
variable {P:Program} {ρ:j7} {L:ru} {ds cs:List Frame} {wS wB:World}
structure CR (P:Program) (ρ:j7) (ds cs:List Frame) (fr:Frame) (xs:List Frame) (j8:Frame) (ys:List Frame):Prop where
 frame:nV P ρ fr j8
 callers:Own P ρ ds cs fr xs ys
theorem CR.mono{ρ':j7}{fr j8:Frame}{xs ys:List Frame}(h:CR P ρ ds cs fr xs j8 ys)(l:ρ.le ρ'):CR P ρ' ds cs fr xs j8 ys:=by
 obtain⟨us,vs,e,j,k,b⟩:=h.callers;exact⟨h.frame.mono l,us,vs,e,j,k.mono l,b⟩
variable {fr j8:Frame} {xs ys:List Frame}
theorem CR.gr(h:CR P ρ ds cs fr xs j8 ys):GR P ρ ds cs { frame:=fr,callers:=xs,status:=.running,dying:=none } { frame:=j8,callers:=ys,status:=.running,dying:=none } :=
 ⟨h.frame,h.callers,⟨rfl,rfl⟩,⟨rfl,rfl⟩,rfl⟩
theorem CR.with{fr j8 g g':Frame}{xs ys:List Frame}(h:CR P ρ ds cs fr xs j8 ys)(k:nV P ρ g g')(e:g.kind=fr.kind):CR P ρ ds cs g xs g' ys:=by
 obtain⟨us,vs,j,m,q,b⟩:=h.callers;refine⟨k,us,vs,j,m,q,?_⟩
 cases hx:us.getLast? with
 |none=>rw[hx]at b;simpa[e]using b
 |some x=>rw[hx]at b;simpa using b
theorem CR.push{g g':Frame}(h:CR P ρ ds cs fr xs j8 ys)(k:nV P ρ g g'):CR P ρ ds cs g (fr::xs) g' (j8::ys):=by
 obtain⟨us,vs,rfl,rfl,q,b⟩:=h.callers;refine⟨k,fr::us,j8::vs,rfl,rfl,.cons h.frame q,?_⟩;rw[List.getLast?_cons];simpa using b
theorem CR.pop(h:CR P ρ ds cs fr xs j8 ys)(hx:xs≠ds):∃c r c' e,xs=c::r∧ys=c'::e∧CR P ρ ds cs c r c' e:=by
 obtain⟨us,vs,rfl,rfl,q,b⟩:=h.callers
 cases q with
 |nil=>exact absurd rfl hx
 | @cons c c' j m z A =>
  refine⟨c,j++ds,c',m++cs,rfl,rfl,z,j,m,rfl,rfl,A,?_⟩;rw[List.getLast?_cons]at b;simpa using b
theorem Co(h:CR P ρ ds cs fr xs j8 ys):(tryRecover fr xs=none∧tryRecover j8 ys=none)∨∃v v' n9 oa,tryRecover fr xs=some (v,n9)∧tryRecover j8 ys=some (v',oa)∧VR ρ v v'∧CR P ρ ds cs fr n9 j8 oa:=by
 have F:=h.frame.kind;rcases h.frame.kinds with z|z
 ·refine .inl ⟨?_,?_⟩
  ·unfold tryRecover;rw[z]
  ·unfold tryRecover;rw[F,z]
 ·have hx:xs≠ds:=by
   obtain⟨us,vs,rfl,_,q,b⟩:=h.callers
   cases q with
   |nil=>simp at b;rw[z]at b;cases b
   | @cons c _ H _ _ _=>intro e;have:=dI List.length e;simp at this;omega
  obtain⟨c,xs,c',I,rfl,rfl,j⟩:=h.pop hx;have hm:=j.frame.mode;unfold tryRecover;rw[F,z];simp only;generalize J:c.mode=M at hm;generalize hB:c'.mode=N at hm;have mk:∀(m A:FrameMode),MR ρ m A→CR P ρ ds cs fr ({ c with mode:=m }::xs) j8 ({ c' with mode:=A }::I):=fun m A C =>
   CR.push (j.with (g:={ c with mode:=m }) (g':={ c' with mode:=A }) ⟨j.frame.fn,j.frame.ok,j.frame.tmps,j.frame.todo,j.frame.items,j.frame.defers,C,j.frame.kind,j.frame.kinds,j.frame.round⟩ rfl) h.frame
  cases hm with
  |run=>exact .inl ⟨rfl,rfl⟩
  |returning=>exact .inl ⟨rfl,rfl⟩
  |panicking he =>
   cases he with
   |nil=>exact .inl ⟨rfl,rfl⟩
   | @cons v v' r g es lW G E =>
    cases r with
    |true=>exact .inl ⟨rfl,rfl⟩
    |false =>
     cases g with
     |true=>exact .inl ⟨rfl,rfl⟩
     |false=>exact .inr ⟨v,v',_,_,rfl,rfl,G,mk _ _ (.panicking (.cons G E))⟩
theorem Cp(w:World)(q:Question)(e:q.forced=false):(choose q).run P w=.ok (q.cut (w.tape w.drawn q)) { w with drawn:=w.drawn+1 }:=by
 simp[choose,Sem.run,e]
theorem Iu(e:HR ρ wS wB):HR ρ { wS with drawn:=wS.drawn+1 } { wB with drawn:=wB.drawn+1 }∧Kept ρ wB { wB with drawn:=wB.drawn+1 } :=
 ⟨⟨e.obj,e.inj,e.base,e.os,e.sync⟩,rfl,rfl,rfl,Nat.le_succ _,dD _,fun _ _ _=>rfl,(Kept.refl e).part⟩
theorem vA{α:Type}{x:Sem α}{w:World}{r:Result α}(e:x.run P w=r):w.drawn≤r.world.drawn:=e▸BZ x w
theorem Cq(fr:Frame)(xs:List Frame)(d:Option Dying)(m:String)(w:World):w.drawn≤(nW (endFatal P fr xs d m w)).drawn:=by
 unfold endFatal;dsimp only;split
 ·rename_i e;exact vA e
 ·rename_i e;exact vA e
 ·rename_i e;exact vA e
theorem Iv(fr:Frame)(xs:List Frame)(d:Option Dying)(g:Nat)(w:World):w.drawn≤(nW (early P fr xs d g w)).drawn:=by
 have h:∀w:World,w.drawn≤(nW (match w.heap[g]? with
  |some (.pending c elem)=>GStep.go { frame:=fr,callers:=xs,status:=.running,dying:=d } { w with heap:=w.heap.setIfInBounds g (.cells c elem) }
  |_=>.ended (.stuck "early: the variable does not wait" (fr.pos P)) w)).drawn:=by
  intro w;split<;>exact dD _
 unfold early;dsimp only;split
 ·exact h w
 ·split
  ·exact dD _
  ·split
   ·exact h w
   ·split
    ·exact h w
    ·split
     ·exact dD _
     ·exact dD _
     ·exact dD _
     ·exact h w
     ·split
      ·exact dD _
      ·split
       ·exact h w
       ·split
        ·rename_i e;exact dE (vA e) (h _)
        ·rename_i e;exact vA e
        ·rename_i e;exact vA e
theorem Iw(fr:Frame)(xs:List Frame)(d:Option Dying)(x:Sem Next)(w:World):(x.run P w).world.drawn≤(nW (stepG.apply P true fr xs d x w)).drawn:=by
 unfold stepG.apply;simp only[dn,dT,wL];generalize x.run P w=r
 cases r with
 |ok a w =>
  cases a<;>simp only<;>first
   |exact dD _
   |(split<;>exact dD _)
   |(repeat' split)<;>exact dD _
 |halt h w =>
  cases h with
  |unsupported u=>cases u<;>first|exact Iv _ _ _ _ _|exact dD _
  |fatal m=>exact Cq _ _ _ _ _
  |throw m=>exact dD _
  |_=>exact dD _
theorem Ix{xs ys:Array Value}(h:ki ρ xs ys)(ops:Array Oper):yielded ops xs=yielded ops ys:=by
 funext j;unfold yielded
 cases(ops[j]?).bind (·.dst)with
 |none=>rfl
 |some d =>
  simp only[ed]
  cases e:xs[d]? with
  |none=>rw[h.uq e]
  |some v =>
   obtain⟨v',m,k⟩:=h.at_ e;rw[m]
   cases k<;>first|rfl|(rename_i r;cases v'<;>first|rfl|simp[nC]at r)
theorem zK(id:Nat):∀(k k':List Item),k.all (nO P)=true→exitTo id k=some k'→k'.all (nO P)=true
 |[],k',_,h=>by simp[exitTo]at h
 |x::k,k',e,h=>by
  simp only[eD,ep]at e
  cases x with
  |inBlock j =>
   simp only[exitTo]at h;split at h
   ·cases h;exact e.2
   ·exact zK id k k' e.2 h
  |_=>exact zK id k k' e.2 (by simpa[exitTo]using h)
theorem Iy[kD P][lV P](h:CR P ρ ds cs fr xs j8 ys)(hh:HR ρ wS wB)(ht:TA L wS wB){x y:Sem Next}(Y:SR P NR ρ x y)(N:∃ops i l k,fr.todo=.inRegion ops (i::l)::k):kG P ρ L ds cs wB (stepG.apply P true fr xs none x wS) (stepG.apply P true j8 ys none y wB):=by
 have z:=vu Y wS wB #[] hh ht;refine kG.yb (Iw j8 ys none y wB) fun Z=>?_
 have O:(fr.kind == CallKind.early)=false:=by rcases h.frame.kinds with e|e<;>rw[e]<;>rfl
 have aa:(j8.kind == CallKind.early)=false:=by rw[h.frame.kind];exact O
 obtain⟨ops,i,l,k,j⟩:=N;have A:j8.todo=.inRegion ops (i::l)::k:=h.frame.todo.trans j;have E:=h.frame.round;unfold stepG.apply;simp only[dn,O,aa,dL,dp,dT,j,A,E.1,E.2];have R:(y.runT P wB #[])=(y.run P wB,y.events P wB #[]):=dT ..;rw[R]at z;generalize ae:x.run P wS=rx at z;generalize x.events P wS #[]=ex;generalize af:y.run P wB=ry at z Z;generalize ag:y.events P wB #[]=ey at z;unfold After at z
 cases rx with
 |ok a w =>
  obtain⟨b,w',new,ρ',e,U,hn,F,G,H,I⟩:=z Z;simp only[eF,eG]at e;obtain⟨rfl,rfl⟩:=e;have h':=h.mono U.le;have C:∀e∈seen P j8.fn ey,nU ρ' e:=fun e he=>I e (se he)
  have out:∀{g g':Frame}{W us:List Frame},CR P ρ' ds cs g W g' us→kG P ρ L ds cs wB (GStep.after (seen P fr.fn ex) (.go { frame:=g,callers:=W,status:=.running,dying:=none } w)) (GStep.after (seen P j8.fn ey) (.go { frame:=g',callers:=us,status:=.running,dying:=none } w')):=by
   intro g g' W us X;exact kG.go U X.gr F G H (by simpa using C)
  cases hn with
  |value V=>exact out (h'.with (h'.frame.finish V) (by unfold Frame.finish;rw[j]))
  |skip=>exact out (h'.with (h'.frame.finish qA) (by unfold Frame.finish;rw[j]))
  |enter ab J=>exact out (h'.push (zJ ab J (.inl rfl)))
  | @defer d d' hd =>
   have M:nV P ρ' { fr with defers:=d::fr.defers } { j8 with defers:=d'::j8.defers } :=
    ⟨h'.frame.fn,h'.frame.ok,h'.frame.tmps,h'.frame.todo,h'.frame.items,.cons hd h'.frame.defers,h'.frame.mode,h'.frame.kind,h'.frame.kinds,h'.frame.round⟩
   have:=out (h'.with (M.finish qA) (by unfold Frame.finish;simp only[j]));simpa only[j,A,E.1,E.2]using this
  |recover =>
   simp only;rcases Co h' with⟨e1,e2⟩|⟨v,v',W,us,e1,e2,V,X⟩
   ·simp only[e1,e2];exact out (h'.with (h'.frame.finish .nilIface) (by unfold Frame.finish;rw[j]))
   ·simp only[e1,e2];exact out (X.with (X.frame.finish V) (by unfold Frame.finish;rw[j]))
 |halt ad w =>
  cases ad with
  |panic v =>
   obtain⟨v',w',new,ρ',e,U,V,F,G,H,I⟩:=z Z;simp only[eF,eG]at e;obtain⟨rfl,rfl⟩:=e;have h':=h.mono U.le;have C:∀e∈seen P j8.fn ey,nU ρ' e:=fun e he=>I e (se he)
   have M:=h'.with (h'.frame.raise (.cons (r:=false) (g:=false) V .nil)) (by unfold Frame.raise;split<;>rfl);exact kG.go U M.gr F G H (by simpa using C)
  |blocked=>cases z
  |waiting=>cases z
  |goexit=>cases z
  |unsupported u =>
   cases u with
   |initOrder g=>cases z
   |_=>exact kG.ended
  |fatal m=>cases z
  |throw m=>cases z
  |exit c=>cases z
  |stuck s=>exact kG.ended
end
end
section
variable [Scope]
section
variable {P:Program} {ρ:j7} {L:ru} {ds cs:List Frame} {wS wB:World} {main:Bool}
def AtEnd (ds:List Frame) (g:Goroutine):Prop:=g.callers=ds∧g.frame.defers=[]∧g.frame.mode≠.run
variable {fr j8:Frame} {xs ys:List Frame}
theorem kG.still(h:CR P ρ ds cs fr xs j8 ys)(e:HR ρ wS wB)(j:TA L wS wB):kG P ρ L ds cs wB (.go { frame:=fr,callers:=xs,status:=.running,dying:=none } wS) (.go { frame:=j8,callers:=ys,status:=.running,dying:=none } wB) :=
 kG.go (Grow.refl _ _) h.gr e j (.refl e) (by simp)
theorem Iz{s s' t t':GStep}(c:Prop)[Decidable c](h:c→kG P ρ L ds cs wB s s')(k:¬c→kG P ρ L ds cs wB t t'):kG P ρ L ds cs wB (if c then s else t) (if c then s' else t'):=by
 by_cases e:c
 ·rw[dr e,dr e];exact h e
 ·rw[dt e,dt e];exact k e
theorem IA[kD P][lV P](h:CR P ρ ds cs fr xs j8 ys)(C:HR ρ wS wB)(r:TA L wS wB)(hm:fr.mode=.run):kG P ρ L ds cs wB (stepG.exec P true true fr xs none wS) (stepG.exec P main true j8 ys none wB):=by
 obtain⟨fn,tmps,todo,defers,mode,kind,ro⟩:=fr;obtain⟨z,A,F,j,G,e,W⟩:=j8;obtain⟨N,O⟩:=h.frame.round;have R:=h.frame.todo;have U:=h.frame.kind;have V:=h.frame.fn;have I:=h.frame.mode;have H:=h.frame.items;simp only at N O R U V hm I H;subst N O R U V hm;have X:G=.run:=by cases I;rfl
 subst X;have m:=h.with (g:=⟨z,tmps,F,defers,.returning,e,none⟩) (g':=⟨z,A,F,j,.returning,e,none⟩) ⟨rfl,h.frame.ok,h.frame.tmps,rfl,h.frame.items,h.frame.defers,.returning,rfl,h.frame.kinds,rfl,rfl⟩ rfl;have to:∀{k:List Item},k.all (nO P)=true→CR P ρ ds cs ⟨z,tmps,k,defers,.run,e,none⟩ xs ⟨z,A,k,j,.run,e,none⟩ ys:=fun E=>h.with (h.frame.to E) rfl
 unfold stepG.exec
 cases F with
 |nil=>exact kG.still m C r
 |cons x k =>
  simp only[eD,ep]at H;obtain⟨hx,E⟩:=H
  cases x with
  |code c =>
   cases c with
   |skip=>exact kG.still (to E) C r
   |label l=>exact kG.still (to E) C r
   |ret=>exact kG.still m C r
   |seq a b =>
    simp only[nO,p6,ep]at hx;exact kG.still (to (by simp[nO,hx.1,hx.2,E])) C r
   |cond c a b =>
    simp only[nO,p6,ep]at hx;have J:=h.frame.eval.get hx.1.1;simp only;generalize Frame.eval ⟨z,tmps,.code (.cond c a b)::k,defers,.run,e,none⟩ c=v at J ⊢;generalize Frame.eval ⟨z,A,.code (.cond c a b)::k,j,.run,e,none⟩ c=v' at J ⊢
    cases J with
    |bool t=>cases t<;>exact kG.still (to (by simp[nO,hx.1.2,hx.2,E])) C r
    |_=>exact kG.ended
   |block id b=>exact kG.still (to (by simp only[eD,ep];exact⟨hx,rfl,E⟩)) C r
   |loop b=>exact kG.still (to (by simp only[eD,ep];exact⟨hx,hx,E⟩)) C r
   |scope b=>exact kG.still (to (by simp only[eD,ep];exact⟨hx,hx,E⟩)) C r
   |exit id =>
    simp only
    cases he:exitTo id k with
    |none=>simp only[Option.elim];exact kG.ended
    |some k'=>simp only[Option.elim];exact kG.still (to (zK id k k' E he)) C r
   |goto l=>simp[nO,p6]at hx
   |rangeFunc=>simp[nO,p6]at hx
   |refuse Y=>exact kG.ended
   |region id ops draw =>
    simp only[nO,p6]at hx
    cases draw with
    |false =>
     simp only[Bool.not_false,dn];exact kG.still (to (by simp only[eD,ep,nO];exact⟨hx,E⟩)) C r
    |true =>
     simp only[Bool.not_true,dL,dp];rw[Cp wS (.order z id) rfl,Cp wB (.order z id) rfl];obtain⟨Z,g3⟩:=Iu C;refine kG.yb (w0:={ wB with drawn:=wB.drawn+1 }) (dD _) fun q3=>?_
     rw[r.now (fun l hl=>by have:=q3 l hl;simp only at this;omega) (.order z id)];exact kG.go (Grow.refl _ _) (to (by simp only[eD,ep,nO];exact⟨hx,E⟩)).gr Z r.draw g3 (by simp)
  |inBlock id=>exact kG.still (to E) C r
  |inScope b=>exact kG.still (to E) C r
  |inLoop b=>exact kG.still (to (by simp only[eD,ep];exact⟨hx,hx,E⟩)) C r
  |inRegion ops l =>
   cases l with
   |nil=>exact kG.still (to E) C r
   |cons i rest =>
    simp only;have hy:yielded ops tmps=yielded ops A:=Ix h.frame.tmps ops;rw[←hy];refine Iz _ (fun hw=>?_) (fun hw=>kG.still (h.with (h.frame.finish qA) rfl) C r);unfold stepG.oper Frame.oper?;simp only
    cases ho:ops[i]? with
    |none=>exact kG.ended
    |some o =>
     have M:oB P o=true:=dB.1 hx o (dC ho);exact Iy h C r (Cn o M h.frame.eval) ⟨ops,i,rest,k,rfl⟩
  |inRangeFunc=>simp[nO]at hx
  |endRangeFunc=>simp[nO]at hx
  |beginRound=>simp[nO]at hx
  |call=>simp[nO]at hx
  |extern=>simp[nO]at hx
theorem IB{x y:List PanicEntry}(h:p7 ρ x y):p7 ρ (x.dropWhile (!·.goexit)) (y.dropWhile (!·.goexit)):=by
 induction h with
 |nil=>exact .nil
 | @cons v v' r g xs ys e j m =>
  simp only[List.dropWhile_cons]
  cases g with
  |false=>exact m
  |true=>exact .cons e j
theorem IC{c c':Frame}(h:CR P ρ ds cs fr (c::xs) j8 (c'::ys))(hx:c::xs≠ds)(z:HR ρ wS wB)(A:TA L wS wB){v v':Value}(I:VR ρ v v'):kG P ρ L ds cs wB (doReturn P true fr (c::xs) none v wS) (doReturn P main j8 (c'::ys) none v' wB):=by
 obtain⟨c1,z1,c2,N,J,e,j⟩:=h.pop hx
 cases e
 cases J
 have M:=h.frame.kind;unfold doReturn;rw[M];rcases h.frame.kinds with C|C
 ·simp only[C];exact kG.still (j.with (j.frame.finish I) (by unfold Frame.finish;repeat' (first|rfl|split))) z A
 ·simp only[C];have hm:=j.frame.mode;have mk:∀(m E:FrameMode),MR ρ m E→CR P ρ ds cs { c with mode:=m } xs { c' with mode:=E } ys:=fun m E F =>
   j.with ⟨j.frame.fn,j.frame.ok,j.frame.tmps,j.frame.todo,j.frame.items,j.frame.defers,F,j.frame.kind,j.frame.kinds,j.frame.round⟩ rfl
  generalize O:c.mode=R at hm;generalize hB:c'.mode=U at hm
  cases hm with
  |run=>exact kG.still j z A
  |returning=>exact kG.still j z A
  |panicking he =>
   cases he with
   |nil=>exact kG.still j z A
   | @cons u u' r g es lW hu G =>
    cases r with
    |false=>exact kG.still j z A
    |true =>
     have hd:=IB G;simp only;generalize es.dropWhile (!·.goexit)=d,lW.dropWhile (!·.goexit)=d' at hd
     cases hd with
     |nil=>exact kG.still (mk _ _ .returning) z A
     |cons hw H=>exact kG.still (mk _ _ (.panicking (.cons hw H))) z A
theorem zL{fn:Func}{xs ys:Array Value}(h:ki ρ xs ys):SR P VR ρ (results fn xs) (results fn ys):=by
 unfold results;rw[dU,dU];have key:∀(l:List ResultVar)(ρ':j7),ρ.le ρ'→SR P oR ρ' (l.mapM fun
   | .tmp t=>pure (xs.getD t undef)
   | .cell a t=>do loadVar t (←asAddr (xs.getD a undef))) (l.mapM fun
   | .tmp t=>pure (ys.getD t undef)
   | .cell a t=>do loadVar t (←asAddr (ys.getD a undef))):=by
  intro l
  induction l with
  |nil=>intro ρ' _;simp only[List.mapM_nil];exact kg .nil
  |cons x l E =>
   intro ρ' z;simp only[List.mapM_cons];have hx:SR P VR ρ' (match x with
     | .tmp t=>pure (xs.getD t undef)
     | .cell a t=>do loadVar t (←asAddr (xs.getD a undef))) (match x with
     | .tmp t=>pure (ys.getD t undef)
     | .cell a t=>do loadVar t (←asAddr (ys.getD a undef))):=by
    cases x with
    |tmp t=>exact kg ((h.mono z).getD t qA)
    |cell a t=>exact SR.bind (GK ((h.mono z).getD a qA)) fun r b b' _ hb=>B6 t hb
   refine SR.bind hx fun r v v' F G=>?_
   exact SR.bind (E r (j7.le_trans z F)) fun H vs m I j=>kg (.cons (G.mono I) j)
 refine SR.bind (R:=ki) (SR.bind (key fn.results.toList ρ (j7.le_refl _)) fun A vs m _ j=>kg j.array) fun A vs m J j=>?_
 have M:=j.size
 by_cases e:vs.size=1
 ·have C:m.size=1:=by omega
  simp only[e,C,dite_true];exact kg (j.get 0 _ _ (dw (by omega)) (dw (by omega)))
 ·have C:¬m.size=1:=by omega
  simp only[e,C,dite_false];exact kg j.tuple
end
end
section
variable [Scope]
section
variable {P:Program} {ρ:j7} {L:ru} {ds cs:List Frame} {wS wB:World} {main:Bool}
theorem kG.trans{ρ':j7}{w1:World}{s s':GStep}(h:kG P ρ' L ds cs w1 s s')(g:Grow ρ wB ρ')(k:Kept ρ wB w1):kG P ρ L ds cs wB s s':=by
 refine⟨h.plain,?_⟩;intro G m r e z;obtain⟨h',uB,lW,j,r0,r1,r2,A,C,E,F⟩:=h.ya _ _ _ e z;exact⟨h',uB,lW,j,r0,g.trans k.size r1,r2,A,C,k.trans g E,F⟩
theorem ID{c c':Prop}[Decidable c][Decidable c']{s s' t':GStep}{o:Outcome}{w:World}{es:Array Event}(j:c'→c)(h:kG P ρ L ds cs wB s s'):kG P ρ L ds cs wB (if c then .ended o w es else s) (if c' then t' else s'):=by
 by_cases e:c
 ·rw[dr e];exact kG.ended
 ·rw[dt e,dt fun x=>e (j x)];exact h
theorem Cr(main:Bool)(fr:Frame)(xs:List Frame)(o:Option Dying)(v:Value)(w:World):(nW (doReturn P main fr xs o v w))=w:=by
 unfold doReturn
 repeat' split
 all_goals first|rfl|(simp only;repeat' split)<;>rfl
variable {fr j8:Frame} {xs ys:List Frame}
theorem IE[kD P][lV P](h:CR P ρ ds cs fr xs j8 ys)(hh:HR ρ wS wB)(ht:TA L wS wB){d d':Deferred}(hd:DR ρ d d')(hm:fr.mode≠.run):kG P ρ L ds cs wB (callDeferred P fr xs none d wS) (callDeferred P j8 ys none d' wB):=by
 unfold callDeferred;refine ID (fun I=>?_) ?_
 ·have j:=h.frame.mode;revert I;generalize fr.mode=ma at j ⊢;generalize j8.mode=mb at j ⊢
  cases hd<;>cases j<;>exact id
 have A:=vu (Cm (P:=P) hd) wS wB #[] hh ht;simp only[dT];refine kG.yb (w0:=((invoke d'.target d'.args).run P wB).world) ?_ fun O=>?_
 ·rw[wL];generalize(invoke d'.target d'.args).run P wB=r
  cases r with
  |ok a w =>
   cases a with
   |alone b v=>cases b<;>exact dD _
   |coroswitch c b=>cases b<;>exact dD _
   |recover=>simp only;split<;>exact dD _
   |_=>exact dD _
  |halt h w =>
   cases h with
   |fatal m=>exact Cq _ _ _ _ _
   |_=>exact dD _
 have J:((invoke d'.target d'.args).runT P wB #[])=((invoke d'.target d'.args).run P wB,(invoke d'.target d'.args).events P wB #[]):=dT ..;rw[J]at A;generalize aa:(invoke d.target d.args).run P wS=rx at A;generalize(invoke d.target d.args).events P wS #[]=ex;generalize ab:(invoke d'.target d'.args).run P wB=ry at A O;generalize ad:(invoke d'.target d'.args).events P wB #[]=R at A;unfold After at A
 cases rx with
 |ok a w =>
  obtain⟨b,w',new,ρ',e,M,hn,C,E,F,G⟩:=A O;simp only[eF,eG]at e;obtain⟨rfl,rfl⟩:=e;have h':=h.mono M.le;have z:∀e∈seen P j8.fn R,nU ρ' e:=fun e he=>G e (se he)
  have out:∀{g g':Frame}{N us:List Frame},CR P ρ' ds cs g N g' us→kG P ρ L ds cs wB (GStep.after (seen P fr.fn ex) (.go { frame:=g,callers:=N,status:=.running,dying:=none } w)) (GStep.after (seen P j8.fn R) (.go { frame:=g',callers:=us,status:=.running,dying:=none } w')):=by
   intro g g' N us I;exact kG.go M I.gr C E F (by simpa using z)
  cases hn with
  |value U=>exact out h'
  |skip=>exact out h'
  |enter V H=>exact out (h'.push (zJ V H (.inr rfl)))
  |defer hd=>exact out h'
  |recover =>
   simp only;have j:=h.frame.mode;rcases Co h' with⟨W,X⟩|⟨v,v',N,us,W,X,U,I⟩
   ·simp only[W,X];generalize fr.mode=ma at j ⊢;generalize j8.mode=mb at j ⊢
    cases j<;>exact out h'
   ·simp only[W,X];generalize fr.mode=ma at j ⊢;generalize j8.mode=mb at j ⊢
    cases j<;>first|exact out h'|exact out I
 |halt Y w =>
  cases Y with
  |panic v =>
   obtain⟨v',w',new,ρ',e,M,U,C,E,F,G⟩:=A O;simp only[eF,eG]at e;obtain⟨rfl,rfl⟩:=e;have h':=h.mono M.le;have z:∀e∈seen P j8.fn R,nU ρ' e:=fun e he=>G e (se he)
   have Z:=h'.with (h'.frame.raise (.cons (r:=false) (g:=false) U .nil)) (by unfold Frame.raise;split<;>rfl);exact kG.go M Z.gr C E F (by simpa using z)
  |unsupported u =>
   cases u with
   |initOrder g=>cases A
   |_=>exact kG.ended
  |stuck s=>exact kG.ended
  |_=>cases A
theorem Cs[kD P][lV P](h:CR P ρ ds cs fr xs j8 ys)(H:HR ρ wS wB)(I:TA L wS wB)(hm:fr.mode≠.run)(A:¬(xs=ds∧fr.defers=[])):kG P ρ L ds cs wB (unwind P true fr xs none wS) (unwind P main j8 ys none wB):=by
 have j:=h.frame.defers;have m:=h.frame.mode;have kW:∀(es lW:List Deferred),tI ρ es lW→CR P ρ ds cs { fr with defers:=es } xs { j8 with defers:=lW } ys:=fun es lW hd =>
  h.with ⟨h.frame.fn,h.frame.ok,h.frame.tmps,h.frame.todo,h.frame.items,hd,h.frame.mode,h.frame.kind,h.frame.kinds,h.frame.round⟩ rfl
 obtain⟨fn,J,_,_⟩:=Bodies.body (P:=P) fr.fn h.frame.ok;have C:P.funcs[j8.fn]?=some fn:=by rw[h.frame.fn];exact J
 unfold unwind;generalize Z:fr.defers=da at j;generalize hB:j8.defers=db at j
 cases j with
 | @cons d d' es lW hd E =>
  have:=IE (kW es lW E) H I hd hm
  cases hd<;>exact this
 |nil =>
  simp only;generalize M:fr.mode=ma at m;generalize aa:j8.mode=mb at m;have hx:xs≠ds:=fun e=>A ⟨e,Z⟩
  ·obtain⟨c,xs,c',zs,rfl,rfl,W⟩:=h.pop hx
   cases m with
   |run=>exact absurd M hm
   |panicking he =>
    have c1:fr.catches P=false:=by unfold Frame.catches;rw[J]
    have c2:j8.catches P=false:=by unfold Frame.catches;rw[C]
    simp only[c1,c2,dL,dp];exact kG.still (W.with (W.frame.raise he) (by unfold Frame.raise;split<;>rfl)) H I
   |returning =>
    simp only[J,C,dT];have z:=vu (zL (P:=P) (fn:=fn) h.frame.tmps) wS wB #[] H I;have F:((results fn j8.tmps).runT P wB #[])=((results fn j8.tmps).run P wB,(results fn j8.tmps).events P wB #[]):=dT ..;rw[F]at z;generalize ab:(results fn fr.tmps).run P wS=rx at z;generalize(results fn fr.tmps).events P wS #[]=ex;refine kG.yb (w0:=((results fn j8.tmps).run P wB).world) ?_ fun X=>?_
    ·rw[wL];generalize(results fn j8.tmps).run P wB=r
     cases r with
     |ok v w=>simp only[Cr];exact dD _
     |halt h w=>cases h<;>exact dD _
    generalize ad:(results fn j8.tmps).run P wB=ry at z X;generalize ae:(results fn j8.tmps).events P wB #[]=ey at z;unfold After at z
    cases rx with
    |ok a w =>
     obtain⟨b,w',new,ρ',e,Y,hv,N,O,R,U⟩:=z X;simp only[eF,eG]at e;obtain⟨rfl,rfl⟩:=e;have h':=h.mono Y.le;have G:∀e∈seen P j8.fn ey,nU ρ' e:=fun e he=>U e (se he)
     exact kG.trans (kG.after G (IC h' hx N O hv)) Y R
    |halt V w =>
     cases V with
     |panic v =>
      exact kG.ended
     |stuck s=>exact kG.ended
     |_=>exact kG.ended
variable {g g':Goroutine}
theorem Ct[kD P][lV P](h:GR P ρ ds cs g g')(G:HR ρ wS wB)(H:TA L wS wB)(r:¬AtEnd ds g):kG P ρ L ds cs wB (stepG P true g wS) (stepG P main g' wB):=by
 obtain⟨fr,xs,st,R,off⟩:=g;obtain⟨j8,ys,st',O,N⟩:=g';obtain⟨z,A,⟨I,J⟩,⟨C,E⟩,U⟩:=h;simp only at z A I J C E;subst C E;have M:CR P ρ ds cs fr xs j8 ys:=⟨z,A⟩;unfold stepG;have j:=z.mode
 cases e:fr.mode with
 |run =>
  have m:j8.mode=.run:=by rw[e]at j;cases F:j8.mode<;>rw[F]at j<;>first|rfl|cases j
  simp only[e,m];exact IA M G H e
 |returning =>
  have m:j8.mode=.returning:=by rw[e]at j;cases F:j8.mode<;>rw[F]at j<;>first|rfl|cases j
  simp only[e,m];exact Cs M G H (by rw[e];simp) fun⟨a,b⟩=>r ⟨a,b,by rw[e];simp⟩
 |panicking es =>
  have m:∃lW,j8.mode=.panicking lW:=by rw[e]at j;cases F:j8.mode<;>rw[F]at j<;>first|exact⟨_,rfl⟩|cases j
  obtain⟨lW,m⟩:=m;simp only[e,m];exact Cs M G H (by rw[e];simp) fun⟨a,b⟩=>r ⟨a,b,by rw[e];simp⟩
theorem IF[kD P][lV P](h:GR P ρ ds cs g g')(e:HR ρ wS wB)(m:¬AtEnd ds g):Plain (stepG P true g wS):=by
 have r:HR ρ wS { wB with tape:=fun n q=>wS.tape (n-wB.drawn+wS.drawn) q }:=⟨e.obj,e.inj,e.base,e.os,e.sync⟩;have z:TA ⟨none,(wB.drawn:Int)-wS.drawn,wS.tape⟩ wS { wB with tape:=fun n q=>wS.tape (n-wB.drawn+wS.drawn) q } :=
  ⟨by simp only;omega,rfl,fun j q _=>by
   show wS.tape (wB.drawn+j-wB.drawn+wS.drawn) q=wS.tape (wS.drawn+j) q;congr 1;omega⟩
 exact(Ct (main:=true) h r z m).plain rfl
end
end
section
variable [Scope]
def cap (P:Program):Frame:={ fn:=P.funcs.size,tmps:=#[],todo:=[.call default true "fmt's door" #[]],defers:=[],mode:=.run,kind:=.normal }
theorem IG:Extern.next "fmt's door" = none:=by decide
theorem II:("fmt's door":String).startsWith "fmt's door" = true:=by kernel_rfl
section
variable {P:Program}
theorem IJ(v:Value)(w:World):∃o w',step P (lone ((cap P).finish v) [] w)=.ended o w':=by
 refine⟨.stuck ("no extern row "++ "fmt's door") (Frame.pos P ((cap P).finish v)),w,eH ?_⟩;simp[stepG,stepG.exec,cap,Frame.finish,IG,Option.elim]
theorem IK(es:List PanicEntry)(w:World):∃o w',step P (lone ((cap P).raise es) [] w)=.ended o w':=by
 refine⟨.unsupported (.noEntry "a panic or Goexit out of a method that fmt calls behind a cut's door") (Frame.pos P ((cap P).raise es)),w,eH ?_⟩;have e:Frame.catches P ((cap P).raise es)=true:=by
  unfold Frame.catches;simp only[cap,Frame.raise,Array.getElem?_size];exact II
 have hm:((cap P).raise es).mode=.panicking es:=rfl;have hd:((cap P).raise es).defers=[]:=rfl;simp[stepG,unwind,hm,hd,e]
variable {fr:Frame} {fn:Func}
theorem IL(hm:fr.mode≠.run)(hd:fr.defers=[])(m:fr.kind=.normal)(j:P.funcs[fr.fn]?=some fn)(w:World):(∃o w',step P (lone fr [cap P] w)=.ended o w')∨∃j8 w',step P (lone fr [cap P] w)=.next (lone j8 [] w')∧∃o w2,step P (lone j8 [] w')=.ended o w2:=by
 have r:fr.catches P=false:=by unfold Frame.catches;rw[j]
 cases e:fr.mode with
 |run=>exact absurd e hm
 |panicking es =>
  refine .inr ⟨(cap P).raise es,w,step_lone_go ?_,IK es w⟩;simp[stepG,unwind,e,hd,r]
 |returning =>
  cases hr:(results fn fr.tmps).run P w with
  |ok v w' =>
   refine .inr ⟨(cap P).finish v,w',step_lone_go ?_,IJ v w'⟩;simp[stepG,unwind,doReturn,e,hd,j,hr,m]
  |halt h w' =>
   refine .inl ?_
   cases h with
   |stuck s=>exact⟨_,_,eH (by simp only[stepG,unwind,e,hd,j,dT,hr,GStep.bare_after];rfl)⟩
   |_=>exact⟨_,_,eH (by simp only[stepG,unwind,e,hd,j,dT,hr,GStep.bare_after];rfl)⟩
theorem IM(hm:fr.mode≠.run)(hd:fr.defers=[])(e:fr.kind=.normal)(j:P.funcs[fr.fn]?=some fn)(w:World)(m:Nat)(fr2:Frame)(xs:List Frame)(w2:World):runN P (m+1) (lone fr [cap P] w)≠.next (lone fr2 (xs++[cap P]) w2):=by
 rcases IL hm hd e j w with⟨o,w',h⟩|⟨j8,w',h,o,w3,h'⟩
 ·simp[runN,h]
 ·cases m with
  |zero=>intro hx;simp only[runN,h]at hx;simp[lone]at hx
  |succ m=>simp[runN,h,h']
variable {f:FuncId} {args:Array Value} {w:World}
theorem zM{R:Ending→World→Prop}(h:Calls P f args w R)(A:∀w',¬R .outgrown w'):∃K fr w' e,runN P K (lone (Frame.enter P f args .normal) [cap P] w)=.next (lone fr [cap P] w')∧R e w'∧fr.fn=f∧fr.leaving P w' e∧AtEnd [cap P] { frame:=fr,callers:=[cap P],status:=.running,dying:=none }:=by
 obtain⟨e,w',fr,hr,r,z,j⟩:=h [cap P]
 cases e with
 |outgrown=>exact absurd hr (A w')
 |returned v =>
  obtain⟨K,m⟩:=r;exact⟨K,fr,w',_,m,hr,z,j,rfl,j.2.1,by simp[j.1]⟩
 |panicked ch =>
  obtain⟨K,m⟩:=r;exact⟨K,fr,w',_,m,hr,z,j,rfl,j.2.1,by simp[j.1]⟩
structure nP (P:Program) (m0:Machine) (K:Nat) (T:Tape) (ρ:j7) (cs:List Frame) (k D:Nat) (gS:Goroutine) (wS:World) (g:Goroutine) (w:World):Prop where
 run:runN P k m0=.next (lone gS.frame gS.callers wS)
 gr:GR P ρ [cap P] cs gS g
 hr:HR ρ wS w
 tape:wS.tape=T
 drawn:wS.drawn=D
 le:k≤K
def vB (P:Program) (m0:Machine) (K:Nat) (oC:Frame) (wE:World):Prop :=
 runN P K m0=.next (lone oC [cap P] wE)∧oC.mode≠.run∧oC.defers=[]
variable {m0:Machine} {K k D:Nat} {T:Tape} {ρ:j7} {cs:List Frame} {gS g:Goroutine} {wS:World}
theorem nP.at_end[lV P](h:nP P m0 K T ρ cs k D gS wS g w){oC:Frame}{wE:World}(r:vB P m0 K oC wE)(j:AtEnd [cap P] gS):k=K∧gS.frame=oC∧wS=wE:=by
 have hle:=h.le;obtain⟨n,rfl⟩:∃n,K=k+n:=⟨K-k,by omega⟩;have m:=r.1;rw[runN_add,h.run]at m;simp only at m
 cases n with
 |zero =>
  simp only[runN,lone,eI,Machine.mk.injEq,eL,eM,eN]at m;exact⟨rfl,m.2.1.1.1,m.1⟩
 |succ n =>
  obtain⟨fn,z,_,_⟩:=Bodies.body (P:=P) gS.frame.fn h.gr.frame.ok;have A:gS.frame.kind=.normal:=by
   obtain⟨us,vs,e,_,q,b⟩:=h.gr.callers;rw[j.1]at e
   cases us with
   |nil=>simpa using b
   |cons u us=>have:=dI List.length e;simp at this
  rw[j.1]at m;exact absurd m (IM j.2.2 j.2.1 A z wS n _ [] _)
theorem nP.step[kD P][lV P]{m0:Machine}{K:Nat}{T:Tape}{ρ:j7}{cs:List Frame}{k D:Nat}{gS g:Goroutine}{wS w:World}(h:nP P m0 K T ρ cs k D gS wS g w){oC:Frame}{wE:World}(I:vB P m0 K oC wE)(r:¬AtEnd [cap P] gS)(main:Bool)(E:∀j q,w.drawn+j<(nW (stepG P main g w)).drawn→w.tape (w.drawn+j) q=T (D+j) q):∃g' w' es ρ' J M,stepG P main g w=.go g' w' es∧Grow ρ w ρ'∧Kept ρ w w'∧(∀e∈es,nU ρ' e)∧nP P m0 K T ρ' cs (k+1) (D+(w'.drawn-w.drawn)) J M g' w':=by
 have hle:=h.le;have aa:k≠K:=by
  rintro rfl;have z:=I.1;rw[h.run]at z;simp only[lone,eI,Machine.mk.injEq,eL,eM,eN]at z;obtain⟨_,⟨⟨a,b,_⟩,_⟩,_⟩:=z;exact r ⟨b,by rw[a];exact I.2.2,by rw[a];exact I.2.1⟩
 obtain⟨n,rfl⟩:∃n,K=k+1+n:=⟨K-(k+1),by omega⟩;have C:runN P (k+1) m0=Go.step P (lone gS.frame gS.callers wS):=by
  rw[runN_add,h.run];simp only[runN]
  cases Go.step P (lone gS.frame gS.callers wS)<;>rfl
 have F:∃m,Go.step P (lone gS.frame gS.callers wS)=.next m:=by
  have z:=I.1;rw[runN_add,C]at z
  cases hs:Go.step P (lone gS.frame gS.callers wS)with
  |next m=>exact⟨m,rfl⟩
  |ended o w=>rw[hs]at z;cases z
 have A:=IF h.gr h.hr r;have hL:TA ⟨some (nW (stepG P main g w)).drawn,(w.drawn:Int)-D,T⟩ wS w:=⟨by rw[h.drawn];simp only;omega,h.tape,fun j q N=>by rw[h.tape,h.drawn];exact E j q (N _ rfl)⟩;have O:=(Ct (main:=main) h.gr h.hr hL r).ya;obtain⟨fr,xs,st,dy,off⟩:=gS;obtain⟨G,_⟩:=h.gr.status;obtain⟨H,_⟩:=h.gr.dying;have R:=h.gr.offers;simp only at G H R;subst G H R;rcases A with⟨o,w1,es,e⟩|⟨⟨ab,ad,ae,af,U⟩,w1,es,e,V,W,X⟩
 ·obtain⟨m,hm⟩:=F;simp only at hm;rw[eH (o:=o) (w':=w1) (by rw[e];rfl)]at hm
  cases hm
 ·simp only at V W X;subst V W X;obtain⟨g',w',lW,ρ',r0,r1,r2,r3,Y,Z,r6⟩:=O _ _ _ e (fun l N=>by cases N;exact dD _);refine⟨g',w',lW,ρ',_,w1,r0,r1,Z,r6,?_,r2,r3,Y.tape,?_,by omega⟩
  ·rw[C];exact step_lone_go (by rw[e];rfl)
  ·have z:=Y.off;have h2:=Z.drawn;simp only at z;omega
theorem nP.start[lV P](h:Scope.ok f=true){mg:Array Value}(j:ki ρ args mg)(e:HR ρ wS w)(cs:List Frame)(T:Tape)(K:Nat):nP P (lone (Frame.enter P f args .normal) [cap P] { wS with tape:=T,drawn:=0 }) K T ρ cs 0 0 { frame:=Frame.enter P f args .normal,callers:=[cap P],status:=.running,dying:=none } { wS with tape:=T,drawn:=0 } { frame:=Frame.enter P f mg .normal,callers:=cs,status:=.running,dying:=none } w :=
 ⟨rfl,⟨zJ h j (.inl rfl),⟨[],[],rfl,rfl,.nil,rfl⟩,⟨rfl,rfl⟩,⟨rfl,rfl⟩,rfl⟩,⟨e.obj,e.inj,e.base,e.os,e.sync⟩,rfl,rfl,eP _⟩
theorem nP.others{w':World}(h:nP P m0 K T ρ cs k D gS wS g w)(m:w'.os=w.os)(hsz:Scope.sync=true→w'.heap.size=w.heap.size)(r:∀b p o o',ρ b=some p→w.heap[p.block]?=some o→mD ρ p o' o→∃j,w'.heap[p.block]?=some j∧mD ρ p o' j):nP P m0 K T ρ cs k D gS wS g w' :=
 ⟨h.run,h.gr,⟨fun b p hb=>by
  obtain⟨o,o',z,A,C⟩:=h.hr.obj b p hb;obtain⟨j,k1,k2⟩:=r b p o' o hb A C;exact⟨o,j,z,k1,k2⟩,h.hr.inj,h.hr.base,m.trans h.hr.os,fun e=>⟨(h.hr.sync e).1.trans (hsz e).symm,(h.hr.sync e).2⟩⟩,h.tape,h.drawn,h.le⟩
end
def kI (zN:Nat→Nat×Nat):Nat→Nat
 |0=>0
 |n+1=>kI zN n+((zN n).2-(zN n).1)
theorem Cu(e:Nat→Nat×Nat){a b:Nat}(h:a≤b):kI e a≤kI e b:=by
 induction h with
 |refl=>exact dD _
 |step _ j=>exact dE j (Nat.le_add_right _ _)
theorem glue(T:Nat→Tape)(e:Nat→Nat×Nat):∃G:Tape,∀n j q,(e n).1+j<(e n).2→G (kI e n+j) q=T n ((e n).1+j) q:=by
 classical
 refine⟨fun x q=>if h:∃m:Nat×Nat,kI e m.1+m.2=x∧(e m.1).1+m.2<(e m.1).2 then T h.choose.1 ((e h.choose.1).1+h.choose.2) q else 0,fun n j q A=>?_⟩;have hx:∃m:Nat×Nat,kI e m.1+m.2=kI e n+j∧(e m.1).1+m.2<(e m.1).2:=⟨(n,j),rfl,A⟩;simp only[hx,dite_true];obtain⟨r,z⟩:=hx.choose_spec;generalize hx.choose=m at r z ⊢;obtain⟨n',C⟩:=m;simp only at r z ⊢;have E:n'=n:=by
  rcases Nat.lt_trichotomy n' n with h|h|h
  ·have:=Cu e (Nat.succ_le_of_lt h);simp only[kI]at this;omega
  ·exact h
  ·have:=Cu e (Nat.succ_le_of_lt h);simp only[kI]at this;omega
 subst E;have:C=j:=by omega
 rw[this]
end
section
open Go.Conc
open Go.ConcN (sumTo upd sumTo_upd upd_ne upd_same)
theorem yc(P:Program):∃pk:Machine→Nat×Nat×Option (Nat×Nat),∀gs w sl,(∀g∈gs,awake g)→(∃(i:Nat)(g:Goroutine),gs[i]?=some g∧g.status=.running) →
  ∃g,gs[(pk (crowd gs w sl)).1]?=some g∧g.status=.running∧stepT P (crowd gs w sl)=runT P (crowd gs (w.at (pk (crowd gs w sl)).2.1) (pk (crowd gs w sl)).2.2) (pk (crowd gs w sl)).1:=by
 classical
 refine⟨fun m=>if h:∃x:Nat×Nat×Option (Nat×Nat),∃g,m.gs[x.1]?=some g∧g.status=.running∧stepT P m=runT P (crowd m.gs (m.world.at x.2.1) x.2.2) x.1 then h.choose else(0,0,none),fun gs w sl e hr=>?_⟩;obtain⟨i,g,d,kn,j,r,z⟩:=crowd_pick (P:=P) (w:=w) (sl:=sl) e hr;have h:∃x:Nat×Nat×Option (Nat×Nat),∃g,(crowd gs w sl).gs[x.1]?=some g∧g.status=.running∧stepT P (crowd gs w sl)=runT P (crowd (crowd gs w sl).gs ((crowd gs w sl).world.at x.2.1) x.2.2) x.1:=⟨(i,d,kn),g,j,r,z⟩;simp only[dif_pos h];exact h.choose_spec
section
variable (P:Program) (pk:Machine→Nat×Nat×Option (Nat×Nat)) (i0:Nat) (m0:Machine) (t0:Trace)
def kK (n:Nat):Nat×Nat :=
 match(runNT P n m0 t0).1 with
 | .next m=>if(pk m).1=i0 then((pk m).2.1,(nW (stepG P (i0 == 0) (m.gs.getD i0 default) (m.world.at (pk m).2.1))).drawn) else(0,0)
 | .ended _ _=>(0,0)
def vC (n:Nat):Tape :=
 match(runNT P n m0 t0).1 with
 | .next m=>m.world.tape
 | .ended _ w=>w.tape
variable {P pk i0 m0 t0}
variable {n:Nat} {gs:Array Goroutine} {w:World} {sl:Option (Nat×Nat)} {t:Trace}
theorem zO{g:Goroutine}(h:runNT P n m0 t0=(.next (crowd gs w sl),t))(e:gs[i0]?=some g)(hp:(pk (crowd gs w sl)).1=i0):kK P pk i0 m0 t0 n=((pk (crowd gs w sl)).2.1,(nW (stepG P (i0 == 0) g (w.at (pk (crowd gs w sl)).2.1))).drawn):=by
 unfold kK;rw[h];simp only[hp,dn];have:(crowd gs w sl).gs.getD i0 default=g:=by
  show gs.getD i0 default=g;rw[dA,e];rfl
 rw[this];rfl
theorem uC(h:runNT P n m0 t0=(.next (crowd gs w sl),t))(hp:(pk (crowd gs w sl)).1≠i0):kK P pk i0 m0 t0 n=(0,0):=by
 unfold kK;rw[h];simp only[hp,dp]
theorem Cv(h:runNT P n m0 t0=(.next (crowd gs w sl),t)):vC P m0 t0 n=w.tape:=by
 unfold vC;rw[h];rfl
end
structure Beside (P:Program) (m0:Machine) (t0:Trace) (Shun:Loc→Prop) (n:Nat) (gs:Array Goroutine) (w:World) (sl:Option (Nat×Nat)) (t:Trace) (q:Nat→Nat) (g:Goroutine):Prop where
 run:runNT P n m0 t0=(.next (crowd gs w sl),t)
 main:gs[0]?=some g
 leave:Leavers P t gs q
 past:Past Shun w.heap.size t
section
variable {P:Program} {m0:Machine} {t0:Trace} {Shun:Loc→Prop} {pk:Machine→Nat×Nat×Option (Nat×Nat)}
variable {n:Nat} {t:Trace}
theorem oK{m e:Machine}{ops:Array MemOp}(h:runNT P n m0 t0=(.next m,t))(j:stepT P m=(.next e,ops)):runNT P (n+1) m0 t0=(.next e,t++ops):=by
 rw[eQ,h];simp only[runNT,j]
variable {gs:Array Goroutine} {q:Nat→Nat} {g:Goroutine}
theorem Cw(h:Leavers P t gs q){g':Goroutine}{w':World}(A:gs[0]?=some g)(fn:FuncId)(pos:String)(es:Array Event):Leavers P (t++MemOp.ofEvents 0 fn pos es) ((gs.map (woken P g g' w')).setIfInBounds 0 g') q:=by
 refine⟨fun j x r hx=>?_,fun j r=>?_⟩
 ·rw[dO (show(0:Nat)≠j by omega),dV]at hx;obtain⟨y,C,rfl⟩:=eo.1 hx;have z:=h.old j y r C;rw[eT z,eU t (show(0:Nat)≠j by omega) _ (fun op m=>by obtain⟨e,_,rfl⟩:=eX m;rfl)];exact z
 ·have F:0<gs.size:=(dv.1 A).1;have E:gs.size≤j:=by simpa using r
  rw[eU t (g':=0) (show(0:Nat)≠j by omega) _ (fun op m=>by obtain⟨e,_,rfl⟩:=eX m;rfl)];exact h.above j E
theorem turn(U:∀gs w sl,(∀g∈gs,awake g)→(∃(i:Nat)(g:Goroutine),gs[i]?=some g∧g.status=.running) →
  ∃g,gs[(pk (crowd gs w sl)).1]?=some g∧g.status=.running∧stepT P (crowd gs w sl)=runT P (crowd gs (w.at (pk (crowd gs w sl)).2.1) (pk (crowd gs w sl)).2.2) (pk (crowd gs w sl)).1){w:World}{sl:Option (Nat×Nat)}(h:Beside P m0 t0 Shun n gs w sl t q g)(V:g.status=.running):∃d kn,(∃gs' t' q',Beside P m0 t0 Shun (n+1) gs' (w.at d) kn t' q' g∧gs'.size=gs.size∧sumTo gs.size q'<sumTo gs.size q∧kK P pk 0 m0 t0 n=(0,0)) ∨
   (kK P pk 0 m0 t0 n=(d,(nW (stepG P true g (w.at d))).drawn)∧∀g' w' es,stepG P true g (w.at d)=.go g' w' es→(∀e∈es,EvL Shun w'.heap.size e)→w.heap.size≤w'.heap.size →
    ∃gs' t',Beside P m0 t0 Shun (n+1) gs' w' kn t' q g'∧gs'.size=gs.size):=by
 have W:∀x∈gs,awake x:=by
  intro x hx;obtain⟨i,hi,rfl⟩:=eZ.1 hx;rcases fb i with rfl|m
  ·have:gs[0]=g:=by simpa[dw hi]using h.main
   rw[this];exact fe (.inl V)
  ·exact fe ((h.leave.old i _ m (dw hi)).status.elim .inl fun x=>.inr (.inr x))
 obtain⟨x,hx,E,F⟩:=U gs w sl W ⟨0,g,h.main,V⟩;have r:=zO (P:=P) (pk:=pk) (i0:=0) h.run h.main;have A:=uC (P:=P) (pk:=pk) (i0:=0) h.run;generalize pk (crowd gs w sl)=y at hx F r A;obtain⟨i,d,kn⟩:=y;simp only at hx F r A;refine⟨d,kn,?_⟩;rcases fb i with rfl|m
 ·refine .inr ⟨r rfl,fun g' w' es hgo X hsz=>?_⟩;obtain rfl:x=g:=by rw[h.main]at hx;exact(ff hx).symm
  have C:=fg (P:=P) (sl:=kn) (i:=0) h.main (show stepG P (0 == 0) x (w.at d)=_ from hgo);have G:0<gs.size:=(dv.1 h.main).1;refine⟨_,_,⟨oK h.run (F.trans C),by simp[G],Cw h.leave h.main _ _ _,(h.past.mono hsz).own X⟩,by simp⟩
 ·refine .inl ?_;have O:=h.leave.old i x m hx;have G:i<gs.size:=(dv.1 hx).1;have Y:(i == 0)=false:=by simp;omega
  cases I:q i with
  |zero=>rw[I]at O;rw[O.1]at E;cases E
  |succ k =>
   rw[I]at O;rcases O with⟨hf,_⟩|⟨_,g',es,hm,M,Z⟩
   ·rw[hf]at E;cases E
   have C:=fg (P:=P) (sl:=kn) (i:=i) hx (by rw[Y];exact M (w.at d));have ab:sumTo gs.size (upd q i k)+(k+1)=sumTo gs.size q+k:=by
    have:=fh q k id G;simpa[I]using this
   refine⟨_,_,upd q i k,⟨oK h.run (F.trans C),?_,⟨fun j z hj R=>?_,fun j hj=>?_⟩,h.past.mute (show i≠0 by omega) hm⟩,by simp,by omega,A (show i≠0 by omega)⟩
   ·rw[dO (show i≠0 by omega),dV,h.main];simp[fi V]
   ·by_cases H:i=j
    ·subst H;rw[fj (by simpa using G)]at R;obtain rfl:=ff R;rw[fl,fo];exact Z
    ·rw[dO H,dV]at R;obtain⟨y,hy,rfl⟩:=eo.1 R;have N:=h.leave.old j y hj hy;rw[eT N,fp q k (dJ H),eU t H _ (fun op J=>by obtain⟨e,_,rfl⟩:=eX J;rfl)];exact N
   ·have aa:gs.size≤j:=by simpa using hj
    rw[eU t (g':=i) (show i≠j by omega) _ (fun op J=>by obtain⟨e,_,rfl⟩:=eX J;rfl)];exact h.leave.above j aa
end
end
section
open Go.Conc
open Go.ConcN (sumTo upd sumTo_upd upd_ne upd_same)
variable [Scope]
section
variable {P:Program}
theorem nP.leave[kD P][lV P]{m0:Machine}{K:Nat}{T:Tape}{ρ:j7}{c:Frame}{cs:List Frame}{k D:Nat}{gS g:Goroutine}{wS w:World}(h:nP P m0 K T ρ (c::cs) k D gS wS g w){v:Value}(A:gS.frame.leaving P wS (.returned v))(G:gS.callers=[cap P])(main:Bool)(z:∀j q,w.drawn+j<(nW (stepG P main g w)).drawn→w.tape (w.drawn+j) q=T (D+j) q):∃v' w' es ρ',stepG P main g w=.go { frame:=c.finish v',callers:=cs,status:=.running,dying:=none } w' es∧Grow ρ w ρ'∧Kept ρ w w'∧(∀e∈es,nU ρ' e)∧HR ρ' wS w'∧VR ρ' v v':=by
 obtain⟨hm,hd,Z,fn,hf,hr⟩:=A;have hL:TA ⟨some (nW (stepG P main g w)).drawn,(w.drawn:Int)-D,T⟩ wS w:=⟨by rw[h.drawn];simp only;omega,h.tape,fun j q A=>by rw[h.tape,h.drawn];exact z j q (A _ rfl)⟩;have H:=vu (zL (P:=P) (fn:=fn) h.gr.frame.tmps) wS w #[] h.hr hL;rw[hr]at H;obtain⟨j8,ys,st',I,m⟩:=g;have hs:st'=.running:=h.gr.status.2;have J:I=none:=h.gr.dying.2;subst hs J;have M:ys=c::cs:=by
  obtain⟨us,vs,Y,e2,q,_⟩:=h.gr.callers;rw[G]at Y
  cases q with
  |nil=>simpa using e2
  |cons _ _=>have:=dI List.length Y;simp at this
 subst M;have C:j8.mode=.returning:=by
  have:=h.gr.frame.mode;rw[hm]at this;simp only at this
  cases N:j8.mode<;>rw[N]at this<;>first|rfl|cases this
 have O:j8.defers=[]:=by
  have:=h.gr.frame.defers;rw[hd]at this;simp only at this
  cases N:j8.defers<;>rw[N]at this<;>first|rfl|cases this
 have R:j8.kind=.normal:=h.gr.frame.kind.trans Z;have U:P.funcs[j8.fn]?=some fn:=by rw[show j8.fn=gS.frame.fn from h.gr.frame.fn];exact hf
 have E:stepG P main { frame:=j8,callers:=c::cs,status:=.running,dying:=none,offers:=m } w=GStep.after (seen P j8.fn ((results fn j8.tmps).runT P w #[]).2) (match((results fn j8.tmps).runT P w #[]).1 with
   | .ok v w=>doReturn P main j8 (c::cs) none v w
   | .halt (.stuck s) w=>.ended (.stuck s (j8.pos P)) w
   | .halt _ w=>.ended (.stuck "return: the result variables cannot be read" (j8.pos P)) w):=by
  unfold stepG;simp only[C];unfold unwind;simp only[O,C,U];rfl
 have F:Fits ⟨some (nW (stepG P main { frame:=j8,callers:=c::cs,status:=.running,dying:=none,offers:=m } w)).drawn,(w.drawn:Int)-D,T⟩ ((results fn j8.tmps).runT P w #[]).1.world:=by
  intro l A
  cases A
  rw[E,wL];generalize((results fn j8.tmps).runT P w #[]).1=r
  cases r with
  |ok v w=>simp only[Cr];exact dD _
  |halt h w=>cases h<;>exact dD _
 unfold After at H;obtain⟨v',w',new,ρ',e,hg,hv,V,aa,W,X⟩:=H F;rw[E,e];refine⟨v',w',seen P j8.fn (#[]++new)++#[],ρ',?_,hg,W,?_,V,hv⟩
 ·simp only[doReturn,R,GStep.after]
 ·intro e he;simp only[fq]at he;have:=se he;simp only[eF]at this;exact X e this
structure sf (Shun:Loc→Prop) (ρ:j7) (w:World):Prop where
 cell:∀b p a,ρ b=some p→a.block=p.block→¬Shun (.cell a)
 obj:∀b p,ρ b=some p→¬Shun (.obj p.block)
 low:∀l,Shun l→l.low w.heap.size
 out:¬Shun .output
variable {Shun:Loc→Prop} {ρ ρ':j7} {w w':World}
theorem sf.grow(h:sf Shun ρ w)(g:Grow ρ w ρ')(j:w.heap.size≤w'.heap.size):sf Shun ρ' w':=by
 refine⟨fun b p a hb m hx=>?_,fun b p hb hx=>?_,fun l r=>Loc.low_mono j (h.low l r),h.out⟩
 ·rcases g.new b p hb with e|⟨_,e⟩
  ·exact h.cell b p a e m hx
  ·have:a.block<w.heap.size:=h.low _ hx;omega
 ·rcases g.new b p hb with e|⟨_,e⟩
  ·exact h.obj b p e hx
  ·have:p.block<w.heap.size:=h.low _ hx;omega
variable {wS:World}
theorem wM(h:sf Shun ρ w)(C:HR ρ wS w){e:Event}(he:nU ρ e):EvL Shun w.heap.size e:=by
 obtain⟨loc,wr,A⟩:=e;have size:∀b p,ρ b=some p→p.block<w.heap.size:=fun b p hb=>by
  obtain⟨_,_,_,E,_⟩:=C.obj b p hb;exact(dv.1 E).1
 unfold nU at he
 cases loc with
 |cell a =>
  obtain⟨b,p,hb,hp,_⟩:=he;refine⟨fun x hx j=>?_,by simp,by simp,?_⟩
  ·have z:x.loc=.cell a:=by
    simp only[MemAct.ofEvent,MemAct.touch?]at hx;split at hx<;>first|(cases hx;rfl)|cases hx
   rw[z]at j;exact absurd j (h.cell b p a hb hp.symm)
  ·show a.block<_;rw[←hp];exact size b p hb
 |obj r =>
  obtain⟨b,hb⟩:=he;have no:∀x,(MemAct.ofEvent ⟨.obj r,wr,A⟩).touch? = some x→x.loc=.obj r:=by
   intro x hx
   cases wr<;>cases A<;>simp[MemAct.ofEvent,MemAct.touch?]at hx<;>rw[←hx]
  refine⟨fun x hx j=>?_,by simp,by simp,?_⟩
  ·rw[no x hx]at j;exact absurd j (h.obj b _ hb)
  ·cases wr<;>cases A<;>exact size b _ hb
 |mark m =>
  obtain rfl:m=.noRoom:=he;exact⟨fun x hx=>by simp[MemAct.ofEvent,MemAct.touch?]at hx,by simp,by simp,trivial⟩
 |output =>
  refine⟨fun x hx j=>?_,by simp,by simp,trivial⟩;have z:x.loc=.output:=by
   simp only[MemAct.ofEvent,MemAct.touch?]at hx;split at hx<;>first|(cases hx;rfl)|cases hx
  rw[z]at j;exact absurd j h.out
 |_=>exact he.elim
variable {v:World}
theorem Grow.from_(h:Grow ρ w ρ')(e:v.heap.size=w.heap.size):Grow ρ v ρ':=⟨h.le,by rw[e];exact h.new⟩
theorem Kept.from_(h:Kept ρ w w')(j:v.os=w.os)(m:v.tape=w.tape)(r:v.output=w.output)(e:v.heap=w.heap)(z:v.drawn≤w'.drawn):Kept ρ v w' :=
 ⟨by rw[j];exact h.os,by rw[m];exact h.tape,by rw[r];exact h.output,z,by rw[e];exact h.size,by rw[e];exact h.other,by rw[e];exact h.part⟩
theorem Kept.vD(h:Kept ρ w w')(j:v.os=w'.os)(m:v.tape=w'.tape)(r:v.output=w'.output)(e:v.heap=w'.heap)(z:w.drawn≤v.drawn):Kept ρ w v :=
 ⟨j.trans h.os,m.trans h.tape,r.trans h.output,z,by rw[e];exact h.size,by rw[e];exact h.other,by rw[e];exact h.part⟩
theorem IP[kD P][lV P]{gs:Array Goroutine}{sl:Option (Nat×Nat)}{t:Trace}{q:Nat→Nat}{f:FuncId}(hf:Scope.ok f=true){args mg:Array Value}(ha:ki ρ args mg)(hh:HR ρ wS w){c:Frame}{cs:List Frame}(h0:gs[0]?=some { frame:=Frame.enter P f mg .normal,callers:=c::cs,status:=.running,dying:=none })(hL:Leavers P t gs q)(hP:Past Shun w.heap.size t)(hS:sf Shun ρ w){R:Value→World→Prop}(hc:∀T,Calls P f args { wS with tape:=T,drawn:=0 } fun e w'=>∃v,e=.returned v∧R v w'):∃N gs' w' kn t' q' ρ' v v' r,runNT P N (crowd gs w sl) t=(.next (crowd gs' w' kn),t')∧gs'.size=gs.size∧gs'[0]?=some { frame:=c.finish v',callers:=cs,status:=.running,dying:=none }∧Leavers P t' gs' q'∧Past Shun w'.heap.size t' ∧
   Grow ρ w ρ'∧Kept ρ (w.at 0) w'∧HR ρ' r w'∧VR ρ' v v'∧R v r:=by
 obtain⟨pk,ad⟩:=yc P;obtain⟨T,hT⟩:=glue (vC P (crowd gs w sl) t) (kK P pk 0 (crowd gs w sl) t);obtain⟨K,oC,wE,e,hK,⟨v,rfl,hR⟩,ah,ae,aa⟩:=zM (hc T) (by rintro w' ⟨v,hv,_⟩;cases hv);have hE:vB P _ K oC wE:=⟨hK,aa.2.2,aa.2.1⟩;have hstart:=nP.start (P:=P) hf ha hh (c::cs) T K
 suffices key:∀μ n M w1 ab t1 X O k z gS C,Beside P (crowd gs w sl) t Shun n M w1 ab t1 X O→M.size=gs.size→nP P (lone (Frame.enter P f args .normal) [cap P] { wS with tape:=T,drawn:=0 }) K T z (c::cs) k (kI (kK P pk 0 (crowd gs w sl) t) n) gS C O w1 →
   Grow ρ w z→Kept ρ (w.at 0) w1→(K-k)+sumTo gs.size X=μ →
   ∃N gs' w' kn t' q' ρ' v v' r,runNT P N (crowd gs w sl) t=(.next (crowd gs' w' kn),t')∧gs'.size=gs.size∧gs'[0]?=some { frame:=c.finish v',callers:=cs,status:=.running,dying:=none }∧Leavers P t' gs' q'∧Past Shun w'.heap.size t' ∧
    Grow ρ w ρ'∧Kept ρ (w.at 0) w'∧HR ρ' r w'∧VR ρ' v v'∧R v r from
  key _ 0 gs w sl t q _ 0 ρ _ _ ⟨rfl,h0,hL,hP⟩ rfl hstart (Grow.refl _ _) ((Kept.refl hh).from_ rfl rfl rfl rfl (eP _)) rfl
 intro μ
 induction μ using Nat.strongRecOn with
 |_ μ ih =>
  intro n M w1 ab t1 X O k z gS C hb hsz hr Y Z ai;have A:O.status=.running:=hr.gr.status.2;obtain⟨d,kn,U⟩:=turn (pk:=pk) ad hb A;have E:=hS.grow Y Z.size;have V:nP P (lone (Frame.enter P f args .normal) [cap P] { wS with tape:=T,drawn:=0 }) K T z (c::cs) k (kI (kK P pk 0 (crowd gs w sl) t) n) gS C O (w1.at d):=hr.others rfl (fun _=>rfl) fun b p o o' _ h1 h2=>⟨o,h1,h2⟩
  rcases U with⟨F,t2,q2,h,G,af,m⟩|⟨m,hgo⟩
  ·have H:kI (kK P pk 0 (crowd gs w sl) t) (n+1)=kI (kK P pk 0 (crowd gs w sl) t) n:=by simp[kI,m]
   rw[hsz]at af;exact ih ((K-k)+sumTo gs.size q2) (by omega) (n+1) F (w1.at d) kn t2 q2 O k z gS C h (G.trans hsz) (by rw[H];exact V) Y (Z.vD rfl rfl rfl rfl (eP _)) rfl
  ·have I:∀j x,(w1.at d).drawn+j<(nW (stepG P true O (w1.at d))).drawn→(w1.at d).tape ((w1.at d).drawn+j) x=T (kI (kK P pk 0 (crowd gs w sl) t) n+j) x:=by
    intro j x hj;have:=hT n j x (by rw[m];exact hj);rw[m,Cv hb.run]at this;exact this.symm
   by_cases J:AtEnd [cap P] gS
   ·obtain⟨rfl,e1,rfl⟩:=hr.at_end hE J;obtain⟨v',w',es,ρ',r0,W,r2,r3,r4,r5⟩:=V.leave (v:=v) (by rw[e1];exact ae) J.1 true I;have r1:Grow z w1 ρ':=W.from_ rfl;obtain⟨F,t2,h,G⟩:=hgo _ _ _ r0 (fun e he=>wM (E.grow r1 r2.size) r4 (r3 e he)) r2.size;exact⟨n+1,F,w',kn,t2,X,ρ',v,v',C,h.run,G.trans hsz,h.main,h.leave,h.past,Y.trans Z.size r1,(Z.vD (v:=w1.at d) rfl rfl rfl rfl (eP _)).trans (Y.from_ rfl) r2,r4,r5,hR⟩
   ·obtain⟨g2,w',es,ρ',ag,r,r0,W,r2,r3,r4⟩:=V.step hE J true I;have r1:Grow z w1 ρ':=W.from_ rfl;obtain⟨F,t2,h,G⟩:=hgo _ _ _ r0 (fun e he=>wM (E.grow r1 r2.size) r4.hr (r3 e he)) r2.size;have H:kI (kK P pk 0 (crowd gs w sl) t) (n+1)=kI (kK P pk 0 (crowd gs w sl) t) n+(w'.drawn-(w1.at d).drawn):=by
     simp only[kI,m];rw[r0];rfl
    have hle:=r4.le;exact ih ((K-(k+1))+sumTo gs.size X) (by omega) (n+1) F w' kn t2 X g2 (k+1) ρ' ag r h (G.trans hsz) (by rw[H];exact r4) (Y.trans Z.size r1) ((Z.vD (v:=w1.at d) rfl rfl rfl rfl (eP _)).trans (Y.from_ rfl) r2) rfl
end
end
section
open Go.Conc
open Go.ConcN (sumTo upd sumTo_upd upd_ne upd_same)
section
variable {P:Program}
variable {w:World}
theorem uD{Shun:Loc→Prop}{Post:Goroutine→World→Prop}{g:Goroutine}(U:g.status=.running)(h:∀d,∃g' w' es,stepG P true g (w.at d)=.go g' w' es∧(∀e∈es,EvL Shun w'.heap.size e)∧w.heap.size≤w'.heap.size∧Post g' w'):∀(gs:Array Goroutine)(sl:Option (Nat×Nat)) (t:Trace) (q:Nat→Nat),gs[0]?=some g→Leavers P t gs q→Past Shun w.heap.size t →
   ∃N gs' g' w' kn t' q',runNT P N (crowd gs w sl) t=(.next (crowd gs' w' kn),t')∧gs'.size=gs.size∧gs'[0]?=some g'∧Leavers P t' gs' q'∧Past Shun w'.heap.size t'∧Post g' w':=by
 obtain⟨pk,F⟩:=yc P
 suffices key:∀(E:Nat)(w1:World),(∃d,w1=w.at d)∨w1=w→∀(gs:Array Goroutine)(sl:Option (Nat×Nat)) (t:Trace) (q:Nat→Nat),sumTo gs.size q=E→gs[0]?=some g→Leavers P t gs q→Past Shun w.heap.size t →
   ∃N gs' g' w' kn t' q',runNT P N (crowd gs w1 sl) t=(.next (crowd gs' w' kn),t')∧gs'.size=gs.size∧gs'[0]?=some g'∧Leavers P t' gs' q'∧Past Shun w'.heap.size t'∧Post g' w' from
  fun gs sl t q G H I=>key _ w (.inr rfl) gs sl t q rfl G H I
 intro E
 induction E using Nat.strongRecOn with
 |_ E V =>
  intro w1 C gs sl t q J G H I;have z:∀d,w1.at d=w.at d:=by
   intro d;rcases C with⟨d',rfl⟩|rfl<;>rfl
  have hsz:w1.heap.size=w.heap.size:=by rcases C with⟨d',rfl⟩|rfl<;>rfl
  have hb:Beside P (crowd gs w1 sl) t Shun 0 gs w1 sl t q g:=⟨rfl,G,H,by rw[hsz];exact I⟩;obtain⟨d,kn,A⟩:=turn (pk:=pk) F hb U;rcases A with⟨m,t2,R,j,r,M,_⟩|⟨_,hgo⟩
  ·obtain⟨N,gs',g',w',O,t',q',r1,r2,W⟩:=V (sumTo m.size R) (by rw[r,←J];exact M) (w1.at d) (.inl ⟨d,z d⟩) m kn t2 R rfl j.main j.leave (by have:=j.past;rw[z d]at this;exact this);refine⟨1+N,gs',g',w',O,t',q',?_,r2.trans r,W⟩;rw[eQ,show runNT P 1 (crowd gs w1 sl) t=_ from j.run];exact r1
  ·obtain⟨g',w',es,X,Y,Z,e4⟩:=h d;obtain⟨m,t2,j,r⟩:=hgo g' w' es (by rw[z d];exact X) Y (by rw[hsz];exact Z);exact⟨1,m,g',w',kn,t2,q,j.run,r,j.main,j.leave,j.past,e4⟩
variable [Scope]
def zP (Shun:Loc→Prop) (B:Nat):Prop:=(∀a:Addr,a.block=B→¬Shun (.cell a))∧¬Shun (.obj B)
def RO (ρ:j7) (B:Nat):Prop:=∀b p,ρ b=some p→p.block=B→∃ty,p.part=some ⟨0,0,ty⟩
variable {ρ:j7} {B:Nat}
theorem RO.of(h:∀b p,ρ b=some p→p.block≠B):RO ρ B:=fun b p hb e=>absurd e (h b p hb)
variable {ρ':j7}
theorem RO.back(h:RO ρ B)(k:∀b p,ρ' b=some p→p.block=B→ρ b=some p):RO ρ' B:=fun b p hb e=>h b p (k b p hb e) e
structure lG (Shun:Loc→Prop) (ρ:j7) (w:World) (tJ:Loc→Prop) (ρ':j7) (w':World):Prop where
 os:w'.os=w.os
 size:w.heap.size≤w'.heap.size
 block:∀B,B<w.heap.size→RO ρ B→zP Shun B→w'.heap[B]?=w.heap[B]?∧(∀b p,ρ' b=some p→p.block=B→ρ b=some p)∧zP tJ B
theorem lG.at(Shun:Loc→Prop)(ρ:j7)(w:World)(d:Nat):lG Shun ρ w Shun ρ (w.at d):=⟨rfl,dD _,fun _ _ j e=>⟨rfl,fun _ _ h _=>h,e⟩⟩
theorem lG.refl(Shun:Loc→Prop)(ρ:j7)(w:World):lG Shun ρ w Shun ρ w:=⟨rfl,dD _,fun _ _ j e=>⟨rfl,fun _ _ h _=>h,e⟩⟩
theorem lG.trans{S S' m:Loc→Prop}{ρ ρ' j:j7}{w w' r:World}(h:lG S ρ w S' ρ' w')(k:lG S' ρ' w' m j r):lG S ρ w m j r :=
 ⟨k.os.trans h.os,dE h.size k.size,fun B hB z C=>by
  obtain⟨E,A,F⟩:=h.block B hB z C;obtain⟨f1,f2,f3⟩:=k.block B (dF hB h.size) (z.back A) F;exact⟨f1.trans E,fun b p hb e=>A b p (f2 b p hb e) e,f3⟩⟩
variable {S:Loc→Prop}
theorem lG.kept{v w':World}(h:Kept ρ v w')(g:Grow ρ w ρ')(j:v.heap=w.heap)(r:v.os=w.os):lG S ρ w S ρ' w' :=
 ⟨h.os.trans r,by rw[←j];exact h.size,fun B hB z A=>⟨by
  by_cases m:∃b p,ρ b=some p∧p.block=B
  ·obtain⟨b,p,hb,rfl⟩:=m;obtain⟨ty,hp⟩:=z b p hb rfl;obtain⟨C,E,C',fr,_,k1,k2,G,F⟩:=h.part b p 0 0 ty hb hp;rw[←j,k1,k2];have:C'=C:=by
    apply dP;intro i;exact F i (.inr (by omega))
   rw[this]
  ·rw[←j];exact h.other B (by rw[j];exact hB) fun b p hb e=>m ⟨b,p,hb,e⟩,fun b p hb e=>by
  rcases g.new b p hb with k|⟨_,k⟩
  ·exact k
  ·omega,A⟩⟩
def IQ (v:Value) (C:Array Value):Value:=.agg #[.chan (some 0),v,.agg C]
def lu:Value→Bool
 | .agg ⟨[.chan (some _),_,.agg _]⟩=>true
 |_=>false
def IU (v:Value) (ad:Addr):Prop:=v=.pointer (some ad)∨∃l c,v=.slice (some ad) l c
def yd (Shun:Loc→Prop) (ρ:j7) (w:World) (ad:Addr) (C:Array Value):Prop:=(∃ty fr,w.heap[ad.block]?=some (.cells C ty fr))∧(∀y p,ρ y=some p→p.block≠ad.block)∧zP Shun ad.block
theorem yd.nd{S S':Loc→Prop}{ρ ρ':j7}{w w':World}{ad:Addr}{C:Array Value}(h:yd S ρ w ad C)(k:lG S ρ w S' ρ' w'):yd S' ρ' w' ad C:=by
 obtain⟨⟨ty,fr,e⟩,j,m⟩:=h;obtain⟨k1,k2,r⟩:=k.block _ (dv.1 e).1 (RO.of j) m;exact⟨⟨ty,fr,k1.trans e⟩,fun b p hb e=>j b p (k2 b p hb e) e,r⟩
def VF (Shun:Loc→Prop) (ρ:j7) (w:World) (v v':Value):Prop:=VR ρ v v'∨∃C ad,v=IQ v' C∧IU v' ad∧yd Shun ρ w ad C
theorem VF.nd{S S':Loc→Prop}{ρ ρ':j7}{w w':World}{v v':Value}(h:VF S ρ w v v')(l:ρ.le ρ')(k:lG S ρ w S' ρ' w'):VF S' ρ' w' v v':=by
 rcases h with h|⟨C,ad,e,j,m⟩
 ·exact .inl (h.mono l)
 ·exact .inr ⟨C,ad,e,j,m.nd k⟩
theorem VF.vr{S:Loc→Prop}{ρ:j7}{w:World}{v v':Value}(h:VF S ρ w v v')(hm:lu v=false):VR ρ v v':=by
 rcases h with h|⟨C,ad,rfl,_⟩
 ·exact h
 ·cases hm
structure mW (Shun:Loc→Prop) (ρ:j7) (w:World) (xs ys:Array Value):Prop where
 size:xs.size=ys.size
 get:∀(i:Nat) v v',xs[i]?=some v→ys[i]?=some v'→VF Shun ρ w v v'
section
variable {S S':Loc→Prop} {ρ ρ':j7} {w w':World} {xs ys:Array Value}
theorem mW.nd(h:mW S ρ w xs ys)(l:ρ.le ρ')(k:lG S ρ w S' ρ' w'):mW S' ρ' w' xs ys:=⟨h.size,fun i v v' a b=>(h.get i v v' a b).nd l k⟩
theorem mW.of(h:ki ρ xs ys):mW S ρ w xs ys:=⟨h.size,fun i v v' a b=>.inl (h.get i v v' a b)⟩
variable {v:Value}
theorem mW.set(h:mW S ρ w xs ys)(i:Nat){v':Value}(k:VF S ρ w v v'):mW S ρ w (xs.setIfInBounds i v) (ys.setIfInBounds i v'):=by
 refine⟨by simp[h.size],fun j u u' a b=>?_⟩;rw[dx]at a b;rw[←h.size]at b;split at a
 ·rename_i e;rw[dr e]at b;split at a
  ·rename_i m;rw[dr m]at b;cases a;cases b;exact k
  ·cases a
 ·rename_i e;rw[dt e]at b;exact h.get j u u' a b
variable {i:Nat}
theorem mW.at_(h:mW S ρ w xs ys)(e:xs[i]?=some v):∃v',ys[i]?=some v'∧VF S ρ w v v':=by
 have j:i<ys.size:=by have:=(dv.1 e).1;have:=h.size;omega
 exact⟨ys[i],dw j,h.get i _ _ e (dw j)⟩
theorem mW.uq(h:mW S ρ w xs ys)(e:xs[i]?=none):ys[i]?=none:=by
 rw[Array.getElem?_eq_none_iff]at e ⊢;have:=h.size;omega
theorem mW.getD(h:mW S ρ w xs ys)(i:Nat):VF S ρ w (xs.getD i undef) (ys.getD i undef):=by
 simp only[dA]
 cases e:xs[i]? with
 |none=>rw[h.uq e];exact .inl qA
 |some v=>obtain⟨v',j,k⟩:=h.at_ e;rw[j];exact k
theorem mW.yielded(h:mW S ρ w xs ys)(ops:Array Oper):yielded ops xs=yielded ops ys:=by
 funext j;unfold Go.yielded
 cases(ops[j]?).bind (·.dst)with
 |none=>rfl
 |some d =>
  simp only[ed]
  cases e:xs[d]? with
  |none=>rw[h.uq e]
  |some v =>
   obtain⟨v',m,k⟩:=h.at_ e;rw[m];rcases k with k|⟨C,ad,rfl,k|⟨_,_,k⟩,_⟩
   ·cases k<;>first|rfl|(rename_i r;cases v'<;>first|rfl|simp[nC]at r)
   ·subst k;rfl
   ·subst k;rfl
theorem mW.append(h:mW S ρ w xs ys){n9 oa:Array Value}(k:ki ρ n9 oa):mW S ρ w (xs++n9) (ys++oa):=by
 refine⟨by simp[h.size,k.size],fun i u u' a b=>?_⟩;rw[du]at a b;rw[←h.size]at b;split at a
 ·rename_i e;rw[dr e]at b;exact h.get i u u' a b
 ·rename_i e;rw[dt e]at b;exact .inl (k.get _ u u' a b)
def vE (xs:Array Value) (e:Operand→Value):Operand→Value
 | .tmp t=>if lu (xs.getD t undef) then undef else e (.tmp t)
 |x=>e x
def vF (o:Oper) (e:Operand→Value):Bool:=o.op.operands.all fun x=>!lu (e x)
end
structure lD (Shun:Loc→Prop) (ρ:j7) (w:World) (a b:Frame):Prop where
 fn:b.fn=a.fn
 tmps:mW Shun ρ w a.tmps b.tmps
 todo:b.todo=a.todo
 defers:a.defers=[]∧b.defers=[]
 mode:b.mode=a.mode∧(a.mode=.run∨a.mode=.returning)
 kind:a.kind=.normal∧b.kind=.normal
 round:a.roundOf=none∧b.roundOf=none
theorem lD.nd{S S':Loc→Prop}{ρ ρ':j7}{w w':World}{a b:Frame}(h:lD S ρ w a b)(l:ρ.le ρ')(k:lG S ρ w S' ρ' w'):lD S' ρ' w' a b:=⟨h.fn,h.tmps.nd l k,h.todo,h.defers,h.mode,h.kind,h.round⟩
inductive qU (Shun:Loc→Prop) (ρ:j7) (w:World):List Frame→List Frame→Prop
 |nil:qU Shun ρ w [] []
 |cons {x y:Frame} {xs ys:List Frame}:lD Shun ρ w x y→qU Shun ρ w xs ys→qU Shun ρ w (x::xs) (y::ys)
theorem qU.nd{S S':Loc→Prop}{ρ ρ':j7}{w w':World}{x y:List Frame}(h:qU S ρ w x y)(l:ρ.le ρ')(k:lG S ρ w S' ρ' w'):qU S' ρ' w' x y:=by
 induction h with
 |nil=>exact .nil
 |cons h _ e=>exact .cons (h.nd l k) e
theorem lD.eval{a b:Frame}(h:lD S ρ w a b):ER ρ (vE a.tmps a.eval) (vE a.tmps b.eval):=by
 refine⟨fun t=>?_,fun c=>⟨rfl,rfl⟩,fun i=>⟨rfl,rfl⟩⟩;unfold vE;simp only;have:=h.tmps.getD t;split
 ·exact qA
 ·rename_i hm;exact this.vr (by simpa using hm)
theorem Cx{o:Oper}{xs:Array Value}{e g:Operand→Value}(h:∀cs b,o.op≠.select cs b)(he:∀t,e (.tmp t)=xs.getD t undef)(hu:vF o e=true):execOp (vE xs g) o=execOp g o:=by
 refine execOp_congr o h fun x hx=>?_
 have:=dB.1 hu x hx
 cases x with
 |tmp t =>
  rw[he t]at this;unfold vE;simp only;rw[dt (by simpa using this)]
 |_=>rfl
structure pb (P:Program) (Shun:Loc→Prop) (ρ:j7) (cs:List Frame) (fr:Frame) (xs:List Frame) (wS:World) (gs:Array Goroutine) (w:World) (t:Trace) (q:Nat→Nat):Prop where
 main:∃j8 ys,gs[0]?=some (G j8 (ys++cs))∧lD Shun ρ w fr j8∧qU Shun ρ w xs ys
 hr:HR ρ wS w
 leave:Leavers P t gs q
 past:Past Shun w.heap.size t
 ng:sf Shun ρ w
variable (P) in
def ku (cs:List Frame) (Q:Frame→List Frame→World→Prop) (fr:Frame) (xs:List Frame) (wS:World):Prop :=
 ∀Shun ρ gs w sl t q,pb P Shun ρ cs fr xs wS gs w t q →
  ∃N gs' w' kn t' q' tJ ρ' j8 n9 Cy,runNT P N (crowd gs w sl) t=(.next (crowd gs' w' kn),t')∧ρ.le ρ'∧pb P tJ ρ' cs j8 n9 Cy gs' w' t' q'∧Q j8 n9 Cy∧lG Shun ρ w tJ ρ' w'
variable {cs xs:List Frame} {Q:Frame→List Frame→World→Prop} {fr:Frame} {wS:World}
theorem ku.done(h:Q fr xs wS):ku P cs Q fr xs wS :=
 fun Shun ρ gs w sl t q e=>⟨0,gs,w,sl,t,q,Shun,ρ,_,_,_,rfl,j7.le_refl _,e,h,lG.refl _ _ _⟩
theorem ku.bind{I:Frame→List Frame→World→Prop}(h:ku P cs Q fr xs wS)(k:∀fr xs wS,Q fr xs wS→ku P cs I fr xs wS):ku P cs I fr xs wS:=by
 intro Shun ρ gs w sl t q J;obtain⟨N,m,w1,r,t1,M,e,z,O,R,U,V,hle,W,X,Y⟩:=h Shun ρ gs w sl t q J;obtain⟨N',A,w2,C,t2,Z,j,E,fr2,F,G,k1,H,k2,k3,k4⟩:=k _ _ _ X e z m w1 r t1 M W;refine⟨N+N',A,w2,C,t2,Z,j,E,fr2,F,G,?_,j7.le_trans hle H,k2,k3,Y.trans k4⟩;rw[eQ,V];exact k1
theorem ku.ctl{fr2:Frame}(h:∀S ρ v j8 ys w,lD S ρ v fr j8→∃j,stepG P true (G j8 ys) w=.go (G j ys) w #[]∧lD S ρ v fr2 j)(k:ku P cs Q fr2 xs wS):ku P cs Q fr xs wS:=by
 refine ku.bind (Q:=fun f x v=>f=fr2∧x=xs∧v=wS) (fun Shun ρ gs w sl t q m=>?_) (by rintro _ _ _ ⟨rfl,rfl,rfl⟩;exact k);obtain⟨j8,ys,z,A,hx⟩:=m.main;obtain⟨N,gs',g',w',kn,t',q',r1,r2,C,E,F,j,rfl,r,d,rfl⟩:=uD (P:=P) (Shun:=Shun) (Post:=fun g' w'=>∃j,g'=G j (ys++cs)∧lD Shun ρ w fr2 j∧∃d,w'=w.at d) (w:=w) (g:=G j8 (ys++cs)) rfl (fun d=>by
  obtain⟨j,e,r⟩:=h Shun ρ w j8 (ys++cs) (w.at d) A;exact⟨_,_,_,e,by simp,dD _,j,rfl,r,d,rfl⟩) gs sl t q z m.leave m.past
 exact⟨N,gs',w.at d,kn,t',q',Shun,ρ,fr2,xs,wS,r1,j7.le_refl _,⟨⟨j,ys,C,r.nd (j7.le_refl _) (lG.at _ _ _ d),hx.nd (j7.le_refl _) (lG.at _ _ _ d)⟩,⟨m.hr.obj,m.hr.inj,m.hr.base,m.hr.os,m.hr.sync⟩,E,F,⟨m.ng.cell,m.ng.obj,m.ng.low,m.ng.out⟩⟩,⟨rfl,rfl,rfl⟩,lG.at _ _ _ d⟩
end
end
section
open Go.Conc
open Go.ConcN (sumTo upd sumTo_upd upd_ne upd_same)
variable [Scope]
section
variable {P:Program}
end
end
section
open Go.Conc
def again (w:World) (T:Tape):World:={ w with tape:=T,drawn:=0 }
section
variable {P:Program} {Cz:Frame→World→(Frame→World→Prop)→Prop}
variable (P Cz) in
end
variable [Scope]
theorem HR.lZ{ρ:j7}{w v w':World}(h:HR ρ w w')(e:v.heap=w.heap)(j:v.os=w.os):HR ρ v w' :=
 ⟨by rw[e];exact h.obj,h.inj,by rw[e];exact h.base,by rw[j];exact h.os,by rw[e];exact h.sync⟩
variable (P:Program) in
section
variable {P:Program} {Cz:Frame→World→(Frame→World→Prop)→Prop}
end
end
section
open Go.Conc
variable [Scope]
section
variable {P:Program}
variable {S:Loc→Prop} {v:World} {ρ:j7} {b j8:Frame} {a:Act}
theorem lD.at_{todo:List Item}(h:lD S ρ v (b.at a todo) j8):j8=j8.at ⟨j8.tmps,j8.defers⟩ todo:=by
 obtain⟨fn,tmps,r,defers,mode,kind,ro⟩:=j8;have e:=h.todo;have j:=h.mode.1;have m:=h.round.2;simp only[Frame.at]at e j m;subst e j m;rfl
theorem zQ[kD P][Bodies P]{o:Oper}(r:oB P o=true){fr:Frame}(hu:vF o fr.eval=true)(J:lD S ρ v fr j8){wS w:World}(z:HR ρ wS w)(d:Nat){nx:Next}{w2:World}(hr:(execOp fr.eval o).run P (again wS fun j q=>w.tape (d+j) q)=.ok nx w2):∃h wB es ρ',(execOp j8.eval o).runT P (w.at d) #[]=(.ok h wB,es)∧Grow ρ w ρ'∧NR ρ' nx h∧HR ρ' w2 wB∧w.heap.size≤wB.heap.size∧(∀e∈es,nU ρ' e)∧Kept ρ (w.at d) wB:=by
 have C:HR ρ (again wS fun j q=>w.tape (d+j) q) (w.at d):=⟨z.obj,z.inj,z.base,z.os,z.sync⟩;have M:TA ⟨none,d,fun j q=>w.tape (d+j) q⟩ (again wS fun j q=>w.tape (d+j) q) (w.at d):=by
  refine⟨?_,rfl,fun j q _=>?_⟩
  ·show(d:Int)=(0:Nat)+(d:Int);omega
  ·show w.tape (d+j) q=w.tape (d+(0+j)) q;rw[dG]
 have m:∀cs b,o.op≠.select cs b:=fun cs b e=>by simp[oB,e]at r
 have A:=Cn (P:=P) o r J.eval;rw[Cx m (fun t=>rfl) hu,Cx m (fun t=>rfl) hu]at A;have G:=vu A _ _ #[] C M;rw[hr]at G;obtain⟨h,wB,new,ρ',e,H,N,E,_,I,F⟩:=G (fun l O=>by cases O);exact⟨h,wB,#[]++new,ρ',e,⟨H.le,H.new⟩,N,E,I.size,by simpa using F,I⟩
theorem lD.CE{x:World}{ops:Array Oper}{i:Nat}{l:List Nat}{k:List Item}(h:lD S ρ x (b.at a (.inRegion ops (i::l)::k)) j8){v v':Value}(m:VF S ρ x v v'):lD S ρ x ((b.at a (.inRegion ops (i::l)::k)).finish v) (j8.finish v'):=by
 have e:=h.at_;have j:=h.tmps;rw[e,ft,ft];have hd:=h.defers;refine⟨h.fn,?_,rfl,?_,⟨rfl,.inl rfl⟩,h.kind,rfl,rfl⟩
 ·cases(ops[i]?).bind (·.dst)with
  |none=>exact j
  |some d=>exact mW.set j d m
 ·cases(ops[i]?).bind (·.dst)<;>exact hd
theorem lD.finish{S:Loc→Prop}{x:World}{ρ:j7}{b j8:Frame}{a:Act}{ops:Array Oper}{i:Nat}{l:List Nat}{k:List Item}(h:lD S ρ x (b.at a (.inRegion ops (i::l)::k)) j8){v v':Value}(e:VR ρ v v'):lD S ρ x ((b.at a (.inRegion ops (i::l)::k)).finish v) (j8.finish v'):=h.CE (.inl e)
theorem ku.IV[kD P][Bodies P]{cs:List Frame}{Q:Frame→List Frame→World→Prop}{b:Frame}{a:Act}{ops:Array Oper}{i:Nat}{l:List Nat}{k:List Item}{xs:List Frame}{wS:World}{o:Oper}(ho:ops[i]?=some o)(hw:Region.wanted o (yielded ops a.tmps)=true)(O:oB P o=true)(hu:vF o a.eval=true)(Y:Value→World→Prop)(hr:∀T,∃v w2 v2,(execOp a.eval o).run P (again wS T)=.ok (.value v) w2∧(v2:World).heap=w2.heap∧v2.os=w2.os∧Y v v2)(hk:∀v v2,Y v v2→ku P cs Q (b.at (a.put o.dst v) (.inRegion ops l::k)) xs v2):ku P cs Q (b.at a (.inRegion ops (i::l)::k)) xs wS:=by
 refine ku.bind (Q:=fun f x v2=>∃v,f=b.at (a.put o.dst v) (.inRegion ops l::k)∧x=xs∧Y v v2) (fun Shun ρ gs w sl t q z=>?_) (by rintro _ _ _ ⟨v,rfl,rfl,A⟩;exact hk _ _ A);obtain⟨j8,ys,h0,C,hx⟩:=z.main;have E:(b.at a (.inRegion ops (i::l)::k)).eval=a.eval:=fv b a _;have F:∀v,(b.at a (.inRegion ops (i::l)::k)).finish v=b.at (a.put o.dst v) (.inRegion ops l::k):=fun v=>by rw[ft,ho];rfl
 obtain⟨N,gs',g',w',kn,t',q',r1,r2,r3,r4,r5,ρ',v,v2,v',rfl,m,h,R,A,U,r⟩:=uD (P:=P) (Shun:=Shun) (w:=w) (g:=G j8 (ys++cs)) (Post:=fun g' w'=>∃ρ' v v2 v',g'=G (j8.finish v') (ys++cs)∧Grow ρ w ρ'∧HR ρ' v2 w'∧VR ρ' v v'∧Y v v2∧w.heap.size≤w'.heap.size∧lG Shun ρ w Shun ρ' w') rfl (fun d=>by
  obtain⟨v,w2,v2,H,e1,e2,A⟩:=hr fun j q=>w.tape (d+j) q
  obtain⟨ab,wB,es,ρ',I,m,hn,h,hsz,V,W⟩:=zQ O (by rw[E];exact hu) C z.hr d (nx:=.value v) (w2:=w2) (by rw[E];exact H)
  cases hn with
  | @value _ v' R =>
   refine⟨G (j8.finish v') (ys++cs),wB,seen P j8.fn es++#[],?_,fun e he=>?_,hsz,ρ',v,v2,v',rfl,m,h.lZ e1 e2,R,A,hsz,lG.kept W m rfl rfl⟩
   ·have e:=C.at_;have X:yielded ops j8.tmps=yielded ops a.tmps:=(C.tmps.yielded ops).symm;have J:=stepG_op (P:=P) (b:=j8) (a:=⟨j8.tmps,j8.defers⟩) (k:=k) (cs:=ys++cs) (w:=w.at d) (i:=i) (rest:=l) ho (by rw[X];exact hw);rw[←e]at J;have M:j8.eval=(Act.mk j8.tmps j8.defers).eval:=by
     have:=fv j8 ⟨j8.tmps,j8.defers⟩ (.inRegion ops (i::l)::k);rw[←e]at this;exact this
    have Z:(j8.kind == CallKind.early)=false:=by rw[C.kind.2];rfl
    show stepG P true { frame:=j8,callers:=ys++cs,status:=.running,dying:=none } (w.at d)=_;rw[J,←M];simp only[stepG.apply,dn,I,Z,dL,dp,GStep.after];rfl
   ·simp only[fq]at he;exact wM (z.ng.grow m hsz) h (V e (se he))) gs sl t q h0 z.leave z.past
 have aa:=(C.nd m.le r).finish R;exact⟨N,gs',w',kn,t',q',Shun,ρ',(b.at a (.inRegion ops (i::l)::k)).finish v,xs,v2,r1,m.le,⟨⟨_,ys,r3,aa,hx.nd m.le r⟩,h,r4,r5,z.ng.grow m U⟩,⟨v,F v,rfl,A⟩,r⟩
theorem ku.IW [kD P] [Bodies P] {cs:List Frame} {Q:Frame→List Frame→World→Prop} {b:Frame} {a:Act} {ops:Array Oper} {i:Nat} {l:List Nat} {k:List Item} {xs:List Frame} {wS:World} {o:Oper} (ho:ops[i]? = some o) (hw:Region.wanted o (yielded ops a.tmps)=true) (tK:oB P o=true) (hu:vF o a.eval=true)
    (Y:World→Prop) (hr:∀ T,∃ w2 v2,(execOp a.eval o).run P (again wS T)=.ok .skip w2∧(v2:World).heap=w2.heap∧v2.os=w2.os∧Y v2) (hk:∀ v2,Y v2→ku P cs Q (b.at (a.put o.dst undef) (.inRegion ops l::k)) xs v2) :
    ku P cs Q (b.at a (.inRegion ops (i::l)::k)) xs wS:=by
  refine ku.bind (Q:=fun f x v2=>f=b.at (a.put o.dst undef) (.inRegion ops l::k)∧x=xs∧Y v2) (fun Shun ρ gs w sl t q hs=>?_) (by rintro _ _ _ ⟨rfl,rfl,hy⟩;exact hk _ hy)
  obtain ⟨j8,ys,h0,hf,hx⟩:=hs.main
  have CG:(b.at a (.inRegion ops (i::l)::k)).eval=a.eval:=fv b a _
  have IX:∀ v,(b.at a (.inRegion ops (i::l)::k)).finish v=b.at (a.put o.dst v) (.inRegion ops l::k):=fun v=>by rw [ft,ho];rfl
  obtain ⟨N,gs',g',w',kn,t',q',r1,r2,r3,r4,r5,ρ',v2,rfl,hg,ux,hy,hs2,zR⟩:=uD (P:=P) (Shun:=Shun) (w:=w) (g:=G j8 (ys++cs)) (Post:=fun g' w'=>∃ ρ' v2,g'=G (j8.finish undef) (ys++cs)∧Grow ρ w ρ'∧HR ρ' v2 w'∧Y v2∧w.heap.size≤w'.heap.size∧lG Shun ρ w Shun ρ' w') rfl (fun d=>by
    obtain ⟨w2,v2,IY,e1,e2,hy⟩:=hr fun j q=>w.tape (d+j) q
    obtain ⟨UX,wB,es,ρ',IZ,hg,hn,ux,hsz,I0,I1⟩:=zQ tK (by rw [CG];exact hu) hf hs.hr d (nx:=.skip) (w2:=w2) (by rw [CG];exact IY)
    cases hn with
    | skip =>
      refine ⟨G (j8.finish undef) (ys++cs),wB,seen P j8.fn es++#[],?_,fun e he=>?_,hsz,ρ',v2,rfl,hg,ux.lZ e1 e2,hy,hsz,lG.kept I1 hg rfl rfl⟩
      · have e:=hf.at_
        have I2:yielded ops j8.tmps=yielded ops a.tmps:=(hf.tmps.yielded ops).symm
        have CH:=stepG_op (P:=P) (b:=j8) (a:=⟨j8.tmps,j8.defers⟩) (k:=k) (cs:=ys++cs) (w:=w.at d) (i:=i) (rest:=l) ho (by rw [I2];exact hw)
        rw [←e] at CH
        have I3:j8.eval=(Act.mk j8.tmps j8.defers).eval:=by
          have:=fv j8 ⟨j8.tmps,j8.defers⟩ (.inRegion ops (i::l)::k)
          rw [←e] at this;exact this
        have I4:(j8.kind == CallKind.early)=false:=by rw [hf.kind.2];rfl
        show stepG P true { frame:=j8,callers:=ys++cs,status:=.running,dying:=none } (w.at d)=_
        rw [CH,←I3]
        simp only [stepG.apply,dn,IZ,I4,dL,dp,GStep.after]
        rfl
      · simp only [fq] at he
        exact wM (hs.ng.grow hg hsz) ux (I0 e (se he))) gs sl t q h0 hs.leave hs.past
  have I5:=(hf.nd hg.le zR).finish (qA (ρ:=ρ'))
  exact ⟨N,gs',w',kn,t',q',Shun,ρ',(b.at a (.inRegion ops (i::l)::k)).finish undef,xs,v2,r1,hg.le,⟨⟨_,ys,r3,I5,hx.nd hg.le zR⟩,ux,r4,r5,hs.ng.grow hg hs2⟩,⟨IX undef,rfl,hy⟩,zR⟩
theorem ku.I6[kD P][lV P]{cs:List Frame}{Q:Frame→List Frame→World→Prop}{b:Frame}{a:Act}{ops:Array Oper}{i:Nat}{l:List Nat}{k:List Item}{xs:List Frame}{wS:World}{o:Oper}(ho:ops[i]?=some o)(hw:Region.wanted o (yielded ops a.tmps)=true)(W:oB P o=true)(hu:vF o a.eval=true)(R:Value→World→Prop)(hr:∀T,∃f args w2 v2,(execOp a.eval o).run P (again wS T)=.ok (.enter f args) w2∧(v2:World).heap=w2.heap∧v2.os=w2.os∧∀X,Calls P f args (again v2 X) fun e w'=>∃v,e=.returned v∧R v w')(hk:∀v w2 v2,R v w2→(v2:World).heap=w2.heap→v2.os=w2.os→ku P cs Q (b.at (a.put o.dst v) (.inRegion ops l::k)) xs v2):ku P cs Q (b.at a (.inRegion ops (i::l)::k)) xs wS:=by
 refine ku.bind (Q:=fun f x v2=>∃v,f=b.at (a.put o.dst v) (.inRegion ops l::k)∧x=xs∧R v v2) (fun Shun ρ gs w sl t q z=>?_) (by rintro _ _ _ ⟨v,rfl,rfl,hy⟩;exact hk _ _ _ hy rfl rfl);obtain⟨j8,ys,h0,F,hx⟩:=z.main;have H:(b.at a (.inRegion ops (i::l)::k)).eval=a.eval:=fv b a _;have I:∀v,(b.at a (.inRegion ops (i::l)::k)).finish v=b.at (a.put o.dst v) (.inRegion ops l::k):=fun v=>by rw[ft,ho];rfl
 obtain⟨N,ak,g1,w1,Y,t1,q1,r1,r2,r3,r4,r5,al,f,args,mg,v2,A,rfl,C,r,h,Z,J,aa⟩:=uD (P:=P) (Shun:=Shun) (w:=w) (g:=G j8 (ys++cs)) (Post:=fun g' w'=>∃ρ' f args mg v2,Scope.ok f=true∧g'=G (Frame.enter P f mg .normal) (j8::(ys++cs))∧Grow ρ w ρ'∧HR ρ' v2 w'∧ki ρ' args mg∧(∀X,Calls P f args (again v2 X) fun e w'=>∃v,e=.returned v∧R v w')∧w.heap.size≤w'.heap.size∧lG Shun ρ w Shun ρ' w') rfl (fun d=>by
  obtain⟨f,args,w2,v2,M,e1,e2,Z⟩:=hr fun j q=>w.tape (d+j) q
  obtain⟨am,wB,es,ρ',O,C,hn,r,hsz,ab,ad⟩:=zQ W (by rw[H];exact hu) F z.hr d (nx:=.enter f args) (w2:=w2) (by rw[H];exact M)
  cases hn with
  | @enter _ _ mg A h =>
   refine⟨G (Frame.enter P f mg .normal) (j8::(ys++cs)),wB,seen P j8.fn es++#[],?_,fun e he=>?_,hsz,ρ',f,args,mg,v2,A,rfl,C,r.lZ e1 e2,h,Z,hsz,lG.kept ad C rfl rfl⟩
   ·have e:=F.at_;have ae:yielded ops j8.tmps=yielded ops a.tmps:=(F.tmps.yielded ops).symm;have U:=stepG_op (P:=P) (b:=j8) (a:=⟨j8.tmps,j8.defers⟩) (k:=k) (cs:=ys++cs) (w:=w.at d) (i:=i) (rest:=l) ho (by rw[ae];exact hw);rw[←e]at U;have V:j8.eval=(Act.mk j8.tmps j8.defers).eval:=by
     have:=fv j8 ⟨j8.tmps,j8.defers⟩ (.inRegion ops (i::l)::k);rw[←e]at this;exact this
    have af:(j8.kind == CallKind.early)=false:=by rw[F.kind.2];rfl
    have ag:j8.todo=.inRegion ops (i::l)::k:=F.todo;show stepG P true { frame:=j8,callers:=ys++cs,status:=.running,dying:=none } (w.at d)=_;rw[U,←V];simp only[stepG.apply,dn,O,af,dL,dp,GStep.after,ag];rfl
   ·simp only[fq]at he;exact wM (z.ng.grow C hsz) r (ab e (se he))) gs sl t q h0 z.leave z.past
 obtain⟨N2,gs',w',kn,t',q',E,v,v',ah,k1,k2,k3,k4,k5,k6,k7,k8,k9,ai⟩:=IP A h r r3 r4 r5 (z.ng.grow C J) (sl:=Y) Z;have hle:ρ.le E:=j7.le_trans C.le k6.le;have m:lG Shun ρ w Shun E w':=aa.trans (lG.kept k7 k6 rfl rfl);have aj:=(F.nd hle m).finish k9;refine⟨N+N2,gs',w',kn,t',q',Shun,E,(b.at a (.inRegion ops (i::l)::k)).finish v,xs,ah,?_,hle,⟨⟨_,ys,k3,aj,hx.nd hle m⟩,k8,k4,k5,(z.ng.grow C J).grow k6 k7.size⟩,⟨v,I v,rfl,ai⟩,m⟩;rw[eQ,r1];exact k1
end
end
section
open Go.Conc
variable [Scope]
section
variable {P:Program} {cs:List Frame} {Q:Frame→List Frame→World→Prop} {b:Frame} {a:Act} {xs:List Frame} {wS:World}
variable {S:Loc→Prop} {x:World} {ρ:j7} {j8:Frame} {todo wN:List Item}
theorem lD.vD(h:lD S ρ x (b.at a todo) j8):lD S ρ x (b.at a wN) (j8.at ⟨j8.tmps,j8.defers⟩ wN) :=
 ⟨h.fn,h.tmps,rfl,h.defers,⟨rfl,.inl rfl⟩,h.kind,rfl,rfl⟩
theorem lD.get{S:Loc→Prop}{x:World}{ρ:j7}{fr j8:Frame}(h:lD S ρ x fr j8){c:Operand}(j:lN c=true)(hm:lu (fr.eval c)=false):VR ρ (fr.eval c) (j8.eval c):=by
 have:=h.eval.get j
 cases c with
 |tmp t =>
  have e:lu (fr.tmps.getD t undef)=false:=hm;unfold vE at this;simp only[e,dL,dp]at this;exact this
 |_=>exact this
theorem lD.args{fr:Frame}(h:lD S ρ x fr j8){xs:Array Operand}(hx:xs.all lN=true)(hm:xs.all (fun c=>!lu (fr.eval c))=true):ki ρ (xs.map fr.eval) (xs.map j8.eval):=by
 refine⟨by simp,fun i v v' a b=>?_⟩;rw[dV]at a b
 cases e:xs[i]? with
 |none=>rw[e]at a;cases a
 |some c =>
  rw[e]at a b
  cases a;cases b
  have j:=dC e;exact h.get (dB.1 hx c j) (by simpa using dB.1 hm c j)
theorem ku.move(h:∀(b':Frame)(a':Act)(ys:List Frame)(w:World),stepG P true (G (b'.at a' todo) ys) w=.go (G (b'.at a' wN) ys) w)(k:ku P cs Q (b.at a wN) xs wS):ku P cs Q (b.at a todo) xs wS:=by
 refine ku.ctl (fun S ρ u j8 ys w j=>⟨j8.at ⟨j8.tmps,j8.defers⟩ wN,?_,j.vD⟩) k;have e:=j.at_;have:=h j8 ⟨j8.tmps,j8.defers⟩ ys w;rw[←e]at this;exact this
variable {y:Code} {k:List Item}
theorem ku.cond{c:Operand}{x:Code}{t:Bool}(z:lN c=true)(r:a.eval c=.bool t)(h:ku P cs Q (b.at a (.code (if t then x else y)::k)) xs wS):ku P cs Q (b.at a (.code (.cond c x y)::k)) xs wS:=by
 refine ku.ctl (fun S ρ u j8 ys w m=>⟨j8.at ⟨j8.tmps,j8.defers⟩ (.code (if t then x else y)::k),?_,m.vD⟩) h;have e:=m.at_;have j:=m.get z (by rw[Frame.eval_at,r];rfl);rw[Frame.eval_at,r]at j;have hb:(Act.mk j8.tmps j8.defers).eval c=.bool t:=by
  rw[e,Frame.eval_at]at j;generalize(Act.mk j8.tmps j8.defers).eval c=v at j
  cases j;rfl
 have:=fw (P:=P) (main:=true) (b:=j8) (k:=k) (cs:=ys) (w:=w) (x:=x) (y:=y) hb;rw[←e]at this;exact this
variable {ops:Array Oper} {i:Nat} {l:List Nat} {o:Oper}
theorem ku.skip(m:ops[i]?=some o)(hw:Region.wanted o (yielded ops a.tmps)=false)(h:ku P cs Q (b.at (a.put o.dst undef) (.inRegion ops l::k)) xs wS):ku P cs Q (b.at a (.inRegion ops (i::l)::k)) xs wS:=by
 have j:(b.at a (.inRegion ops (i::l)::k)).finish undef=b.at (a.put o.dst undef) (.inRegion ops l::k):=by rw[ft,m];rfl
 refine ku.ctl (fun S ρ u j8 ys w r=>⟨j8.finish undef,?_,by rw[←j];exact r.finish qA⟩) h;have e:=r.at_;have z:yielded ops j8.tmps=yielded ops a.tmps:=(r.tmps.yielded ops).symm;have:=stepG_unwanted (P:=P) (main:=true) (b:=j8) (a:=⟨j8.tmps,j8.defers⟩) (k:=k) (cs:=ys) (w:=w) (rest:=l) m (by rw[z];exact hw);rw[←e]at this;rw[this];have A:j8.finish undef=j8.at (Act.put ⟨j8.tmps,j8.defers⟩ o.dst undef) (.inRegion ops l::k):=by
  have:=ft j8 ⟨j8.tmps,j8.defers⟩ ops i l k undef;rw[←e,m]at this;exact this
 rw[A]
theorem ku.seq{x:Code}(h:ku P cs Q (b.at a (.code x::.code y::k)) xs wS):ku P cs Q (b.at a (.code (.seq x y)::k)) xs wS:=ku.move (fun _ _ _ _=>stepG_seq) h
theorem ku.pd(h:ku P cs Q (b.at a k) xs wS):ku P cs Q (b.at a (.code .skip::k)) xs wS:=ku.move (fun _ _ _ _=>stepG_skip) h
variable {id:Nat}
theorem ku.inBlock(h:ku P cs Q (b.at a k) xs wS):ku P cs Q (b.at a (.inBlock id::k)) xs wS:=ku.move (fun _ _ _ _=>stepG_inBlock) h
theorem ku.block{id:Nat}{c:Code}{k:List Item}(h:ku P cs Q (b.at a (.code c::.inBlock id::k)) xs wS):ku P cs Q (b.at a (.code (.block id c)::k)) xs wS:=ku.move (fun _ _ _ _=>stepG_block) h
variable {c:Code}
theorem ku.loop(h:ku P cs Q (b.at a (.code c::.inLoop c::k)) xs wS):ku P cs Q (b.at a (.code (.loop c)::k)) xs wS:=ku.move (fun _ _ _ _=>stepG_loop) h
theorem ku.inLoop(h:ku P cs Q (b.at a (.code c::.inLoop c::k)) xs wS):ku P cs Q (b.at a (.inLoop c::k)) xs wS:=ku.move (fun _ _ _ _=>stepG_inLoop) h
theorem ku.exit{k':List Item}(e:exitTo id k=some k')(h:ku P cs Q (b.at a k') xs wS):ku P cs Q (b.at a (.code (.exit id)::k)) xs wS:=ku.move (fun _ _ _ _=>stepG_exit e) h
theorem ku.region(h:ku P cs Q (b.at a (.inRegion ops (List.range ops.size)::k)) xs wS):ku P cs Q (b.at a (.code (.region id ops false)::k)) xs wS:=ku.move (fun _ _ _ _=>fy) h
theorem ku.kT(h:ku P cs Q (b.at a k) xs wS):ku P cs Q (b.at a (.inRegion ops []::k)) xs wS:=ku.move (fun _ _ _ _=>stepG_region_end) h
theorem ku.ret{k:List Item}(h:ku P cs Q { b.at a (.code .ret::k)with mode:=.returning } xs wS):ku P cs Q (b.at a (.code .ret::k)) xs wS:=by
 refine ku.ctl (fr2:={ b.at a (.code .ret::k)with mode:=.returning }) (fun S ρ u j8 ys w j=>⟨{ j8.at ⟨j8.tmps,j8.defers⟩ (.code .ret::k)with mode:=.returning },?_,⟨j.fn,j.tmps,rfl,j.defers,⟨rfl,.inr rfl⟩,j.kind,rfl,rfl⟩⟩) h;have e:=j.at_;have:=stepG_ret' (P:=P) (main:=true) (b:=j8) (a:=⟨j8.tmps,j8.defers⟩) (k:=k) (cs:=ys) (w:=w);rw[←e]at this;rw[←e];exact this
theorem ku.wO{f:FuncId}{fn:Func}{args:Array Operand}{F:Array TypeId}(O:ops[i]?=some o)(hw:Region.wanted o (yielded ops a.tmps)=true)(H:o.op=.call { callee:=.value (.func f),args,argTypes:=F })(r:args.all lN=true)(hma:args.all (fun c=>!lu (a.eval c))=true)(R:P.funcs[f]?=some fn)(z:(fn.name == "runtime.NumGoroutine")=false)(hb:fn.body=some c)(h:ku P cs Q ((base f).at { tmps:=args.map a.eval++Array.replicate (fn.ntmps-(args.map a.eval).size) undef,defers:=[] } [.code c]) (b.at a (.inRegion ops (i::l)::k)::xs) wS):ku P cs Q (b.at a (.inRegion ops (i::l)::k)) xs wS:=by
 refine ku.bind (Q:=fun fr x v=>fr=(base f).at { tmps:=args.map a.eval++Array.replicate (fn.ntmps-(args.map a.eval).size) undef,defers:=[] } [.code c]∧x=b.at a (.inRegion ops (i::l)::k)::xs∧v=wS) (fun Shun ρ gs w sl t q j=>?_) (by rintro _ _ _ ⟨rfl,rfl,rfl⟩;exact h);obtain⟨j8,ys,U,m,hx⟩:=j.main;have e:=m.at_;have I:yielded ops j8.tmps=yielded ops a.tmps:=(m.tmps.yielded ops).symm;have J:j8.kind≠.early:=by rw[m.kind.2];simp
 have V:ki ρ (args.map a.eval) (args.map (Act.mk j8.tmps j8.defers).eval):=by
  have:=m.args r (by rw[show(b.at a (.inRegion ops (i::l)::k)).eval=a.eval from fv b a _];exact hma);rw[show(b.at a (.inRegion ops (i::l)::k)).eval=a.eval from fv b a _]at this;have W:j8.eval=(Act.mk j8.tmps j8.defers).eval:=by
   have:=fv j8 ⟨j8.tmps,j8.defers⟩ (.inRegion ops (i::l)::k);rw[←e]at this;exact this
  rw[W]at this;exact this
 obtain⟨N,gs',g',w',kn,t',q',r1,r2,X,Y,Z,rfl,d,rfl⟩:=uD (P:=P) (Shun:=Shun) (w:=w) (g:=G j8 (ys++cs)) (Post:=fun g' w'=>g'=G ((base f).at { tmps:=args.map (Act.mk j8.tmps j8.defers).eval++Array.replicate (fn.ntmps-(args.map (Act.mk j8.tmps j8.defers).eval).size) undef,defers:=[] } [.code c]) (j8::(ys++cs))∧∃d,w'=w.at d) rfl (fun d=>by
  have A:=fz (P:=P) (main:=true) (b:=j8) (a:=⟨j8.tmps,j8.defers⟩) (k:=k) (cs:=ys++cs) (w:=w.at d) (rest:=l) (K:=fun M w1 C=>M=G ((base f).at { tmps:=args.map (Act.mk j8.tmps j8.defers).eval++Array.replicate (fn.ntmps-(args.map (Act.mk j8.tmps j8.defers).eval).size) undef,defers:=[] } [.code c]) (j8::(ys++cs))∧w1=w.at d∧C=#[]) O (by rw[I];exact hw) J H R z hb ⟨by rw[←e],rfl,rfl⟩;rw[←e]at A
  cases E:stepG P true (G j8 (ys++cs)) (w.at d)with
  |go M w1 C =>
   rw[E,fA]at A;obtain⟨rfl,rfl,rfl⟩:=A;exact⟨_,_,_,rfl,by simp,dD _,rfl,d,rfl⟩
  |_=>rw[E]at A;exact A.elim) gs sl t q U j.leave j.past
 refine⟨N,gs',w.at d,kn,t',q',Shun,ρ,(base f).at { tmps:=args.map a.eval++Array.replicate (fn.ntmps-(args.map a.eval).size) undef,defers:=[] } [.code c],b.at a (.inRegion ops (i::l)::k)::xs,wS,r1,j7.le_refl _,⟨⟨_,j8::ys,X,⟨rfl,?_,rfl,⟨rfl,rfl⟩,⟨rfl,.inl rfl⟩,⟨rfl,rfl⟩,rfl,rfl⟩,.cons (m.nd (j7.le_refl _) (lG.at _ _ _ d)) (hx.nd (j7.le_refl _) (lG.at _ _ _ d))⟩,⟨j.hr.obj,j.hr.inj,j.hr.base,j.hr.os,j.hr.sync⟩,Y,Z,⟨j.ng.cell,j.ng.obj,j.ng.low,j.ng.out⟩⟩,⟨rfl,rfl,rfl⟩,lG.at _ _ _ d⟩;refine mW.of ?_;have hsz:(args.map (Act.mk j8.tmps j8.defers).eval).size=(args.map a.eval).size:=by simp
 simp only[Frame.at,hsz];exact V.append (ki.replicate _ qA)
theorem ku.leave{todo:List Item}{fn:Func}{tr:Tmp}{c:Frame}{A:List Frame}(hd:a.defers=[])(R:P.funcs[b.fn]?=some fn)(r:fn.results=#[.tmp tr]){U:Frame}{ac:Act}{ops:Array Oper}{i:Nat}{l:List Nat}{k:List Item}(V:c=U.at ac (.inRegion ops (i::l)::k))(h:ku P cs Q (c.finish (a.tmps.getD tr undef)) A wS):ku P cs Q { b.at a todo with mode:=.returning } (c::A) wS:=by
 refine ku.bind (Q:=fun fr x v=>fr=c.finish (a.tmps.getD tr undef)∧x=A∧v=wS) (fun Shun ρ gs w sl t q m=>?_) (by rintro _ _ _ ⟨rfl,rfl,rfl⟩;exact h);obtain⟨j8,ys,W,j,hx⟩:=m.main
 cases hx with
 | @cons _ c' _ oa C E =>
  obtain⟨N,gs',g',w',kn,t',q',r1,r2,X,Y,Z,rfl,d,rfl⟩:=uD (P:=P) (Shun:=Shun) (w:=w) (g:=G j8 (c'::oa++cs)) (Post:=fun g' w'=>g'=G (c'.finish (j8.tmps.getD tr undef)) (oa++cs)∧∃d,w'=w.at d) rfl (fun d=>by
   have e:j8={ j8.at ⟨j8.tmps,j8.defers⟩ todo with mode:=.returning }:=by
    obtain⟨aa,F,ab,z,H,I,ad⟩:=j8;have J:=j.todo;have M:=j.mode.1;have O:=j.round.2;simp only[Frame.at]at J M O;subst J M O;rfl
   have:=stepG_leave (P:=P) (main:=true) (b:=j8) (a:=⟨j8.tmps,j8.defers⟩) (todo:=todo) (c:=c') (cs:=oa++cs) (w:=w.at d) j.kind.2 j.defers.2 (fn:=fn) (by rw[show j8.fn=b.fn from j.fn];exact R) (fB r _ P _) (fC r _ _);rw[←e]at this;exact⟨_,_,_,this,by simp,dD _,rfl,d,rfl⟩) gs sl t q W m.leave m.past
  subst V;exact⟨N,gs',w.at d,kn,t',q',Shun,ρ,_,_,_,r1,j7.le_refl _,⟨⟨_,oa,X,(C.nd (j7.le_refl _) (lG.at _ _ _ d)).CE ((j.tmps.getD tr).nd (j7.le_refl _) (lG.at _ _ _ d)),E.nd (j7.le_refl _) (lG.at _ _ _ d)⟩,⟨m.hr.obj,m.hr.inj,m.hr.base,m.hr.os,m.hr.sync⟩,Y,Z,⟨m.ng.cell,m.ng.obj,m.ng.low,m.ng.out⟩⟩,⟨rfl,rfl,rfl⟩,lG.at _ _ _ d⟩
end
end
def zS {α:Type} (o:Array (Nat×ByteArray)):Result α→Prop
 | .ok _ w=>w.output=o
 | .halt _ w=>w.output=o
variable {α:Type}
theorem I7(a:Ask α):∀w:World,(w.ask a).2.output=w.output:=by
 induction a with
 |done a=>intro w;rfl
 |ask e range k h =>
  intro w;unfold World.ask;dsimp only;split
  ·exact h _ _
  ·exact(h _ _).trans rfl
theorem I8(w:World)(c:Sys):(w.sys c).2.output=w.output:=by
 have:=I7 (Kernel.perform c w.os) w;unfold World.sys;split
 ·rfl
 ·rename_i h;rw[h]at this;exact this
variable {p:Program} {w w':World} {v:Value} {t:Bool} {l:List Addr}
theorem I9{at_:Addr}{u:TypeId}{k:Addr}(h:w.viewStore p at_ u k v t=.ok (w',l)):w'.output=w.output:=by
 unfold World.viewStore at h;simp only[bind,Except.bind,pure,Except.pure]at h;split at h
 ·cases h
 ·split at h
  ·cases h
  ·split at h
   ·split at h
    ·cases h
    ·split at h
     ·cases h
     ·simp only[fD,eG]at h;rw[←h.1]
   ·cases h
theorem Ja{a:Addr}(h:w.farStore p a v t=.ok (w',l)):w'.output=w.output:=by
 unfold World.farStore at h;split at h
 ·split at h
  ·rename_i r hr;simp only[fD]at h;subst h;exact I9 hr
  ·cases h
 ·cases h
theorem Jb(w:World)(a:Addr)(n:Nat):(w.freeze a n).output=w.output:=by
 unfold World.freeze;split<;>rfl
theorem zT(p:Program)(s:Sem α):∀w:World,zS w.output (s.run p w):=by
 induction s with
 |pure a=>intro w;rfl
 |load m a k e =>
  intro w;simp only[Sem.run];split
  ·exact e _ w
  ·split
   ·exact e _ w
   ·rfl
 |store m a v k e =>
  intro w;have key:∀v,zS w.output (match w.cell? a with
    |some _=>if w.frozen? a then .halt (.unsupported (.unsafePointer "a write to bytes that a string shares")) w else k.run p (w.setCell a v)
    |none=>match w.farStore p a v (m == .atomic)with
     | .ok (w,_)=>k.run p w
     | .error h=>.halt h w):=fun v=>by
   split
   ·split
    ·rfl
    ·exact e (w.setCell a v)
   ·split
    ·rename_i h;have:=e ‹World›;rw[Ja h]at this;exact this
    ·rfl
  cases v<;>simp only[Sem.run]<;>first|exact key _|rfl
 |new o k e=>intro w;exact e _ _
 |shape r k e=>intro w;exact e _ w
 |freeze a n k e=>intro w;have:=e (w.freeze a n);rw[Jb]at this;exact this
 |frozen a k e=>intro w;exact e _ w
 |getObj r k e =>
  intro w;simp only[Sem.run];split
  ·rfl
  ·exact e _ w
  ·rfl
 |setObj r o k e =>
  intro w;simp only[Sem.run];split
  ·rfl
  ·exact e _
  ·rfl
 |choose q k e =>
  intro w;simp only[Sem.run];split
  ·exact e _ w
  ·exact e _ _
 |sys c k e=>intro w;have:=e (w.sys c).1 (w.sys c).2;rw[I8]at this;exact this
 |program k e=>intro w;exact e _ w
 |mark m k e=>intro w;exact e w
 |halt h=>intro w;rfl
theorem ye(p:Program)(s:Sem α)(w:World)(es:Array Event):zS w.output (s.runT p w es).1:=by
 rw[dT];exact zT p s w
theorem nE{s:Sem α}{a:α}(h:s.run p w=.ok a w'):w'.output=w.output:=by have:=zT p s w;rw[h]at this;exact this
variable {a:Halt}
theorem uE{s:Sem α}(h:s.run p w=.halt a w'):w'.output=w.output:=by have:=zT p s w;rw[h]at this;exact this
variable {es lW:Array Event}
theorem uF{s:Sem α}{a:α}(h:s.runT p w es=(.ok a w',lW)):w'.output=w.output:=by have:=ye p s w es;rw[h]at this;exact this
theorem uG{s:Sem α}(h:s.runT p w es=(.halt a w',lW)):w'.output=w.output:=by have:=ye p s w es;rw[h]at this;exact this
theorem p8{s:Sem α}{a:α}(h:(s.runT p w es).1=.ok a w'):w'.output=w.output:=by have:=ye p s w es;rw[h]at this;exact this
theorem qB{s:Sem α}(h:(s.runT p w es).1=.halt a w'):w'.output=w.output:=by have:=ye p s w es;rw[h]at this;exact this
def lP (o:Array (Nat×ByteArray)):GStep→Prop
 | .go _ w _ | .comm _ _ _ _ w _ | .spawn _ _ w _ | .count _ w _ | .timer _ _ w _ | .alone _ _ w _ | .newcoro _ _ _ w _ | .coroswitch _ _ _ w _ | .collect _ w _ | .watch _ w _=>w.output=o
 | .ended _ _ _=>True
variable {o:Array (Nat×ByteArray)} {s:GStep}
theorem lP.after(h:lP o s)(es:Array Event):lP o (s.after es):=by cases s<;>exact h
theorem lP.eq{o':Array (Nat×ByteArray)}(h:lP o' s)(e:o'=o):lP o s:=e▸h
section
variable {p:Program}
theorem Jc(w:World)(fd:Nat)(x:ByteArray)(o:Outcome)(q:Array (Nat×ByteArray)):lP q (endWith w fd x o):=by
 unfold endWith;dsimp only;split
 ·split<;>trivial
 ·trivial
 ·trivial
theorem wP(fr:Frame)(m:String)(w:World):lP w.output (endThrow fr m w):=rfl
theorem CJ(fr:Frame)(v:Value)(w:World):lP w.output (endPrinting p fr v w):=by
 unfold endPrinting;dsimp only;split
 ·rfl
 ·trivial
theorem CK(fr:Frame)(cs:List Frame)(d:Option Dying)(m:String)(w:World):lP w.output (endFatal p fr cs d m w):=by
 unfold endFatal;dsimp only;split
 ·rename_i h;exact nE h
 ·trivial
 ·trivial
theorem Jd(fr:Frame)(d:Dying)(f:Fatal)(w:World):lP w.output (writeOn p fr d f w):=by
 unfold writeOn;dsimp only;split
 ·trivial
 ·split
  ·rename_i h;exact uF h
  ·rename_i h;exact uG h
  ·trivial
  ·trivial
theorem Je(fr:Frame)(d:Dying)(w:World):lP w.output (die p fr d w):=by
 unfold die;split
 ·exact Jd _ _ _ _
 ·split
  ·split
   ·rfl
   ·exact Jc _ _ _ _ _
  ·dsimp only;split
   ·rfl
   ·split
    ·rename_i h;exact nE h
    ·trivial
   ·refine lP.after ?_ _;split
    ·rename_i h;exact p8 h
    ·rename_i h;exact p8 h
    ·trivial
    ·rename_i h;exact(CJ _ _ _).eq (qB h)
    ·trivial
   ·trivial
theorem zU(mn:Bool)(fr:Frame)(cs:List Frame)(d:Option Dying)(v:Value)(w:World):lP w.output (doReturn p mn fr cs d v w):=by
 unfold doReturn;split
 ·split<;>first|rfl|trivial
 ·split
  ·rfl
  ·trivial
  ·split
   ·rfl
   ·split<;>first|rfl|trivial
theorem Jf(fr:Frame)(cs:List Frame)(d:Option Dying)(f:Deferred)(w:World):lP w.output (callDeferred p fr cs d f w):=by
 unfold callDeferred;refine iteInduction (motive:=lP w.output) (fun _=>trivial) (fun _=>?_)
 ·dsimp only;refine lP.after ?_ _;split
  all_goals first
   |(first|rfl|trivial|exact p8 (by assumption)|exact qB (by assumption)|exact nE (by assumption)|exact uE (by assumption)|exact uF (by assumption)|exact uG (by assumption))
   |(rename_i h;exact(CK _ _ _ _ _).eq (qB h))
   |(rename_i h;exact(wP _ _ _).eq (qB h))
   |(split<;>(first|rfl|trivial|exact p8 (by assumption)|exact qB (by assumption)|exact nE (by assumption)|exact uE (by assumption)|exact uF (by assumption)|exact uG (by assumption)))
theorem Jg(mn:Bool)(fr:Frame)(cs:List Frame)(d:Option Dying)(w:World):lP w.output (unwind p mn fr cs d w):=by
 unfold unwind;split
 ·dsimp only;refine lP.after ?_ _;split<;>(first|rfl|trivial|exact p8 (by assumption)|exact qB (by assumption)|exact nE (by assumption)|exact uE (by assumption)|exact uF (by assumption)|exact uG (by assumption))
 ·exact Jf _ _ _ _ _
 ·split
  ·trivial
  ·split
   ·trivial
   ·split
    ·rfl
    ·split
     ·split
      ·rfl
      ·split<;>(first|rfl|trivial|exact p8 (by assumption)|exact qB (by assumption)|exact nE (by assumption)|exact uE (by assumption)|exact uF (by assumption)|exact uG (by assumption))
     ·split
      ·exact CJ _ _ _
      ·trivial
  ·split
   ·exact zU _ _ _ _ _ _
   ·dsimp only;refine lP.after ?_ _;split
    ·rename_i h;exact(zU _ _ _ _ _ _).eq (p8 h)
    ·trivial
    ·trivial
theorem Jh(fr:Frame)(cs:List Frame)(d:Option Dying)(g:Nat)(w:World):lP w.output (early p fr cs d g w):=by
 have key:∀w':World,w'.output=w.output→lP w.output (match w'.heap[g]? with
   |some (.pending c elem)=>.go { frame:=fr,callers:=cs,status:=.running,dying:=d } { w' with heap:=w'.heap.setIfInBounds g (.cells c elem) }
   |_=>.ended (.stuck "early: the variable does not wait" (fr.pos p)) w'):=fun w' e=>by
  split
  ·exact e
  ·trivial
 unfold early;dsimp only;split
 ·exact key w rfl
 ·split
  ·trivial
  ·split
   ·exact key w rfl
   ·split
    ·exact key w rfl
    ·split
     ·trivial
     ·rfl
     ·trivial
     ·exact key w rfl
     ·split
      ·rfl
      ·split
       ·exact key w rfl
       ·split
        ·rename_i h;exact key _ (nE h)
        ·rename_i h;exact nE h
        ·trivial
theorem yf(fr:Frame)(cs:List Frame)(d:Option Dying)(s:Sem Next)(w:World):lP w.output (stepG.apply p true fr cs d s w):=by
 unfold stepG.apply;simp only[dn];refine lP.after ?_ _;split
 all_goals first
  |(first|rfl|trivial|exact p8 (by assumption)|exact qB (by assumption)|exact nE (by assumption)|exact uE (by assumption)|exact uF (by assumption)|exact uG (by assumption))
  |(rename_i h;exact(CK _ _ _ _ _).eq (qB h))
  |(rename_i h;exact(wP _ _ _).eq (qB h))
  |(rename_i h;exact(Jh _ _ _ _ _).eq (qB h))
  |(split<;>(first|rfl|trivial|exact p8 (by assumption)|exact qB (by assumption)|exact nE (by assumption)|exact uE (by assumption)|exact uF (by assumption)|exact uG (by assumption)))
  |(refine iteInduction (motive:=lP w.output) (fun _=>?_) (fun _=>?_);(rename_i h _;exact(wP _ _ _).eq (p8 h));(rename_i h _;exact p8 h))
theorem Ji(fr:Frame)(cs:List Frame)(d:Option Dying)(w:World):lP w.output (stepG.oper p true fr cs d w):=by
 unfold stepG.oper;split
 ·trivial
 ·split<;>exact yf _ _ _ _ _
theorem Jj(mn:Bool)(fr:Frame)(cs:List Frame)(d:Option Dying)(w:World):lP w.output (stepG.exec p mn true fr cs d w):=by
 have e:∀(jump:Option Code)(c:Prop) [Decidable c],lP w.output (match fr.roundOf with
   |none=>if c then .go { frame:={ fr with mode:=.returning },callers:=cs,status:=.running,dying:=d } w else .ended (.stuck "exit, goto: no such block or label" (fr.pos p)) w
   |some l=>GStep.after (seen p fr.fn ((Instr.endRound l jump).runT p w #[]).2) (match((Instr.endRound l jump).runT p w #[]).1 with
    | .ok v w=>doReturn p mn fr cs d v w
    | .halt _ w=>.ended (.stuck "range over a function: no such loop" (fr.pos p)) w)):=fun jump c _=>by
  split
  ·refine iteInduction (motive:=lP w.output) (fun _=>rfl) (fun _=>trivial)
  ·refine lP.after ?_ _;split
   ·rename_i h;exact(zU _ _ _ _ _ _).eq (p8 h)
   ·trivial
 have he:∀{β:Type}(o:Option β)(s:GStep)(f:β→GStep),lP w.output s→(∀x,lP w.output (f x))→lP w.output (o.elim s f):=fun o s f j m=>by
  cases o
  ·exact j
  ·exact m _
 unfold stepG.exec;dsimp only;split
 all_goals first
  |rfl
  |trivial
  |exact e _ _
  |exact yf _ _ _ _ _
  |exact he _ _ _ (e _ _) fun _=>rfl
  |exact he _ _ _ trivial fun _=>yf _ _ _ _ _
  |(split<;>first|rfl|trivial)
  |(refine lP.after ?_ _;split;(rename_i h;exact(yf _ _ _ _ _).eq (p8 h));trivial)
  |(refine lP.after ?_ _;split;(rename_i h;exact p8 h);(rename_i h;exact qB h);trivial)
  |(refine iteInduction (motive:=lP w.output) (fun _=>rfl) (fun _=>?_);split;(rename_i h;exact nE h);trivial)
  |(refine iteInduction (motive:=lP w.output) (fun _=>Ji _ _ _ _) (fun _=>rfl))
  |skip
theorem Jk(mn:Bool)(g:Goroutine)(w:World):lP w.output (stepG p mn g w):=by
 obtain⟨fr,cs,st,d,off⟩:=g;unfold stepG;dsimp only;split
 ·exact Je _ _ _
 ·exact Jj _ _ _ _ _
 ·exact Jg _ _ _ _ _
def sg (o:Array (Nat×ByteArray)):Stepped→Prop
 | .next m=>m.world.output=o
 | .ended _ _=>True
variable {o o':Array (Nat×ByteArray)}
theorem sg.eq{s:Stepped}(h:sg o' s)(e:o'=o):sg o s:=e▸h
variable {w w':World}
theorem Jl{rest:Go.Rest}{cases:Array CommCase}(h:waitingAt rest cases w=some w'):w'.output=w.output:=by
 unfold waitingAt at h;split at h
 ·split at h
  ·cases h;rfl
  ·cases h
 ·cases h;rfl
theorem Jm(rest:Go.Rest)(gs:Array Goroutine)(i:Nat)(g:Goroutine)(cases:Array CommCase)(m:Bool)(shape:CommShape)(w:World):sg w.output (communicate p rest gs i g cases m shape w).1:=by
 unfold communicate;dsimp only;split
 ·trivial
 ·split
  ·split
   ·split
    ·rename_i h;exact Jl h
    ·trivial
   ·rfl
  ·split
   ·trivial
   ·rename_i h;have e:=nE h;split
    ·split
     ·rename_i j;exact(uE j).trans e
     ·trivial
    ·exact e
    ·exact e
    ·split
     ·exact e
     ·split
      ·rename_i j;exact(nE j).trans e
      ·trivial
    ·exact e
    ·exact e
    ·trivial
theorem zV(gs:Array Goroutine)(rest:Go.Rest)(w:World):sg w.output (look p gs rest w):=by
 unfold look;split
 ·dsimp only;split
  ·trivial
  ·split
   ·trivial
   ·split
    ·rename_i h;have e:=nE h;exact e
    ·trivial
    ·trivial
 ·trivial
theorem Jn(m:Machine)(k:Nat):sg m.world.output (serve p m k):=by
 unfold serve;split
 ·trivial
 ·rfl
 ·dsimp only;split
  ·trivial
  ·rfl
theorem Jo(w:World)(c:Nat):(drain w c).2.output=w.output:=by
 unfold drain;split<;>rfl
theorem CL(m:Machine)(k:Nat)(t:Timer)(a b:Nat):(retime m k t a b).2.world.output=m.world.output:=by
 unfold retime;dsimp only;split
 ·exact Jo _ _
 ·rfl
theorem Jp{m j:Machine}{op:TimerOp}{v:Value}(h:timerOp m op=.ok (v,j)):j.world.output=m.world.output:=by
 cases op with
 |new t =>
  simp only[timerOp]at h;split at h
  ·cases h;rfl
  ·split at h
   ·split at h
    ·cases h
    ·cases h;rfl
   ·cases h
 |stop var =>
  simp only[timerOp,timerOp.named]at h;split at h
  ·simp only[fD]at h;have:=CL m ‹Nat› (m.rest.timers.getD ‹Nat› default) 0 (m.rest.timers.getD ‹Nat› default).period;rw[h]at this;exact this
  ·cases h
 |reset var a b =>
  simp only[timerOp,timerOp.named]at h;split at h
  ·rename_i m2 e;have z:m2.world.output=m.world.output:=by
    unfold timerOp.opened at e;split at e
    ·split at e
     ·cases e;rfl
     ·cases e
    ·cases e;rfl
   split at h
   ·simp only[fD]at h;have:=CL m2 ‹Nat› (m.rest.timers.getD ‹Nat› default) a b;rw[h]at this;exact this.trans z
   ·cases h
  ·cases h
 |deadline c r w x =>
  simp only[timerOp,fD,eG]at h;rw[←h.2];rfl
theorem Jq(m:Machine)(i:Nat):sg m.world.output (runT p m i).1:=by
 unfold runT;dsimp only;generalize m.gs.swapAt! i _=x;obtain⟨g,gs⟩:=x;dsimp only;have h:=Jk (p:=p) (i == 0) g m.world;generalize stepG p (i == 0) g m.world=s at h ⊢
 cases s with
 |go g w es=>exact h
 |comm g c b sh w es=>exact(Jm _ _ _ _ _ _ _ _).eq h
 |spawn g ch w es=>exact h
 |count g w es =>
  refine iteInduction (motive:=fun x=>sg m.world.output x) (fun _=>trivial) (fun _=>h)
 |timer g op w es =>
  dsimp only;split
  ·rename_i e;exact(Jp e).trans h
  ·split
   ·rename_i e;have:=wP g.frame ‹String› w;rw[e]at this;exact Eq.trans this h
   ·trivial
  ·trivial
  ·trivial
 |alone g on w es=>exact h
 |newcoro g c d w es=>exact h
 |coroswitch g c ex w es =>
  dsimp only;split
  ·exact h
  ·split
   ·rename_i e;have:=wP g.frame "coroswitch on exited coro" w;rw[e]at this;exact Eq.trans this h
   ·trivial
  ·trivial
 |collect g w es=>exact(zV _ _ _).eq h
 |watch g w es=>exact h
 |ended o w es=>trivial
def qV (o:Array (Nat×ByteArray)):Move→Prop
 | .goroutine m _=>m.world.output=o
 | .machine s _=>sg o s
theorem qV.eq{s:Move}(h:qV o' s)(e:o'=o):qV o s:=e▸h
theorem zW(m:Machine):qV m.world.output (askOn p m):=by
 have pk:∀(m:Machine)(rs:List Nat),qV m.world.output (match(choose (.sched rs.length)).run p m.world with
   | .halt _ w=>.machine (.ended (.stuck "sched" "") w)
   | .ok k world =>
    if rs.length≤1 then .goroutine { m with world } (rs.getD k 0) else
    match(choose (.extern "sched.slice" 65536)).run p world with
    | .halt _ w=>.machine (.ended (.stuck "sched.slice" "") w)
    | .ok n world=>.goroutine { m with world,rest:={ m.rest with slice:=if n=0 then none else some (rs.getD k 0,n) } } (rs.getD k 0)):=fun m rs=>by
  split
  ·trivial
  ·rename_i h;refine iteInduction (motive:=qV m.world.output) (fun _=>nE h) (fun _=>?_);split
   ·trivial
   ·rename_i j;exact(nE j).trans (nE h)
 unfold askOn;dsimp only;split
 ·trivial
 ·rename_i h;have e:=nE h;refine iteInduction (motive:=qV m.world.output) (fun _=>(Jn _ _).eq e) (fun _=>?_);split
  ·split
   ·exact e
   ·refine iteInduction (motive:=qV m.world.output) (fun _=>e) (fun _=>?_);split
    ·trivial
    ·trivial
  ·split
   ·exact(pk { m with world:=_ } _).eq e
   ·split
    ·trivial
    ·rename_i j;exact(pk { m with world:=_ } _).eq ((nE j).trans e)
    ·rename_i j;exact(nE j).trans e
    ·rename_i j;exact(pk (Machine.advanceTo { m with world:=_ } _) _).eq ((nE j).trans e)
theorem Jr(m:Machine):qV m.world.output (move p m):=by
 have e:∀m:Machine,qV m.world.output (ask p m):=fun m=>by
  unfold ask;split
  ·split
   ·trivial
   ·rename_i h;split
    ·rename_i j;have:=zV (p:=p) m.gs m.rest ‹World›;rw[j]at this;exact(zW _).eq (Eq.trans this (nE h))
    ·exact(zV _ _ _).eq (nE h)
   ·rename_i h;exact(zW _).eq (nE h)
  ·exact zW m
 unfold move;split
 ·refine iteInduction (motive:=qV m.world.output) (fun _=>rfl) (fun _=>trivial)
 ·split
  ·refine iteInduction (motive:=qV m.world.output) (fun _=>rfl) (fun _=>e { m with rest:=_ })
  ·exact e m
theorem Js(m:Machine):sg m.world.output (stepT p m).1:=by
 have h:=Jr (p:=p) m;unfold stepT;split
 ·rename_i e;rw[e]at h;exact(Jq _ _).eq h
 ·rename_i e;rw[e]at h;exact h
theorem CM:∀(n:Nat)(m e:Machine)(t t':Trace),runNT p n m t=(.next e,t')→e.world.output=m.world.output
 |0,m,e,t,t',h=>by simp only[runNT,eG,eI]at h;rw[h.1]
 |n+1,m,e,t,t',h=>by
  have r:=Js (p:=p) m;simp only[runNT]at h;split at h
  ·rename_i A ops z;rw[z]at r;exact(CM n A e _ _ h).trans r
  ·rename_i j z;simp only[eG]at h;exact(j _ h.1).elim
theorem Jt{n:Nat}{gs gs':Array Goroutine}{sl kn:Option (Nat×Nat)}{t t':Trace}(h:runNT p n (Go.Conc.crowd gs w sl) t=(.next (Go.Conc.crowd gs' w' kn),t')):w'.output=w.output:=CM n _ _ _ _ h
end
section
open Go.Conc
variable [Scope]
section
variable {P:Program}
def zX (f:FuncId) (tr:Tmp) (v:Value) (pL:World→Prop) (fr:Frame) (xs:List Frame) (w:World):Prop :=
 xs=[]∧fr.fn=f∧fr.mode=.returning∧fr.tmps.getD tr undef=v∧pL w
theorem Ju{ρ:j7}{f:FuncId}{fn:Func}{tr:Tmp}{v:Value}{j:World→Prop}(F:P.funcs[f]?=some fn)(e:fn.results=#[.tmp tr])(r:P.inits.idxOf? f=none)(R:∀ρ v',VR ρ v v'→v'=v){fr j8:Frame}{xs:List Frame}{wS:World}(H:zX f tr v j fr xs wS){S:Loc→Prop}{u:World}(z:lD S ρ u fr j8)(I:lu v=false)(w:World):stepG P true (G j8 []) w=.ended (.done v) w #[]:=by
 obtain⟨rfl,rfl,hm,U,_⟩:=H;have A:j8.mode=.returning:=z.mode.1.trans hm;have J:j8.defers=[]:=z.defers.2;have M:j8.kind=.normal:=z.kind.2;have C:j8.fn=fr.fn:=z.fn;have N:P.funcs[j8.fn]?=some fn:=by rw[C];exact F
 have O:P.inits.idxOf? j8.fn=none:=by rw[C];exact r
 have E:j8.tmps.getD tr undef=v:=by
  have:=z.tmps.getD tr;rw[U]at this;exact R ρ _ (this.vr I)
 have hr:(results fn j8.tmps).run P w=.ok v w:=by rw[fB e _ P w,E]
 have he:(results fn j8.tmps).events P w #[]=#[]:=fC e _ _;have m:seen P j8.fn #[]=#[]:=by
  apply fE;rcases fb (seen P j8.fn #[]).size with h|h
  ·exact h
  ·have V:=se (P:=P) (Array.getElem_mem h);simp at V
 unfold G stepG;simp only[A];unfold unwind;simp only[J,A,N,dT,hr,he];simp[doReturn,M,O,GStep.after,m]
theorem lD.enter{S:Loc→Prop}{u:World}{ρ:j7}{f:FuncId}{args mg:Array Value}(e:mW S ρ u args mg):lD S ρ u (Frame.enter P f args .normal) (Frame.enter P f mg .normal):=by
 refine⟨rfl,?_,rfl,⟨rfl,rfl⟩,⟨rfl,.inl rfl⟩,⟨rfl,rfl⟩,rfl,rfl⟩;unfold Frame.enter;simp only[←e.size];exact e.append (ki.replicate _ qA)
theorem Jv{f:FuncId}{fn:Func}{tr:Tmp}{v:Value}{j:World→Prop}{Post:Value→World→Prop}(M:P.funcs[f]?=some fn)(F:fn.results=#[.tmp tr])(H:P.inits.idxOf? f=none)(hv:∀ρ v',VR ρ v v'→v'=v)(O:lu v=false){args mg:Array Value}{C w:World}{m:j7}(hh:HR m C w)(ha:mW (fun _=>False) m w args mg)(hg:ku P [] (zX f tr v j) (Frame.enter P f args .normal) [] C)(E:∀ρ' r w',m.le ρ'→HR ρ' r w'→j r→(∀B,B<w.heap.size→RO m B→w'.heap[B]?=w.heap[B]?)→w'.os=w.os→w'.output=w.output→Post v w'):∃N last o w' t',runNT P (N+1) (solo (G (Frame.enter P f mg .normal) []) w) #[]=(.ended o w',t')∧runN P N (solo (G (Frame.enter P f mg .normal) []) w)=.next last∧step P last=.ended o w'∧Good P Post last o w' t':=by
 have z:pb P (fun _=>False) m [] (Frame.enter P f args .normal) [] C #[G (Frame.enter P f mg .normal) []] w #[] (fun _=>0) :=
  ⟨⟨_,[],rfl,lD.enter ha,.nil⟩,hh,leavers_one P _,past_nil.mono (eP _),⟨fun _ _ _ _ _ h=>h,fun _ _ _ h=>h,fun _ h=>h.elim,fun h=>h⟩⟩
 obtain⟨N,gs',w',kn,t',q',tJ,ρ',j8,n9,r,R,hle,A,U,h4⟩:=hg _ _ _ _ none _ _ z;obtain⟨V,ys,W,X,Y⟩:=A.main;have I:w'.output=w.output:=Jt R;have Z:n9=[]:=U.1;subst Z
 cases Y
 have J:Goes P true AtRel (fun _ _ es=>∀e∈es,EvL tJ w'.heap.size e) (Go.Conc.AtEnd P tJ w'.heap.size Post) 0 (G V []) w':=by
  intro w1 aa;obtain⟨d,rfl⟩:=aa;exact⟨rfl,v,#[],Ju M F H hv U X O _,by simp,E ρ' r _ hle ⟨A.hr.obj,A.hr.inj,A.hr.base,A.hr.os,A.hr.sync⟩ U.2.2.2.2 (fun B hB hn=>(h4.block B hB hn ⟨fun _ _ h=>h,fun h=>h⟩).1) h4.os I⟩
 obtain⟨N2,last,o,w2,t2,k1,k2,k3,k4⟩:=beside_ends (D:=fun _ _ es=>∀e∈es,EvL tJ w'.heap.size e) (fun _ _ _ h=>h) (sl:=kn) W A.leave A.past (n:=0) J;have e0:solo (G (Frame.enter P f mg .normal) []) w=crowd #[G (Frame.enter P f mg .normal) []] w none:=rfl;refine⟨N+N2,last,o,w2,t2,?_,?_,k3,k4⟩
 ·rw[e0,dQ,eQ,R];exact k1
 ·have hn:runN P N (crowd #[G (Frame.enter P f mg .normal) []] w none)=.next (crowd gs' w' kn):=by rw[←runNT_fst _ _ _ #[],R]
  rw[e0,runN_add,hn];exact k2
end
end
def pM (i:TypeInfo):Bool :=
 (match i.zero with|some z=>clear 8 z&&z.cells.all (clear 7)|none=>true)&&decide (i.align ∣ i.bytes)
variable {i:TypeInfo}
theorem uH:pM i=true↔(∀z,i.zero=some z→clear 8 z=true∧z.cells.all (clear 7)=true)∧i.align ∣ i.bytes:=by
 unfold pM
 cases i.zero<;>simp
theorem Jw{β:Type}(I:β→Prop)(body:α→β→Option (ForInStep β))(hb:∀a b s,I b→body a b=some s→I s.value):∀(l:List α)(b r:β),I b→forIn l b body=some r→I r:=by
 intro l
 induction l with
 |nil=>intro b r hI h;simp at h;exact h▸hI
 |cons a l m =>
  intro b r hI h;rw[List.forIn_cons]at h
  cases j:body a b with
  |none=>rw[j]at h;simp at h
  |some s =>
   have e:=hb a b s hI j;rw[j]at h
   cases s with
   |done b'=>simp at h;exact h▸e
   |yield b'=>exact m b' r e (by simpa using h)
theorem Jx(n a:Nat)(h:1≤a):a ∣ Made.roundUp n a:=by
 unfold Made.roundUp;rw[dt (by omega)];exact Nat.dvd_mul_left _ _
variable {xs:Array Value}
theorem zY(h:xs.all (clear 7)=true):clear 8 (.agg xs)=true:=by simpa only[clear]using h
variable {info:TypeId→Option TypeInfo}
theorem Jy(U:∀t i,info t=some i→pM i=true){F:Array Field}(h:Made.reckonStruct info F=some i):pM i=true:=by
 unfold Made.reckonStruct at h;simp only[eb,←et]at h;obtain⟨r,hr,h⟩:=fF.1 h;have hI:=Jw (fun b:Array Field×Nat×Nat×Nat×Nat×Bool×Bool×Option (Array Value)×String=>1≤b.2.2.2.1∧∀A,b.2.2.2.2.2.2.2.1=some A→A.all (clear 7)=true) _ (fun f b s hI j=>?_) _ _ _ ⟨dD _,fun A m=>by cases m;simp⟩ hr
 ·obtain⟨V,rc,rs,C,rl,W,X,Y,Z⟩:=r;simp only at hI h;have fin:∀sz,(pure (f:=Option) ({ desc:=.struct V,str:=Z++(if F.isEmpty then "" else " ")++ "}",size:=rc,bytes:=Made.roundUp sz C,hasPointers:=W,align:=C,fieldAlign:=C,zero:=Y.map .agg,comparable:=X,methods:=#[] }:TypeInfo))=some i→pM i=true:=by
   intro sz e
   cases e
   refine uH.2 ⟨fun z m=>?_,Jx _ _ hI.1⟩;obtain⟨A,G,rfl⟩:=eo.1 m;exact⟨zY (hI.2 A G),hI.2 A G⟩
  split at h
  ·exact fin _ h
  ·exact fin _ h
 ·obtain⟨bf,bc,bs,ba,bl,bp,bq,bz,br⟩:=b;obtain⟨i,hi,j⟩:=fF.1 j;have E:=(uH.1 (U _ _ hi)).1;simp only at hI j ⊢;have fin:∀(H:Array Field)(I J M:Nat)(N O:Bool)(R:String)(n:Nat),s=ForInStep.yield (H,I,J,max ba i.align,M,N,O,(if n > Made.mostCells then none else bz.bind fun a=>i.zero.bind fun c=>pure (a++c.cells)),R)→1≤s.value.2.2.2.1∧∀A,s.value.2.2.2.2.2.2.2.1=some A→A.all (clear 7)=true:=by
   rintro H I J M N O R n rfl;refine⟨dE hI.1 (Nat.le_max_left _ _),fun A m=>?_⟩;simp only[ForInStep.value]at m;split at m
   ·cases m
   ·obtain⟨a,ha,m⟩:=fF.1 m;obtain⟨c,hc,m⟩:=fF.1 m
    cases m
    rw[Array.all_append,hI.2 a ha,(E c hc).2];rfl
  split at j
  ·simp at j
  ·split at j
   ·simp at j
   ·split at j
    ·simp only[Option.pure_def,ed]at j;split at j<;>exact fin _ _ _ _ _ _ _ _ (ff j).symm
    ·obtain⟨tag,_,j⟩:=fF.1 j;split at j<;>exact fin _ _ _ _ _ _ _ _ (ff j).symm
variable {d:TypeDesc}
theorem vG{st:String}{z:Value}{c:Bool}{n:Nat}(j:clear 7 z=true)(h:clear 8 z=true)(m:8 ∣ n)(r:z.cells=#[z]):pM (Made.word d st z c n)=true :=
 uH.2 ⟨fun A e=>by cases e;exact⟨h,by rw[r];simpa using j⟩,m⟩
theorem Jz(F:∀t i,info t=some i→pM i=true)(h:Made.reckon info d=some i):pM i=true:=by
 unfold Made.reckon at h
 cases d with
 |pointer e =>
  simp only[eb]at h;obtain⟨j,r,h⟩:=fF.1 h;split at h
  ·cases h
  ·split at h
   ·cases h
   ·obtain⟨_,_,h⟩:=fF.1 h;cases h;exact vG rfl rfl ⟨1,rfl⟩ rfl
  ·obtain⟨_,_,h⟩:=fF.1 h;cases h;exact vG rfl rfl ⟨1,rfl⟩ rfl
 |slice e =>
  simp only[eb]at h;obtain⟨j,r,h⟩:=fF.1 h;obtain⟨_,_,h⟩:=fF.1 h;cases h;exact vG rfl rfl ⟨3,rfl⟩ rfl
 |map k e =>
  simp only[eb]at h;obtain⟨j,r,h⟩:=fF.1 h;obtain⟨_,_,h⟩:=fF.1 h;obtain⟨_,_,h⟩:=fF.1 h;obtain⟨_,_,h⟩:=fF.1 h;cases h;exact vG rfl rfl ⟨1,rfl⟩ rfl
 |chan dir e =>
  simp only[eb]at h;obtain⟨j,r,h⟩:=fF.1 h;obtain⟨_,_,h⟩:=fF.1 h;cases h;exact vG rfl rfl ⟨1,rfl⟩ rfl
 |func ps rs v =>
  simp only[eb]at h;obtain⟨j,r,h⟩:=fF.1 h;cases h;exact vG rfl rfl ⟨1,rfl⟩ rfl
 |array n e =>
  simp only[eb]at h;obtain⟨j,r,h⟩:=fF.1 h;obtain⟨_,_,h⟩:=fF.1 h
  cases h
  have C:=uH.1 (F _ _ r);refine uH.2 ⟨fun z A=>?_,Nat.dvd_trans C.2 (Nat.dvd_mul_left _ _)⟩;simp only at A;split at A
  ·cases A
  ·split at A
   ·cases A;exact⟨zY (by simp),by simp[Value.cells]⟩
   ·obtain⟨y,H,rfl⟩:=eo.1 A;have G:=(C.1 y H).2;have m:(Array.replicate n y.cells).flatten.all (clear 7)=true:=by
     rw[dB]at G ⊢;intro x hx;obtain⟨xs,E,hx⟩:=Array.mem_flatten.1 hx;rw[Array.mem_replicate]at E;rw[E.2]at hx;exact G x hx
    exact⟨zY m,m⟩
 |struct I=>exact Jy F h
 |_=>cases h
theorem JA(T:Tables)(e:∀i∈T.types,pM i=true):∀(f:Nat)(t:TypeId)(i:TypeInfo),Made.infoAt T f t=some i→pM i=true:=by
 intro f
 induction f with
 |zero=>intro t i h;cases h
 |succ f j =>
  intro t i h;simp only[Made.infoAt]at h;split at h
  ·exact e i (dC h)
  ·obtain⟨d,_,h⟩:=fF.1 h;exact Jz j h
theorem CN(P:Program)(j:P.types.all pM=true)(t:TypeId)(i:TypeInfo)(h:P.info? t=some i):pM i=true:=by
 have e:∀i∈P.types,pM i=true:=dB.1 j;unfold Tables.info? at h;split at h
 ·exact e i (dC h)
 ·exact JA _ e _ t i h
theorem CO[Scope](P:Program)(m:P.types.all pM=true)(hb:P.globals.size≤Scope.base)(A:∀t,Scope.cells t=P.cellsOf t)(r:((P.info? 0).map fun i=>(i.methods.find? (·.name == "")).isNone)=some true)(j:∀t d e,P.underlying t=some (.chan d e)→Scope.chans t=true):kD P :=
 ⟨fun t i z h C=>((uH.1 (CN P m t i h)).1 z C).1,hb,A,fun t i h=>(uH.1 (CN P m t i h)).2,j,fun i E=>by rw[E]at r;simpa using r⟩
def kj [Scope] (P:Program) (f:FuncId):Bool :=
 match P.funcs[f]? with
 |some fn=>!(fn.name == "runtime.NumGoroutine")&&(match fn.body with|some c=>p6 P c|none=>false)
 |none=>false
theorem CP[Scope](P:Program)(l:List FuncId)(r:∀f,Scope.ok f=true→f∈l)(h:l.all (kj P)=true):lV P:=by
 have j:=eu.1 h;refine { body:=fun f m=>?_,code:=fun f fn c m e hb=>?_ }
 ·have:=j f (r f m);unfold kj at this
  cases e:P.funcs[f]? with
  |none=>rw[e]at this;cases this
  |some fn =>
   rw[e]at this;simp only[ep,Bool.not_eq_true']at this;refine⟨fn,rfl,this.1,?_⟩
   cases hb:fn.body with
   |none=>rw[hb]at this;cases this.2
   |some c=>rfl
 ·have:=j f (r f m);unfold kj at this;rw[e]at this;simp only[hb,ep]at this;exact this.2
def oD (ρ:j7):Prop:=∀b p,ρ b=some p→p=⟨b,none⟩∨∃ty,p=⟨b,some ⟨0,0,ty⟩⟩
theorem oD.block{ρ:j7}(h:oD ρ){b:Nat}{p:Place}(e:ρ b=some p):p.block=b:=by
 rcases h b p e with rfl|⟨_,rfl⟩<;>rfl
variable {ys:Array Value}
theorem oS(h:xs.size=ys.size){i:Nat}(e:xs[i]?=some v):∃v',ys[i]?=some v':=by
 have:=(dv.1 e).1;exact⟨_,dw (by omega)⟩
theorem tL(m:xs.size=ys.size)(h:∀(i:Nat) v v',xs[i]?=some v→ys[i]?=some v'→v'=v):ys=xs:=by
 apply dP;intro i;rcases fG i xs.size with j|j
 ·have e:i<ys.size:=by omega
  rw[dw j,dw e,h i _ _ (dw j) (dw e)]
 ·rw[fH j,fH (by omega)]
section
variable [Scope]
open Classical in
noncomputable def oE (S:Nat→Prop):j7:=fun b=>if S b then some ⟨b,none⟩ else none
theorem yg{S:Nat→Prop}{b:Nat}(h:S b):oE S b=some ⟨b,none⟩:=by unfold oE;rw[dr h]
theorem CQ{S:Nat→Prop}{b:Nat}{p:Place}(h:oE S b=some p):S b∧p=⟨b,none⟩:=by
 unfold oE at h;split at h
 ·rename_i e;cases h;exact⟨e,rfl⟩
 ·cases h
theorem oD.addr{ρ:j7}(h:oD ρ){a a':Addr}(k:AR ρ a a'):a'=a:=by
 obtain⟨_,p,hp,e,j,m⟩:=k;obtain⟨b',o',s'⟩:=a';obtain⟨b,o,s⟩:=a;rcases h _ _ hp with rfl|⟨ty,rfl⟩
 ·simp only[Place.shift]at e j m;simp[e,j,m]
 ·simp only[Place.shift]at e j m;simp[e,j,m]
def sure:Value→Bool
 | .bool _ | .int .. | .string _ | .pointer _ | .slice none _ _ | .nilFunc | .nilIface=>true
 | .slice (some _) l c=>!(l == 0&&c == 0)
 | .tuple xs=>xs.size == 0
 |_=>false
theorem zZ{ρ:j7}(m:oD ρ){v v':Value}(e:sure v=true)(h:VR ρ v v'):v'=v:=by
 cases h with
 |bool b=>rfl
 |int k n=>rfl
 |string s=>rfl
 |o4=>rfl
 |ptr j=>rw[m.addr j]
 |mI l c=>rfl
 |slice l c j=>rw[m.addr j]
 |nilFunc=>rfl
 |nilIface=>rfl
 | @tuple xs ys r z =>
  have:xs.size=0:=by simpa[sure]using e
  obtain rfl:xs=#[]:=fE this;obtain rfl:ys=#[]:=fE (by rw[←r];rfl);rfl
 |nD _ _=>simp[sure]at e
 |hole _ _=>simp[sure]at e
 |o7 _=>simp[sure]at e
 |_=>simp[sure]at e
theorem HR.CS{ρ:j7}{w w':World}(h:HR ρ w w')(j:oD ρ){a:Addr}{p:Place}(hp:ρ a.block=some p){v:Value}(m:sure v=true)(hb:Scope.base≤a.block)(e:w.cell? a=some v):w'.cell? a=some v:=by
 have r:AR ρ a a:=⟨hb,p,hp,(j.block hp).symm,by
  rcases j _ _ hp with rfl|⟨ty,rfl⟩<;>simp[Place.shift],rfl⟩
 obtain⟨v',z,A,_⟩:=h.cell r e;rw[z,zZ j m A]
end
section
variable {SW SM:Scope}
theorem wQ{H ρ:j7}(r:SW.sync=false)(I:oD ρ)(J:∀y pl,H y=some pl→ρ pl.block=some ⟨pl.block,none⟩){v v' z:Value}(h:@VR SW H v v'):@VR SM ρ v' z→z=v':=by
 induction h generalizing z with
 |bool b=>intro k;cases k;rfl
 |int k n=>intro k;cases k;rfl
 |string s=>intro k;cases k;rfl
 |o4=>intro k;cases k;rfl
 |ptr M=>intro k;cases k with|ptr hb=>rw[@oD.addr SM _ I _ _ hb]
 |mI l c=>intro k;cases k;rfl
 |slice l c M =>
  intro k
  cases k with
  |slice _ _ hb=>rw[@oD.addr SM _ I _ _ hb]
  |nD _ F =>
   obtain⟨b,x,F⟩:=F;obtain⟨_,p,hp,e,_⟩:=M;rw[e,J _ _ hp]at F
   cases F
 |qS=>intro k;cases k;rfl
 |map hr=>intro k;cases k with|map hb=>rw[J _ _ hr]at hb;cases hb;rfl
 |rr=>intro k;cases k;rfl
 |func V A _ N _ m G =>
  intro k
  cases k with
  |func _ C E O R =>
   rw[tL C fun i v v' a b=>by
    obtain⟨x,hx⟩:=oS A.symm a;exact m i x v hx a (E i v v' a b),tL O fun i v v' a b=>by
    obtain⟨x,hx⟩:=oS N.symm a;exact G i x v hx a (R i v v' a b)]
 |nilFunc=>intro k;cases k;rfl
 |iface _ U=>intro k;cases k with|iface hb=>rw[U hb]
 |nilIface=>intro k;cases k;rfl
 |agg A _ m =>
  intro k
  cases k with
  |agg C E =>
   rw[tL C fun i v v' a b=>by
    obtain⟨x,hx⟩:=oS A.symm a;exact m i x v hx a (E i v v' a b)]
 |tuple A _ m =>
  intro k
  cases k with
  |tuple C E =>
   rw[tL C fun i v v' a b=>by
    obtain⟨x,hx⟩:=oS A.symm a;exact m i x v hx a (E i v v' a b)]
 |nD j _=>rw[r]at j;cases j
 |hole j _=>rw[r]at j;cases j
 |o7 j=>rw[r]at j;cases j
theorem JB{M ρ:j7}(j:SW.sync=false)(E:oD ρ)(I:∀y pl,M y=some pl→ρ pl.block=some ⟨pl.block,none⟩){o o' r:Obj}(h:@OR SW M o o')(k:@OR SM ρ o' r):r=o':=by
 cases h with
 | @cells c C e fr N =>
  cases k with
  |cells F =>
   rw[tL (@ki.size SM _ _ _ F) fun i v v' a b=>by
    obtain⟨x,hx⟩:=oS (@ki.size SW _ _ _ N).symm a;exact wQ j E I (@ki.get SW _ _ _ N i x v hx a) (@ki.get SM _ _ _ F i v v' a b)]
 | @map es ES clk U F =>
  cases k with
  | @map _ m _ O J =>
   have:m=ES:=by
    apply dP;intro i;rcases fG i ES.size with z|z
    ·have A:i<m.size:=by omega
     obtain⟨a,b,c⟩:=J i _ _ (dw z) (dw A);obtain⟨R,b0,_⟩:=F i _ _ (dw (show i<es.size by omega)) (dw z);rw[dw z,dw A];have G:=wQ j E I R a;have H:=wQ j E I b0 b;generalize ES[i]=x at G H c;generalize m[i]=y at G H c;obtain⟨k1,v1,b1⟩:=x;obtain⟨k2,v2,b2⟩:=y;simp only at G H c;rw[G,H,c]
    ·rw[fH z,fH (by omega)]
   rw[this]
 |number V=>cases k with|number hb=>rw[@oD.addr SM _ E _ _ hb]
end
open Classical in
noncomputable def patch (S:Nat→Prop) (u w:World):World:={ w with heap:=(Array.range w.heap.size).map fun i=>if S i then(u.heap[i]?).getD default else(w.heap[i]?).getD default }
theorem CU(S:Nat→Prop)(u w:World):(patch S u w).heap.size=w.heap.size:=by simp[patch]
variable {S:Nat→Prop} {u:World} {b:Nat}
theorem JC(h:S b)(hb:b<w.heap.size)(hu:b<u.heap.size):(patch S u w).heap[b]?=u.heap[b]?:=by
 simp[patch,hb,h,hu]
theorem JE(h:¬S b):(patch S u w).heap[b]?=w.heap[b]?:=by
 by_cases hb:b<w.heap.size
 ·simp[patch,hb,h]
 ·simp[patch,hb]
end Go.Proofs.YtjnkcibpkkjniaaGreat.kx
namespace Go.Proofs.YtjnkcibpkkjniaaGreat.kN
section
open Go.Conc Go.ConcN
structure PT (Sh Shun:Loc→Prop) (Own Rd:Nat→Loc→Prop) (K:Nat→Prop) (c:Nat) (t:Trace):Prop where
 sh:∀i a,touchAt t i=some a→Sh a.loc→a.kind≠.plain∧(a.kind=.said→Knows t c i)
 own:∀k,K k→∀l,l.isMemory=true→Own k l→Perm t k l
 rd:∀k,K k→∀l,l.isMemory=true→Rd k l→PermW t k l
 free:∀l,l.isMemory=true→¬Sh l→¬Shun l→(∀k,K k→¬Own k l∧¬Rd k l)→Perm t 0 l
 mine:∀l,l.isMemory=true→¬Sh l→¬Shun l→(∀k,K k→¬Own k l)→PermW t 0 l
 nr:∀said,¬Race said t
 over:∀i g,t.g? i=some g→g≠0→t.counts i→K g∨∃j,t.g? j=some 0∧HappensBefore t i j
 old:∀(i:Nat) op x,t[i]?=some op→op.g≠0→¬K op.g→op.act.touch? = some x→x.loc.isMemory=true→Knows t 0 i∨(Shun x.loc∧x.kind=.atomic)
structure Apart (Sh Shun:Loc→Prop) (Own Rd:Nat→Loc→Prop) (K:Nat→Prop):Prop where
 own:∀k k' l,K k→K k'→Own k l→Own k' l→k=k'
 ownRd:∀k k' l,K k→K k'→Own k l→¬Rd k' l
 ownSh:∀k l,K k→Own k l→¬Sh l∧¬Shun l
 rdSh:∀k l,K k→Rd k l→¬Sh l∧¬Shun l
 zero:¬K 0
 yh:∀l,Sh l→l.isMemory=true
section
variable (Sh Shun:Loc→Prop) (Own Rd:Nat→Loc→Prop) (K:Nat→Prop) (c:Nat)
def Ok0 (op:MemOp):Prop :=
 op.g=0∧∀x,op.act.touch? = some x→x.loc.isMemory=true→(Sh x.loc∧x.kind≠.plain∧(x.kind=.said→c=0)) ∨
  (¬Sh x.loc∧¬Shun x.loc∧(∀k,K k→¬Own k x.loc)∧(x.write=true→∀k,K k→¬Rd k x.loc))
def JF (k:Nat) (op:MemOp):Prop :=
 op.g=k∧∀x,op.act.touch? = some x→x.loc.isMemory=true→(Sh x.loc∧x.kind≠.plain∧(x.kind=.said→c=k))∨Own k x.loc∨(Rd k x.loc∧x.write=false)
end
section
variable {Sh Shun:Loc→Prop} {Own Rd:Nat→Loc→Prop} {K:Nat→Prop} {c:Nat} {t u:Trace}
theorem yi(h:∀i g,t.g? i=some g→g≠0→t.counts i→K g∨∃j,t.g? j=some 0∧HappensBefore t i j)(hu:∀op∈u,op.g=0∨K op.g∨op.act.touch? = none):∀i g,(t++u).g? i=some g→g≠0→(t++u).counts i→K g∨∃j,(t++u).g? j=some 0∧HappensBefore (t++u) i j:=by
 intro i g H e M;obtain⟨x,hx,hm⟩:=M;obtain⟨op,m,r⟩:=fI hx;rcases fJ m with⟨I,J⟩|⟨_,A⟩
 ·rcases h i g (by simpa[Trace.g?,getElem?_append_old I]using H) e ((counts_old I).1 ⟨x,hx,hm⟩)with N|⟨j,F,hb⟩
  ·exact .inl N
  ·have G:j<t.size:=by
    unfold Trace.g? at F;obtain⟨z,O,_⟩:=eo.1 F;exact fK O
   exact .inr ⟨j,by simpa[Trace.g?,getElem?_append_old G]using F,hb_app u hb⟩
 ·have C:op.g=g:=by simpa[Trace.g?,m]using H
  rcases hu op A with E|E|E
  ·exact absurd (C.symm.trans E) e
  ·exact .inl (C▸E)
  ·rw[E]at r;cases r
theorem PT.app0(A:Apart Sh Shun Own Rd K)(h:PT Sh Shun Own Rd K c t)(hu:∀op∈u,Ok0 Sh Shun Own Rd K c op):PT Sh Shun Own Rd K c (t++u):=by
 refine⟨fun i a F m=>?_,fun k r l hm z=>(h.own k r l hm z).app fun op j b hb e=>?_,fun k r l hm z=>(h.rd k r l hm z).app fun op j b hb e hw=>?_,
  fun l hm m hS z=>(h.free l hm m hS z).app fun op j _ _ _=>(hu op j).1,fun l hm m hS z=>(h.mine l hm m hS z).app fun op j _ _ _ _=>(hu op j).1,fun said=>?_,?_,fun i op x Y Z r hx hm=>?_⟩
 ·obtain⟨x,hx,G⟩:=fI F;rcases fJ hx with⟨Y,N⟩|⟨_,H⟩
  ·have:=h.sh i a (by rw[touchAt_of N];exact G) m;exact⟨this.1,fun e=>(this.2 e).app u⟩
  ·rcases(hu x H).2 a G (A.yh _ m)with⟨_,I,O⟩|⟨I,_⟩
   ·refine⟨I,fun e=>?_⟩;have:=knows_own hx;rw[(hu x H).1]at this;rw[O e];exact this
   ·exact absurd m I
 ·rcases(hu op j).2 b hb (e▸hm)with⟨m,_⟩|⟨_,_,R,_⟩
  ·exact absurd (e▸m) (A.ownSh k l r z).1
  ·exact absurd (e▸z) (R k r)
 ·rcases(hu op j).2 b hb (e▸hm)with⟨m,_⟩|⟨_,_,_,R⟩
  ·exact absurd (e▸m) (A.rdSh k l r z).1
  ·exact absurd (e▸z) (R hw k r)
 ·refine fL (h.nr said) (fun op j=>(hu op j).1) (fun i a F op j b hb hc=>?_);obtain⟨E,U,e3,C⟩:=hc;rcases(hu op j).2 b hb (E▸U)with⟨m,I,O⟩|⟨m,hS,J,V⟩
  ·have:=h.sh i a F (E▸m);rcases C with C|C|⟨_,C,e5⟩
   ·exact absurd C this.1
   ·exact absurd C I
   ·have:=this.2 C;rw[O e5]at this;exact this
  ·cases M:b.write with
   |true=>exact h.free b.loc (E▸U) m hS (fun k r=>⟨J k r,V M k r⟩) i a F E
   |false=>exact h.mine b.loc (E▸U) m hS J i a F E (e3.resolve_right (by simp[M]))
 ·exact yi h.over fun op j=>.inl (hu op j).1
 ·rcases fJ Y with⟨_,W⟩|⟨_,X⟩
  ·exact(h.old i op x W Z r hx hm).imp (·.app u) id
  ·exact absurd (hu op X).1 Z
variable {k:Nat}
theorem PT.CV(A:Apart Sh Shun Own Rd K)(h:PT Sh Shun Own Rd K c t)(kk:K k)(hu:∀op∈u,JF Sh Own Rd c k op):PT Sh Shun Own Rd K c (t++u):=by
 have k0:k≠0:=fun e=>A.zero (e▸kk)
 refine⟨fun i a I m=>?_,fun k' z l hm r=>(h.own k' z l hm r).app fun op j b hb e=>?_,fun k' z l hm r=>(h.rd k' z l hm r).app fun op j b hb e hw=>?_,
  fun l hm m hS r=>(h.free l hm m hS r).app fun op j b hb e=>?_,fun l hm m hS r=>(h.mine l hm m hS r).app fun op j b hb e hw=>?_,fun said=>?_,?_,fun i op x X Y z hx hm=>?_⟩
 ·obtain⟨x,hx,J⟩:=fI I;rcases fJ hx with⟨X,N⟩|⟨_,M⟩
  ·have:=h.sh i a (by rw[touchAt_of N];exact J) m;exact⟨this.1,fun e=>(this.2 e).app u⟩
  ·rcases(hu x M).2 a J (A.yh _ m)with⟨_,E,O⟩|E|⟨E,_⟩
   ·refine⟨E,fun e=>?_⟩;have:=knows_own hx;rw[(hu x M).1]at this;rw[O e];exact this
   ·exact absurd m (A.ownSh k _ kk E).1
   ·exact absurd m (A.rdSh k _ kk E).1
 ·rcases(hu op j).2 b hb (e▸hm)with⟨m,_⟩|C|⟨hr,_⟩
  ·exact absurd (e▸m) (A.ownSh k' l z r).1
  ·rw[(hu op j).1];exact A.own k k' l kk z (e▸C) r
  ·exact absurd (e▸hr) (A.ownRd k' k l z kk r)
 ·rcases(hu op j).2 b hb (e▸hm)with⟨m,_⟩|C|⟨_,hr⟩
  ·exact absurd (e▸m) (A.rdSh k' l z r).1
  ·exact absurd r (A.ownRd k k' l kk z (e▸C))
  ·rw[hr]at hw;cases hw
 ·rcases(hu op j).2 b hb (e▸hm)with⟨F,_⟩|C|⟨hr,_⟩
  ·exact absurd (e▸F) m
  ·exact absurd (e▸C) (r k kk).1
  ·exact absurd (e▸hr) (r k kk).2
 ·rcases(hu op j).2 b hb (e▸hm)with⟨F,_⟩|C|⟨_,hr⟩
  ·exact absurd (e▸F) m
  ·exact absurd (e▸C) (r k kk)
  ·rw[hr]at hw;cases hw
 ·refine fL (h.nr said) (fun op j=>(hu op j).1) (fun i a I op j b hb Z=>?_);obtain⟨H,R,e3,G⟩:=Z;rcases(hu op j).2 b hb (H▸R)with⟨m,E,O⟩|C|⟨hr,U⟩
  ·have:=h.sh i a I (H▸m);rcases G with G|G|⟨_,G,e5⟩
   ·exact absurd G this.1
   ·exact absurd G E
   ·have:=this.2 G;rw[O e5]at this;exact this
  ·exact h.own k kk b.loc (H▸R) C i a I H
  ·exact h.rd k kk b.loc (H▸R) hr i a I H (e3.resolve_right (by simp[U]))
 ·exact yi h.over fun op j=>.inr (.inl ((hu op j).1▸kk))
 ·rcases fJ X with⟨_,V⟩|⟨_,W⟩
  ·exact(h.old i op x V Y z hx hm).imp (·.app u) id
  ·exact absurd ((hu op W).1▸kk) z
theorem PT.appMute(h:PT Sh Shun Own Rd K c t){g:Nat}(hu:∀op∈u,op.g=g)(H:∀op∈u,op.act.touch? = none):PT Sh Shun Own Rd K c (t++u):=by
 have no:∀{op b},op∈u→op.act.touch? = some b→False:=fun j hb=>by rw[H _ j]at hb;cases hb
 refine⟨fun i a I r=>?_,fun k' z l hm m=>(h.own k' z l hm m).app fun op j b hb e=>(no j hb).elim,fun k' z l hm m=>(h.rd k' z l hm m).app fun op j b hb e hw=>(no j hb).elim,
  fun l hm r hS m=>(h.free l hm r hS m).app fun op j b hb e=>(no j hb).elim,fun l hm r hS m=>(h.mine l hm r hS m).app fun op j b hb e hw=>(no j hb).elim,fun said=>fL (h.nr said) hu (fun i a I op j b hb N=>(no j hb).elim),?_,fun i op x J M z hx hm=>?_⟩
 ·obtain⟨x,hx,A⟩:=fI I;rcases fJ hx with⟨J,C⟩|⟨_,E⟩
  ·have:=h.sh i a (by rw[touchAt_of C];exact A) r;exact⟨this.1,fun e=>(this.2 e).app u⟩
  ·exact(no E A).elim
 ·exact yi h.over fun op j=>.inr (.inr (H op j))
 ·rcases fJ J with⟨_,F⟩|⟨_,G⟩
  ·exact(h.old i op x F M z hx hm).imp (·.app u) id
  ·exact(no G hx).elim
variable {wR:Nat→Loc→Prop}
theorem PT.grow(h:PT Sh Shun Own Rd K c t)(hm:∀k l,K k→Own k l→wR k l)(F:∀k l,K k→wR k l→Own k l∨∀i a,touchAt t i=some a→a.loc≠l):PT Sh Shun wR Rd K c t:=by
 refine⟨h.sh,fun k j l m r i a E e=>?_,h.rd,fun l m A hS z=>h.free l m A hS fun k j=>⟨fun r=>(z k j).1 (hm k l j r),(z k j).2⟩,fun l m A hS z=>h.mine l m A hS fun k j r=>z k j (hm k l j r),h.nr,h.over,h.old⟩;rcases F k l j r with C|C
 ·exact h.own k j l m C i a E e
 ·exact absurd e (C i a E)
theorem PT.congr{Rd':Nat→Loc→Prop}(h:PT Sh Shun Own Rd K c t)(j:∀k,K k→wR k=Own k)(hr:∀k,K k→Rd' k=Rd k):PT Sh Shun wR Rd' K c t :=
 ⟨h.sh,fun k e=>by rw[j k e];exact h.own k e,fun k e=>by rw[hr k e];exact h.rd k e,fun l m r hS z=>h.free l m r hS fun k e=>by rw[←j k e,←hr k e];exact z k e,
  fun l m r hS z=>h.mine l m r hS fun k e=>by rw[←j k e];exact z k e,h.nr,h.over,h.old⟩
theorem PT.fork(A:Apart Sh Shun Own Rd K)(h:PT Sh Shun Own Rd K c t)(k0:k≠0)(hk:¬K k){x y:MemOp}(hx:x.g=0∧x.act=.go k)(G:y.g=k∧y.act=.start)(R:Deaf t 0=0)(E:Deaf t k=0)(Z:∀l,l.isMemory=true→Own k l→¬Sh l∧¬Shun l∧∀k',K k'→¬Own k' l∧¬Rd k' l)(hr:∀l,l.isMemory=true→Rd k l→¬Sh l∧¬Shun l∧∀k',K k'→¬Own k' l){c':Nat}(hc:c'=c∨(c=0∧c'=k)):PT Sh Shun Own Rd (fun i=>K i∨i=k) c' (t++#[x,y]):=by
 have r:∀op∈#[x,y],∀b,op.act.touch? = some b→False:=by
  intro op j b hb;simp only[fM,fN,fO,fP]at j;rcases j with rfl|rfl
  ·rw[hx.2]at hb;cases hb
  ·rw[G.2]at hb;cases hb
 have old:∀{i:Nat}{a:Touch},touchAt (t++#[x,y]) i=some a→touchAt t i=some a:=by
  intro i a F;obtain⟨z,hz,H⟩:=fI F;rcases fJ hz with⟨_,U⟩|⟨_,V⟩
  ·rw[touchAt_of U];exact H
  ·exact(r z V a H).elim
 refine⟨fun i a F I=>?_,fun k' m l hm C=>?_,fun k' m l hm C=>?_,
  fun l hm I hS C=>(h.free l hm I hS fun k' m=>C k' (.inl m)).app fun op j b hb _=>(r op j b hb).elim,fun l hm I hS C=>(h.mine l hm I hS fun k' m=>C k' (.inl m)).app fun op j b hb _ _=>(r op j b hb).elim,fun said=>?_,?_,fun i op Y hi hg m J hm=>?_⟩
 ·have:=h.sh i a (old F) I;refine⟨this.1,fun e=>?_⟩;rcases hc with rfl|⟨rfl,rfl⟩
  ·exact(this.2 e).app _
  ·exact fork_knows hx G R E (this.2 e)
 ·rcases m with m|rfl
  ·exact(h.own k' m l hm C).app fun op j b hb _=>(r op j b hb).elim
  ·obtain⟨M,N,O⟩:=Z l hm C;exact fun i a F e=>fork_knows hx G R E (h.free l hm M N O i a (old F) e)
 ·rcases m with m|rfl
  ·exact(h.rd k' m l hm C).app fun op j b hb _ _=>(r op j b hb).elim
  ·obtain⟨M,N,O⟩:=hr l hm C;exact fun i a F e hw=>fork_knows hx G R E (h.mine l hm M N O i a (old F) e hw)
 ·have e:t++#[x,y]=(t++#[x])++#[y]:=by apply Array.ext';simp
  rw[e];refine fL (g:=k) (fL (g:=0) (h.nr said) (fun op j=>by simp at j;rw[j];exact hx.1) (fun i a _ op j b hb _=>(r op (by simp at j ⊢;exact .inl j) b hb).elim))
   (fun op j=>by simp at j;rw[j];exact G.1) (fun i a _ op j b hb _=>(r op (by simp at j ⊢;exact .inr j) b hb).elim)
 ·refine yi (fun i g M N O=>(h.over i g M N O).imp .inl id) fun op j=>.inr (.inr ?_)
  cases hb:op.act.touch? with
  |none=>rfl
  |some b=>exact(r op j b hb).elim
 ·rcases fJ hi with⟨_,W⟩|⟨_,X⟩
  ·exact(h.old i op Y W hg (fun e=>m (.inl e)) J hm).imp (·.app _) id
  ·exact(r op X Y J).elim
theorem PT.start{B:Nat}(h:Past Shun B t)(z:∀i a,touchAt t i=some a→¬Sh a.loc):PT Sh Shun Own Rd (fun _=>False) c t:=by
 have r:∀l,l.isMemory=true→¬Shun l→Perm t 0 l:=fun l hm hS i a j e=>(h.known i a j (e▸hm)).resolve_right fun x=>hS (e▸x.1)
 exact⟨fun i a j hx=>absurd hx (z i a j),fun k m=>m.elim,fun k m=>m.elim,fun l hm _ hS _=>r l hm hS,fun l hm _ hS _=>.of (r l hm hS),h.clean,fun i g A C E=>.inr (h.over i g A C E),
  fun i op x F G _ hx hm=>h.known i x (by rw[touchAt_of F];exact hx) hm⟩
theorem PT.past{B:Nat}(h:PT Sh Shun Own Rd K c t)(hd:Deaf t 0=0)(F:∀op∈t,op.act.low B)(G:∀(i:Nat) op x,t[i]?=some op→op.g≠0→K op.g→op.act.touch? = some x→x.loc.isMemory=true→Knows t 0 i∨(Sh x.loc∧x.kind=.atomic))(H:∀i g,t.g? i=some g→K g→t.counts i→∃j,t.g? j=some 0∧HappensBefore t i j):Past (fun l=>Shun l∨Sh l) B t:=by
 refine⟨h.nr,fun i a I hm=>?_,fun i g C r e=>?_,hd,F⟩
 ·obtain⟨x,hx,m⟩:=fI I
  by_cases z:x.g=0
  ·have:=knows_own hx;rw[z]at this;exact .inl this
  ·by_cases E:K x.g
   ·exact(G i x a hx z E m hm).imp id fun y=>⟨.inr y.1,y.2⟩
   ·exact(h.old i x a hx z E m hm).imp id fun y=>⟨.inl y.1,y.2⟩
 ·rcases h.over i g C r e with A|A
  ·exact H i g C A e
  ·exact A
end
end
end Go.Proofs.YtjnkcibpkkjniaaGreat.kN
