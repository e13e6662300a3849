import Derived.Test.YtjnkcibpkkjniaaGreatA00
import Derived.Test.YtjnkcibpkkjniaaGreatA02
set_option linter.all false
namespace Go.Proofs.YtjnkcibpkkjniaaGreat.j7
section
variable [Scope]
theorem jW.opt{ρ:jR}{xs ys:Array Value}(h:jW ρ xs ys)(i:Nat):oN ρ xs[i]? ys[i]?:=by
 cases e:xs[i]? with
 |none=>rw[h.tL e];exact .none
 |some v=>obtain⟨v',a,k⟩:=h.at_ e;rw[a];exact .some k
section
variable {P:Program} {ρ:jR}
variable {xs ys:Array Value}
theorem GN[ki P](ts:Array TypeId)(t:TypeId)(c:∀t,ts[0]?=some t→Scope.chans t=false)(h:jW ρ xs ys):SR P VR ρ (Builtin.len_ ts t xs) (Builtin.len_ ts t ys):=by
 unfold Builtin.len_;have g:=h.opt 0;generalize xs[0]?=x,ys[0]?=y at g;generalize ts[0]?=i at c
 cases i with
 |none=>exact j4
 |some t =>
  cases g with
  |none=>exact j4
  |some m =>
   refine SR.bind (lH t) fun n d d' p e=>?_
   obtain⟨rfl,q⟩:=e;have f:=m.mono p
   cases d with
   |chan r s =>
    have l:=ki.chans (P:=P) t r s q;rw[c t rfl]at l
    cases l
   |map k e =>
    cases f with
    |map hr =>
     refine SR.bind (yM hr) fun j o o' w g=>?_
     cases g with
     |map a b=>simp only[a];exact jU (.int _ _)
     |_=>exact j4
    |qk=>exact jU (.int _ _)
    |_=>exact j4
   |pointer arr =>
    refine SR.bind (lH arr) fun j d d' w e=>?_
    obtain⟨rfl,_⟩:=e
    cases d<;>first|exact jU (.int _ _)|exact j4
   |_=>cases f<;>first|exact jU (.int _ _)|exact j4
theorem GO[ki P](ts:Array TypeId)(t:TypeId)(a:∀t,ts[0]?=some t→Scope.chans t=false)(h:jW ρ xs ys):SR P VR ρ (Builtin.cap_ ts t xs) (Builtin.cap_ ts t ys):=by
 unfold Builtin.cap_;have f:=h.opt 0;generalize xs[0]?=x,ys[0]?=y at f;generalize ts[0]?=b at a
 cases b with
 |none=>exact j4
 |some t =>
  cases f with
  |none=>exact j4
  |some i =>
   refine SR.bind (lH t) fun j d d' k e=>?_
   obtain⟨rfl,l⟩:=e;have c:=i.mono k
   cases d with
   |chan m n =>
    have g:=ki.chans (P:=P) t m n l;rw[a t rfl]at g
    cases g
   |pointer arr =>
    refine SR.bind (lH arr) fun o d d' p e=>?_
    obtain⟨rfl,_⟩:=e
    cases d<;>first|exact jU (.int _ _)|exact j4
   |_=>cases c<;>first|exact jU (.int _ _)|exact j4
variable {v v':Value}
theorem yU(h:VR ρ v v'):SR P (fun _ a b=>a=b∧∀ad,v=.slice (some ad) 0 0→a=0) ρ (Builtin.lenOf v) (Builtin.lenOf v'):=by
 unfold Builtin.lenOf
 cases h<;>first|exact j4|exact jU ⟨rfl,fun ad e=>by cases e<;>rfl⟩
theorem yV(size n:Nat)(h:VR ρ v v')(g:∀ad,v=.slice (some ad) 0 0→n=0):SR P (fun ρ a b=>jW ρ a b∧(n=0→a=#[]∧b=#[])) ρ (Builtin.firstCells size n v) (Builtin.firstCells size n v'):=by
 by_cases d:n=0
 ·subst d
  cases h with
  |lW l c=>exact jU ⟨jW.nil _,fun _=>⟨rfl,rfl⟩⟩
  | @slice a a' l c f =>
   have e:∀b:Addr,Builtin.firstCells size 0 (.slice (some b) l c)=Pure.pure #[]:=fun b=>by
    show loadCells b (0*size)=_;rw[eo];rfl
   rw[e,e];exact jU ⟨jW.nil _,fun _=>⟨rfl,rfl⟩⟩
  | @mN a a' i k =>
   have e:∀b:Addr,Builtin.firstCells size 0 (.slice (some b) 0 0)=Pure.pure #[]:=fun b=>by
    show loadCells b (0*size)=_;rw[eo];rfl
   rw[e,e];exact jU ⟨jW.nil _,fun _=>⟨rfl,rfl⟩⟩
  |string s =>
   refine jU ⟨jW.ints (fun b=>.int .u8 b.toNat) (fun b=>.int _ _) _,fun _=>?_⟩;have:(s.extract 0 0).data=#[]:=by simp
   rw[this];simp
  |_=>exact j4
 ·unfold Builtin.firstCells
  cases h with
  |lW l c=>exact jU ⟨jW.nil _,fun e=>absurd e d⟩
  |slice l c f=>exact(yG _ f).mono fun _ _ _ _ h=>⟨h,fun e=>absurd e d⟩
  |mN i k=>exact absurd (g _ rfl) d
  |string s=>exact jU ⟨jW.ints (fun b=>.int .u8 b.toNat) (fun b=>.int _ _) _,fun e=>absurd e d⟩
  |_=>exact j4
theorem GP(ts:Array TypeId)(t:TypeId)(h:jW ρ xs ys):SR P VR ρ (Builtin.copy_ ts t xs) (Builtin.copy_ ts t ys):=by
 unfold Builtin.copy_;have q:=h.opt 0;have g:=h.opt 1;generalize xs[0]?=x,ys[0]?=y at q;generalize xs[1]?=u,ys[1]?=v at g
 cases ts[0]? with
 |none=>exact j4
 |some t =>
  cases q with
  |none=>exact j4
  |some hd =>
   cases g with
   |none=>exact j4
   | @some src f r =>
    refine SR.bind (lH t) fun i d d' j e=>?_
    obtain⟨rfl,_⟩:=e
    cases d with
    |slice elem =>
     have fin:∀(b b':Option Addr)(dl:Nat),(b=none∧b'=none∨(∃a a',b=some a∧b'=some a'∧AR i a a')∨(dl=0∧∃a a',b=some a∧b'=some a'))→SR P VR i
       (do
        let n:=Nat.min (←Builtin.lenOf src) dl
        let cells ←Builtin.firstCells (←sizeOf elem) n src
        if let some a:=b then storeCells a cells.toList
        pure (goInt n))
       (do
        let n:=Nat.min (←Builtin.lenOf f) dl
        let cells ←Builtin.firstCells (←sizeOf elem) n f
        if let some a:=b' then storeCells a cells.toList
        pure (goInt n)):=by
      intro b b' dl hb;refine SR.bind (yU (r.mono j)) fun A n n' w e=>?_
      obtain⟨rfl,B⟩:=e;refine SR.bind (pR elem) fun C s s' z e=>?_
      obtain⟨rfl,_⟩:=e
      (try dsimp only);refine SR.bind (yV _ _ (((r.mono j).mono w).mono z) fun ad e=>by rw[B ad e];exact Nat.zero_min _) fun D c c' E k=>?_
      obtain⟨k,m⟩:=k;rcases hb with⟨rfl,rfl⟩|⟨a,a',rfl,rfl,o⟩|⟨rfl,a,a',rfl,rfl⟩
      ·exact jU (.int _ _)
      rotate_left
      ·obtain⟨rfl,rfl⟩:=m (Nat.min_zero _);exact jU (.int _ _)
      ·exact SR.bind (xu 0 (((o.mono w).mono z).mono E) k.list) fun _ _ _ _ _=>jU (.int _ _)
     have p:=hd.mono j
     cases p with
     |lW l c=>exact fin none none l (.inl ⟨rfl,rfl⟩)
     |slice l c o=>exact fin (some _) (some _) l (.inr (.inl ⟨_,_,rfl,rfl,o⟩))
     |mN _ _=>exact fin (some _) (some _) 0 (.inr (.inr ⟨rfl,_,_,rfl,rfl⟩))
     |_=>exact j4
    |_=>exact j4
variable {u u':Value}
theorem GQ(h:VR ρ v v')(k:VR ρ u u'):SR P VR ρ (Builtin.min2 v u) (Builtin.min2 v' u'):=by
 unfold Builtin.min2
 cases h with
 |int=>cases k<;>first|exact jU (.int _ _)|exact j4|exact kv
 |string a =>
  cases k with
  |string b =>
   refine SR.bind (yP .leq a b) fun d x g i hx=>?_
   exact SR.bind (yH hx) fun f c c' _ e=>by subst e;exact jU (.string _)
  |_=>first|exact j4|exact kv
 |_=>cases k<;>first|exact j4|exact kv
theorem GS(h:VR ρ v v')(k:VR ρ u u'):SR P VR ρ (Builtin.max2 v u) (Builtin.max2 v' u'):=by
 unfold Builtin.max2
 cases h with
 |int=>cases k<;>first|exact jU (.int _ _)|exact j4|exact kv
 |string a =>
  cases k with
  |string b =>
   refine SR.bind (yP .geq a b) fun d x g i hx=>?_
   exact SR.bind (yH hx) fun f c c' _ e=>by subst e;exact jU (.string _)
  |_=>first|exact j4|exact kv
 |_=>cases k<;>first|exact j4|exact kv
theorem yW(f:Value→Value→Sem Value)(e:∀{ρ:jR}{v v' u u':Value},VR ρ v v'→VR ρ u u'→SR P VR ρ (f v u) (f v' u')):∀{l l':List Value}{ρ:jR}{v v':Value},ou ρ l l'→VR ρ v v'→SR P VR ρ (l.foldlM f v) (l'.foldlM f v')
 |[],_,_,_,_,h,c=>by cases h;exact jU c
 |x::l,_,_,_,_,h,c=>by
  cases h with
  |cons g i =>
   simp only[List.foldlM_cons];exact SR.bind (e c g) fun j a b k d=>yW f e (ou.mono i k) d
theorem GU(ts:Array TypeId)(t:TypeId)(h:jW ρ xs ys):SR P VR ρ (Builtin.min_ ts t xs) (Builtin.min_ ts t ys):=by
 unfold Builtin.min_;have a:=h.list;generalize xs.toList=l,ys.toList=l' at a
 cases a with
 |nil=>exact j4
 |cons b c=>exact yW _ GQ c b
theorem GV(ts:Array TypeId)(t:TypeId)(h:jW ρ xs ys):SR P VR ρ (Builtin.max_ ts t xs) (Builtin.max_ ts t ys):=by
 unfold Builtin.max_;have a:=h.list;generalize xs.toList=l,ys.toList=l' at a
 cases a with
 |nil=>exact j4
 |cons b c=>exact yW _ GS c b
theorem jW.mS{z a:Array Value}(h:jW ρ z a)(n:Nat):jW ρ (Builtin.zeroCells z n) (Builtin.zeroCells a n):=by
 unfold Builtin.zeroCells;rw[←h.size];have:=h.yJ (n*z.size) yK;rw[←h.size]at this;exact this
theorem GW{α β:Type}{R:jR→α→β→Prop}(size e n:Nat)(base:Option Addr)(x:Value)(k:Bool→Sem α)(y:Sem β)(d:∀b,SR P R ρ (k b) y):SR P R ρ (Builtin.mayShare size e n base x >>= k) y:=by
 have holds:∀(a:Addr)(c:Nat)(k:Bool→Sem α),(∀b,SR P R ρ (k b) y)→SR P R ρ (Builtin.holdsCells a c >>= k) y:=fun a c k d=>by
  unfold Builtin.holdsCells;refine SR.sI fun s=>?_
  cases s<;>exact d _
 have tail:∀b:Bool,SR P R ρ ((if !b then pure true else match x with
   | .slice (some b) _ _=>do pure (!(←Builtin.holdsCells b (n*size)) || base.any (·.block == b.block))
   |_=>pure false:Sem Bool) >>= k) y:=by
  intro b
  cases b with
  |false=>exact d true
  |true =>
   cases x with
   |slice a l c =>
    cases a with
    |none=>exact d false
    |some a =>
     unfold Builtin.holdsCells;refine SR.sI fun s=>?_
     cases s<;>exact d _
   |_=>exact d false
 unfold Builtin.mayShare
 cases base with
 |none=>exact tail true
 |some a =>
  refine SR.sI fun s=>?_
  cases s with
  |none=>exact SR.tM fun f=>tail (false&&!f)
  |some q=>exact SR.tM fun f=>tail _
end
end
end Go.Proofs.YtjnkcibpkkjniaaGreat.j7
