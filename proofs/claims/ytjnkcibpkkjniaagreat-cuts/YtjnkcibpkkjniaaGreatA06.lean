import Derived.Test.YtjnkcibpkkjniaaGreatA00
import Derived.Test.YtjnkcibpkkjniaaGreatA05
import Derived.Conc.LeavingOf
import Derived.Test.YtjnkcibpkkjniaaGreatRows
import Derived.WalkSpells
import Derived.WalkLawsBesides
import Derived.Lib.SmallJoins
import Derived.BigQuiet
import Derived.Deep.RegionWith
set_option linter.all false
set_option maxHeartbeats 1000000
set_option maxRecDepth 100000
namespace Go.Proofs.YtjnkcibpkkjniaaGreat
def iT:=@Go.Deep.open_slice
def iZ:=@Go.DataW.weights_mem_each
def jg:=@Go.run_convert_bytes_arg
def jf:=@Go.strOfNums_size
def jI:=@Go.Calls.quiet_of_same
def jD:=@Go.Calls.quiet_of
def jX:=@Go.Lib.run_eql_slice_nil
def j4:=@Go.run_append_own_at
end Go.Proofs.YtjnkcibpkkjniaaGreat
namespace Go.Proofs.YtjnkcibpkkjniaaGreat.kN
section
open Go Go.Conc Go.Proofs.YtjnkcibpkkjniaaGreat.kx
@[reducible] def GX (cs:List Frame) (Q:Frame→List Frame→World→Prop) (fr:Frame) (xs:List Frame) (w:World):Prop:=@ku Tryz.prog j9 cs Q fr xs w
theorem sx(a:Option Addr):lu (.pointer a)=false:=rfl
theorem sA(a:Option Addr)(l c:Nat):lu (.slice a l c)=false:=rfl
theorem sB(k:IntKind)(n:Int):lu (.int k n)=false:=rfl
theorem sC(s:ByteArray):lu (.string s)=false:=rfl
theorem sD(s:Bool):lu (.bool s)=false:=rfl
theorem sE(f:Fn)(a b:Array Value):lu (.func f a b)=false:=rfl
theorem sF(a:Array Value):lu (.tuple a)=false:=rfl
theorem sG(k:IntKind)(n:Int)(x y:Value):lu (.agg #[.int k n,x,y])=false:=rfl
def mR (xs:Array Operand) (e:Operand→Value):Bool:=xs.toList.all fun x=>!lu (e x)
variable {e:Operand→Value}
theorem DW{xs:Array Operand}(h:mR xs e=true):(xs.all fun x=>!lu (e x))=true:=by
 rw[dB];exact fun x hx=>eu.1 h x (Array.mem_toList_iff.2 hx)
theorem AH{o:Oper}(h:mR o.op.operands e=true):vF o e=true:=DW h
section
variable {cs:List Frame} {Q:Frame→List Frame→World→Prop} {b:Frame} {a:Act} {ops:Array Oper} {i:Nat} {l:List Nat} {k:List Item} {xs:List Frame} {w:World} {o:Oper}
theorem GX.lZ{v:World}{fr:Frame}(h:GX cs Q fr xs v)(f:v.heap=w.heap)(g:v.os=w.os):GX cs Q fr xs w:=by
 intro Shun ρ gs w0 sl t q d;refine h Shun ρ gs w0 sl t q (@pb.mk j9 _ _ _ _ _ _ _ _ _ _ _ (@pb.main j9 _ _ _ _ _ _ _ _ _ _ _ d) ?_ (@pb.leave j9 _ _ _ _ _ _ _ _ _ _ _ d) (@pb.past j9 _ _ _ _ _ _ _ _ _ _ _ d) (@pb.ng j9 _ _ _ _ _ _ _ _ _ _ _ d));exact @HR.lZ j9 _ _ _ _ (@pb.hr j9 _ _ _ _ _ _ _ _ _ _ _ d) f g
theorem GX.DX(f:ops[i]?=some o)(hw:Region.wanted o (yielded ops a.tmps)=true)(d:@oB j9 Tryz.prog o=true)(h:∀T,∃v w2,(execOp a.eval o).run Tryz.prog (again w T)=.ok (.value v) w2∧GX cs Q (b.at (a.put o.dst v) (.inRegion ops l::k)) xs w2)(hu:mR o.op.operands a.eval=true:=by first|rfl|(simp[mR,Op.operands,Call.operands,Act.eval,sx,sA,sB,sC,sD,sE,sF,sG, *])):GX cs Q (b.at a (.inRegion ops (i::l)::k)) xs w :=
 @ku.IV j9 Tryz.prog AF AE.toBodies cs Q b a ops i l k xs w o f hw d (AH hu) (fun v w2=>GX cs Q (b.at (a.put o.dst v) (.inRegion ops l::k)) xs w2)
  (fun T=>by obtain⟨v,w2,g,j⟩:=h T;exact⟨v,w2,w2,g,rfl,rfl,j⟩) (fun _ _ h=>h)
theorem GX.OX(f:ops[i]?=some o)(hw:Region.wanted o (yielded ops a.tmps)=true)(d:@oB j9 Tryz.prog o=true)(h:∀T,∃w2,(execOp a.eval o).run Tryz.prog (again w T)=.ok .skip w2∧GX cs Q (b.at (a.put o.dst undef) (.inRegion ops l::k)) xs w2)(hu:mR o.op.operands a.eval=true:=by first|rfl|(simp[mR,Op.operands,Call.operands,Act.eval,sx,sA,sB,sC,sD,sE,sF,sG, *])):GX cs Q (b.at a (.inRegion ops (i::l)::k)) xs w :=
 @ku.IW j9 Tryz.prog AF AE.toBodies cs Q b a ops i l k xs w o f hw d (AH hu) (fun w2=>GX cs Q (b.at (a.put o.dst undef) (.inRegion ops l::k)) xs w2)
  (fun T=>by obtain⟨w2,g,j⟩:=h T;exact⟨w2,w2,g,rfl,rfl,j⟩) (fun _ h=>h)
theorem GX.OY(g:ops[i]?=some o)(hw:Region.wanted o (yielded ops a.tmps)=true)(d:@oB j9 Tryz.prog o=true)(h:∀T,∃f args w2,(execOp a.eval o).run Tryz.prog (again w T)=.ok (.enter f args) w2∧∀j,Calls Tryz.prog f args (again w2 j) fun e w'=>∃v,e=.returned v∧GX cs Q (b.at (a.put o.dst v) (.inRegion ops l::k)) xs w')(hu:mR o.op.operands a.eval=true:=by first|rfl|(simp[mR,Op.operands,Call.operands,Act.eval,sx,sA,sB,sC,sD,sE,sF,sG, *])):GX cs Q (b.at a (.inRegion ops (i::l)::k)) xs w :=
 @ku.I6 j9 Tryz.prog AF AE cs Q b a ops i l k xs w o g hw d (AH hu) (fun v w2=>GX cs Q (b.at (a.put o.dst v) (.inRegion ops l::k)) xs w2)
  (fun T=>by obtain⟨f,args,w2,m,q⟩:=h T;exact⟨f,args,w2,w2,m,rfl,rfl,q⟩) (fun _ _ _ h x y=>GX.lZ h x.symm y.symm)
def AJ (r:Result Next) (K:Value→World→Prop):Prop:=match r with | .ok (.value v) w=>K v w|_=>False
def AK (r:Result Next) (K:World→Prop):Prop:=match r with | .ok .skip w=>K w|_=>False
def DY (r:Result Next) (K:FuncId→Array Value→World→Prop):Prop:=match r with | .ok (.enter f args) w=>K f args w|_=>False
theorem nF(v:Value)(w:World)(K:Value→World→Prop):AJ (.ok (.value v) w) K=K v w:=rfl
theorem ow(w:World)(K:World→Prop):AK (.ok .skip w) K=K w:=rfl
theorem nZ(f:FuncId)(args:Array Value)(w:World)(K:FuncId→Array Value→World→Prop):DY (.ok (.enter f args) w) K=K f args w:=rfl
theorem GX.v(f:ops[i]?=some o)(hw:Region.wanted o (yielded ops a.tmps)=true)(d:@oB j9 Tryz.prog o=true)(h:∀T (K:Value→World→Prop),(∀v w2,GX cs Q (b.at (a.put o.dst v) (.inRegion ops l::k)) xs w2→K v w2)→AJ ((execOp a.eval o).run Tryz.prog (again w T)) K)(hu:mR o.op.operands a.eval=true:=by first|rfl|(simp[mR,Op.operands,Call.operands,Act.eval,sx,sA,sB,sC,sD,sE,sF,sG, *])):GX cs Q (b.at a (.inRegion ops (i::l)::k)) xs w :=
 GX.DX (hu:=hu) f hw d fun T=>by
  have:=h T (fun v w2=>GX cs Q (b.at (a.put o.dst v) (.inRegion ops l::k)) xs w2) (fun _ _ h=>h)
  cases hr:(execOp a.eval o).run Tryz.prog (again w T)with
  |ok nx w2 =>
   rw[hr]at this
   cases nx with
   |value v=>exact⟨v,w2,rfl,this⟩
   |_=>exact this.elim
  |_=>rw[hr]at this;exact this.elim
theorem GX.u(f:ops[i]?=some o)(hw:Region.wanted o (yielded ops a.tmps)=true)(d:@oB j9 Tryz.prog o=true)(h:∀T (K:World→Prop),(∀w2,GX cs Q (b.at (a.put o.dst undef) (.inRegion ops l::k)) xs w2→K w2)→AK ((execOp a.eval o).run Tryz.prog (again w T)) K)(hu:mR o.op.operands a.eval=true:=by first|rfl|(simp[mR,Op.operands,Call.operands,Act.eval,sx,sA,sB,sC,sD,sE,sF,sG, *])):GX cs Q (b.at a (.inRegion ops (i::l)::k)) xs w :=
 GX.OX (hu:=hu) f hw d fun T=>by
  have:=h T (fun w2=>GX cs Q (b.at (a.put o.dst undef) (.inRegion ops l::k)) xs w2) (fun _ h=>h)
  cases hr:(execOp a.eval o).run Tryz.prog (again w T)with
  |ok nx w2 =>
   rw[hr]at this
   cases nx with
   |skip=>exact⟨w2,rfl,this⟩
   |_=>exact this.elim
  |_=>rw[hr]at this;exact this.elim
theorem GX.c(j:ops[i]?=some o)(hw:Region.wanted o (yielded ops a.tmps)=true)(d:@oB j9 Tryz.prog o=true)(h:∀T (K:FuncId→Array Value→World→Prop),(∀f args w2,(∀g,Calls Tryz.prog f args (again w2 g) fun e w'=>∃v,e=.returned v∧GX cs Q (b.at (a.put o.dst v) (.inRegion ops l::k)) xs w')→K f args w2)→DY ((execOp a.eval o).run Tryz.prog (again w T)) K)(hu:mR o.op.operands a.eval=true:=by first|rfl|(simp[mR,Op.operands,Call.operands,Act.eval,sx,sA,sB,sC,sD,sE,sF,sG, *])):GX cs Q (b.at a (.inRegion ops (i::l)::k)) xs w :=
 GX.OY (hu:=hu) j hw d fun T=>by
  have:=h T (fun f args w2=>∀g,Calls Tryz.prog f args (again w2 g) fun e w'=>∃v,e=.returned v∧GX cs Q (b.at (a.put o.dst v) (.inRegion ops l::k)) xs w') (fun _ _ _ h=>h)
  cases hr:(execOp a.eval o).run Tryz.prog (again w T)with
  |ok nx w2 =>
   rw[hr]at this
   cases nx with
   |enter f args=>exact⟨f,args,w2,rfl,this⟩
   |_=>exact this.elim
  |_=>rw[hr]at this;exact this.elim
theorem GX.vz{v:Value}(w2:World)(g:GX cs Q (b.at (a.put o.dst v) (.inRegion ops l::k)) xs w2)(j:ops[i]?=some o:=by rfl)(hw:Region.wanted o (yielded ops a.tmps)=true:=by rfl)(d:@oB j9 Tryz.prog o=true:=by kernel_rfl)(h:∀T (K:Value→World→Prop),(∀w3,w3.heap=w2.heap→w3.os=w2.os→K v w3)→AJ ((execOp a.eval o).run Tryz.prog (again w T)) K:=by(intro T K f;unfold execOp;go_simp;exact f _ rfl rfl))(hu:mR o.op.operands a.eval=true:=by first|rfl|(simp[mR,Op.operands,Call.operands,Act.eval,sx,sA,sB,sC,sD,sE,sF,sG, *])):GX cs Q (b.at a (.inRegion ops (i::l)::k)) xs w :=
 GX.v (hu:=hu) j hw d fun T K f=>h T K fun w3 m q=>f v w3 (GX.lZ g m.symm q.symm)
theorem GX.uz(w2:World)(g:GX cs Q (b.at (a.put o.dst undef) (.inRegion ops l::k)) xs w2)(j:ops[i]?=some o:=by rfl)(hw:Region.wanted o (yielded ops a.tmps)=true:=by rfl)(d:@oB j9 Tryz.prog o=true:=by kernel_rfl)(h:∀T (K:World→Prop),(∀w3,w3.heap=w2.heap→w3.os=w2.os→K w3)→AK ((execOp a.eval o).run Tryz.prog (again w T)) K:=by(intro T K f;unfold execOp;go_simp;exact f _ rfl rfl))(hu:mR o.op.operands a.eval=true:=by first|rfl|(simp[mR,Op.operands,Call.operands,Act.eval,sx,sA,sB,sC,sD,sE,sF,sG, *])):GX cs Q (b.at a (.inRegion ops (i::l)::k)) xs w :=
 GX.u (hu:=hu) j hw d fun T K f=>h T K fun w3 m q=>f w3 (GX.lZ g m.symm q.symm)
theorem m7(w:World)(T:Tape)(a:Addr):(again w T).cell? a=w.cell? a:=rfl
theorem nG(w:World)(T:Tape)(a:Addr):(again w T).frozen? a=w.frozen? a:=rfl
theorem nH(w:World)(T:Tape):(again w T).heap=w.heap:=rfl
theorem GX.seq{x y:Code}(h:GX cs Q (b.at a (.code x::.code y::k)) xs w):GX cs Q (b.at a (.code (.seq x y)::k)) xs w:=by letI:Scope:=j9;exact ku.seq h
theorem GX.pd(h:GX cs Q (b.at a k) xs w):GX cs Q (b.at a (.code .skip::k)) xs w:=by letI:Scope:=j9;exact ku.pd h
theorem GX.inBlock{id:Nat}(h:GX cs Q (b.at a k) xs w):GX cs Q (b.at a (.inBlock id::k)) xs w:=by letI:Scope:=j9;exact ku.inBlock h
theorem GX.block{id:Nat}{c:Code}(h:GX cs Q (b.at a (.code c::.inBlock id::k)) xs w):GX cs Q (b.at a (.code (.block id c)::k)) xs w:=by letI:Scope:=j9;exact ku.block h
theorem GX.loop{c:Code}(h:GX cs Q (b.at a (.code c::.inLoop c::k)) xs w):GX cs Q (b.at a (.code (.loop c)::k)) xs w:=by letI:Scope:=j9;exact ku.loop h
theorem GX.inLoop{c:Code}(h:GX cs Q (b.at a (.code c::.inLoop c::k)) xs w):GX cs Q (b.at a (.inLoop c::k)) xs w:=by letI:Scope:=j9;exact ku.inLoop h
theorem GX.exit{id:Nat}{k':List Item}(d:exitTo id k=some k')(h:GX cs Q (b.at a k') xs w):GX cs Q (b.at a (.code (.exit id)::k)) xs w:=by letI:Scope:=j9;exact ku.exit d h
theorem GX.region{id:Nat}(h:GX cs Q (b.at a (.inRegion ops (List.range ops.size)::k)) xs w):GX cs Q (b.at a (.code (.region id ops false)::k)) xs w:=by letI:Scope:=j9;exact ku.region h
theorem GX.kT(h:GX cs Q (b.at a k) xs w):GX cs Q (b.at a (.inRegion ops []::k)) xs w:=by letI:Scope:=j9;exact ku.kT h
theorem GX.cond{c:Operand}{x y:Code}{t:Bool}(d:@lN j9 c=true)(f:a.eval c=.bool t)(h:GX cs Q (b.at a (.code (if t then x else y)::k)) xs w):GX cs Q (b.at a (.code (.cond c x y)::k)) xs w:=by letI:Scope:=j9;exact ku.cond d f h
theorem GX.skip(d:ops[i]?=some o)(hw:Region.wanted o (yielded ops a.tmps)=false)(h:GX cs Q (b.at (a.put o.dst undef) (.inRegion ops l::k)) xs w):GX cs Q (b.at a (.inRegion ops (i::l)::k)) xs w:=by letI:Scope:=j9;exact ku.skip d hw h
theorem GX.ret(h:GX cs Q { b.at a (.code .ret::k)with mode:=.returning } xs w):GX cs Q (b.at a (.code .ret::k)) xs w:=by letI:Scope:=j9;exact ku.ret h
theorem GX.wO {f:FuncId} {fn:Func} {c:Code} {args:Array Operand} {OZ:Array TypeId} (ho:ops[i]? = some o) (hw:Region.wanted o (yielded ops a.tmps)=true)
  (O0:o.op=.call { callee:=.value (.func f),args,argTypes:=OZ }) (O1:args.all (@lN j9)=true) (hf:Tryz.prog.funcs[f]? = some fn) (O2:(fn.name == "runtime.NumGoroutine")=false) (hb:fn.body=some c)
  (h:GX cs Q ((base f).at { tmps:=args.map a.eval++Array.replicate (fn.ntmps - (args.map a.eval).size) undef,defers:=[] } [.code c]) (b.at a (.inRegion ops (i::l)::k)::xs) w) (hma:mR args a.eval=true:=by first | rfl | (simp [mR,Act.eval,sx,sA,sB,sC,sD,sE,sF,sG, *])):GX cs Q (b.at a (.inRegion ops (i::l)::k)) xs w:=by letI:Scope:=j9;exact ku.wO ho hw O0 O1 (DW hma) hf O2 hb h
theorem GX.leave {todo:List Item} {fn:Func} {tr:Tmp} {c:Frame} {x2:List Frame} (hd:a.defers=[]) (hf:Tryz.prog.funcs[b.fn]? = some fn) (O3:fn.results=#[.tmp tr]) {bc:Frame} {ac:Act} (hc:c=bc.at ac (.inRegion ops (i::l)::k))
  (h:GX cs Q (c.finish (a.tmps.getD tr undef)) x2 w):GX cs Q { b.at a todo with mode:=.returning } (c::x2) w:=by letI:Scope:=j9;exact ku.leave hd hf O3 hc h
end
end
section
open Go Go.RowKit
def lO (ops:Array Oper):Bool:=(List.range (ops.size-1)).all fun j=>(List.range ops.size).any fun k=>decide (j<k)&&match ops[k]? with|some o=>o.after.any fun e=>decide (e.on=j)&&Region.binds .any e|none=>false
variable {ops:Array Oper}
theorem O4(h:lO ops=true){j:Nat}(y:j+1<ops.size):∃k o,j<k∧ops[k]?=some o∧∃e∈o.after,e.on=j∧Region.binds .any e=true:=by
 have q:=eu.1 h j (gg.2 (by omega));obtain⟨k,_,m⟩:=List.any_eq_true.1 q;simp only[ep,ej]at m;obtain⟨x,d⟩:=m
 cases f:ops[k]? with
 |none=>rw[f]at d;cases d
 |some o =>
  rw[f]at d;simp only at d;rw[Array.any_eq_true]at d;obtain⟨i,hi,g⟩:=d;simp only[ep,ej]at g;exact⟨k,o,x,f,o.after[i],Array.getElem_mem hi,g.1,g.2⟩
theorem nu.all{D:List Deferred}{val:Nat→Value→World→Prop}{fix:List (Nat×Value)}{T:Nat}{listed:Array Bool}{a:Act}{w:World}(h:nu D ops val fix T listed a w)(f:lO ops=true){n:Nat}(A:ops.size=n+1)(m:listed.getD n false=true):∀i,i<ops.size→listed.getD i false=true:=by
 have key:∀d i,i+d=n→listed.getD i false=true:=by
  intro d
  induction d using Nat.strongRecOn with
  |_ d q =>
   intro i hi;rcases fb d with rfl|hd
   ·obtain rfl:i=n:=by omega
    exact m
   ·obtain⟨k,o,B,g,e,x,y,z⟩:=O4 f (j:=i) (by omega);have E:k<ops.size:=(dv.1 g).1;have:=q (n-k) (by omega) k (by omega);have:=h.qC k o g this e x z;rw[y]at this;exact this
 intro i hi;exact key (n-i) i (by omega)
section
variable {P:Program} {ops:Array Oper} {Q:Exit→Act→World→Prop} {val:Nat→Value→World→Prop} {fix:List (Nat×Value)} {T:Nat} {w0:World} {Post:Act→World→Prop} {n:Nat} {D:List Deferred}
theorem oL{id:Nat}{a:Act}{w:World}(hm:P.follows .mixedOrders=true)(q:lh ops (fix.map (·.1)) T=true)(G:lO ops=true)(hn:ops.size=n+1)(A:∀w w' j u,Below w.heap.size w w'→val j u w→val j u w')(V:∀(i:Nat)(o:Oper)(a:Act)(w:World),i<n→ops[i]?=some o→(∀x∈fix,a.tmps[x.1]?=some x.2)→(∀(j:Nat)(o':Oper)(d:Nat),ops[j]?=some o'→o'.dst=some d→(∃e∈o.after,e.on=j∧Region.binds .any e=true)→∃v,a.tmps[d]?=some v∧val j v w)→Below w0.heap.size w0 w →
   ∀K:Act→World→Prop,(∀v w',val i v w'→Below w.heap.size w w'→K (a.put o.dst v) w')→o.wp P a w K Q)(B:∀(o:Oper)(a:Act)(w:World),ops[n]?=some o→(∀x∈fix,a.tmps[x.1]?=some x.2)→(∀(j:Nat)(o':Oper)(d:Nat),ops[j]?=some o'→o'.dst=some d→(∃e∈o.after,e.on=j∧Region.binds .any e=true)→∃v,a.tmps[d]?=some v∧val j v w)→Below w0.heap.size w0 w →
   ∀K:Act→World→Prop,(∀v w',Post (a.put o.dst v) w'→K (a.put o.dst v) w')→o.wp P a w K Q)(I:∀(a:Act)(w:World),a.defers=D→a.tmps.size=T→(∀x∈fix,a.tmps[x.1]?=some x.2)→Post a w→Q .normal a w)(hd:a.defers=D)(hs:a.tmps.size=T)(hf:∀x∈fix,a.tmps[x.1]?=some x.2)(h0:Below w0.heap.size w0 { w with drawn:=w.drawn+1 }):(Code.region id ops true).wp P Q a w:=by
 have key:∀(fuel:Nat)(listed:Array Bool)(a:Act)(w:World),nu D ops val fix T listed a w→listed.getD n false=false→Below w0.heap.size w0 w→mY ops listed≤fuel→wpAny P .any ops Q fuel listed a w:=by
  intro fuel
  induction fuel with
  |zero =>
   intro listed a w f g hB hu;have h:=uI (ops:=ops) (listed:=listed) (by omega);have:=h n (by omega);rw[g]at this
   cases this
  |succ fuel ih =>
   intro listed a w f g hB hu;refine⟨fun J=>?_,fun i hi=>?_⟩
   ·have:=uJ q f.kR J n (by omega);rw[g]at this
    cases this
   obtain⟨L,o,y,_⟩:=gh.1 hi;have z:i<ops.size:=(dv.1 y).1;have M:listed.getD i false=false:=by
    have hsz:i<listed.size:=by rw[f.kR];exact z
    rw[dA,dw hsz]at L ⊢;simpa using L
   unfold wpOp;rw[y];have hg:=(tM q y).2.2;have hw:Region.wanted o (yielded ops a.tmps)=true:=by simp[Region.wanted,hg]
   simp only[hw,dn]
   by_cases N:i=n
   ·subst N;refine .inl (B o a w y f.fix (fun j o' d E hd he=>f.dep y hi E hd he) hB _ fun v w' hP=>?_);have m:nu D ops (fun _ _ _=>True) fix T (listed.setIfInBounds i true) (a.put o.dst v) w' :=
     nu.put (val:=fun _ _ _=>True) (w:=w) q ⟨f.defers,f.size,f.fix,fun j o' d F h2 O=>by obtain⟨v,k1,_⟩:=f.val j o' d F h2 O;exact⟨v,k1,trivial⟩,f.kR,f.qC⟩ y hi trivial (fun _ _ _ _=>trivial)
    have h:=m.all G hn (by rw[mX _ _ _ (by rw[f.kR];exact z)];simp);have Z:=I _ _ m.defers m.size m.fix hP;have R:Region.ready .any ops (listed.setIfInBounds i true)=[]:=by
     cases hr:Region.ready .any ops (listed.setIfInBounds i true)with
     |nil=>rfl
     |cons x xs =>
      have hx:x∈Region.ready .any ops (listed.setIfInBounds i true):=by rw[hr];simp
      obtain⟨F,o2,X,_⟩:=gh.1 hx;have S:x<ops.size:=(dv.1 X).1;have O:=h x S;have Y:x<(listed.setIfInBounds i true).size:=by rw[m.kR];exact S
      rw[dA,dw Y]at F O;simp only[eE]at F O;rw[O]at F
      cases F
    cases fuel with
    |zero=>exact⟨R,Z⟩
    |succ fuel=>exact⟨fun _=>Z,fun j E=>by rw[R]at E;cases E⟩
   ·refine .inl (V i o a w (by omega) y f.fix (fun j o' d E hd he=>f.dep y hi E hd he) hB _ fun v w' hv U=>?_);have:=rz z f.kR M;refine ih _ _ _ (f.put q y hi hv fun j u _=>A _ _ j u U) ?_ (hB.trans (U.mono hB.size)) (by omega);rw[mX _ _ _ (by rw[f.kR];exact z),dt (fun e=>N e.symm)];exact g
 refine iH hm (key ops.size _ a _ ⟨hd,hs,hf,fun i o d _ g=>?_,by simp,fun i o _ g=>?_⟩ ?_ h0 ?_)
 ·simp[dA,dz]at g;split at g<;>simp at g
 ·simp[dA,dz]at g;split at g<;>simp at g
 ·simp[dA,dz];split<;>simp
 ·unfold mY;exact dE (gj _ _) (by simp)
end
end
section
open Go Go.Conc Go.RowKit Go.Proofs.YtjnkcibpkkjniaaGreat.kx
section
variable {cs:List Frame} {Q:Frame→List Frame→World→Prop} {b:Frame} {a:Act} {ops:Array Oper} {k:List Item} {xs:List Frame} {w:World}
variable {id:Nat}
theorem GX.draw(hm:Tryz.prog.follows .mixedOrders=true)(h:∀t,GX cs Q (b.at a (.inRegion ops (Region.linearise .any ops t)::k)) xs w):GX cs Q (b.at a (.code (.region id ops true)::k)) xs w:=by
 letI:Scope:=j9
 refine ku.bind (Q:=fun f x v=>∃t,f=b.at a (.inRegion ops (Region.linearise .any ops t)::k)∧x=xs∧v=w) (fun Shun ρ gs y sl t q j=>?_) (by rintro _ _ _ ⟨t,rfl,rfl,rfl⟩;exact h t);obtain⟨j8,ys,z,m,hx⟩:=j.main;obtain⟨N,gs',g',w',kn,t',q',r1,r2,A,B,E,n,rfl,d,rfl⟩:=uD (P:=Tryz.prog) (Shun:=Shun) (w:=y) (g:=G j8 (ys++cs)) (Post:=fun g' w'=>∃n,g'=G (j8.at ⟨j8.tmps,j8.defers⟩ (.inRegion ops (Region.linearise .any ops n)::k)) (ys++cs)∧∃d,w'=y.at d) rfl (fun d=>by
  have e:=m.at_;have:=stepG_region_draw (P:=Tryz.prog) (main:=true) (b:=j8) (a:=⟨j8.tmps,j8.defers⟩) (k:=k) (cs:=ys++cs) (w:=y.at d) (id:=id) (ops:=ops);rw[←e]at this;simp only[Region.schedule,hm,Bool.true_or,dn]at this;exact⟨_,_,_,this,by simp,dD _,_,rfl,d+1,rfl⟩) gs sl t q z j.leave j.past
 exact⟨N,gs',y.at d,kn,t',q',Shun,ρ,b.at a (.inRegion ops (Region.linearise .any ops n)::k),xs,w,r1,j7.le_refl _,⟨⟨_,ys,A,⟨m.fn,m.tmps.nd (j7.le_refl _) (lG.at _ _ _ d),rfl,m.defers,⟨rfl,.inl rfl⟩,m.kind,rfl,rfl⟩,hx.nd (j7.le_refl _) (lG.at _ _ _ d)⟩,⟨j.hr.obj,j.hr.inj,j.hr.base,j.hr.os,j.hr.sync⟩,B,E,⟨j.ng.cell,j.ng.obj,j.ng.low,j.ng.out⟩⟩,⟨n,rfl,rfl,rfl⟩,lG.at _ _ _ d⟩
def strip (ops:Array Oper):Array Oper:=ops.map fun o=>{ o with guard:=none }
variable {i:Nat} {o:Oper}
theorem sH(d:ops[i]?=some o):(strip ops)[i]?=some { o with guard:=none }:=by simp[strip,d]
theorem oM:(strip ops).size=ops.size:=by simp[strip]
theorem O5(d:(strip ops)[i]?=some o):∃o',ops[i]?=some o'∧o={ o' with guard:=none }:=by
 simp only[strip,dV,eo]at d;obtain⟨o',f,g⟩:=d;exact⟨o',f,g.symm⟩
variable {listed:Array Bool}
theorem DZ(h:i∈Region.ready .any ops listed):i∈Region.ready .any (strip ops) listed:=by
 obtain⟨d,o,f,g⟩:=gh.1 h;exact gh.2 ⟨d,_,sH f,g⟩
theorem D1(h:i∈Region.ready .any (strip ops) listed):i∈Region.ready .any ops listed:=by
 obtain⟨d,o,f,g⟩:=gh.1 h;obtain⟨o',j,rfl⟩:=O5 f;exact gh.2 ⟨d,_,j,g⟩
variable {val:Nat→Value→World→Prop} {fix:List (Nat×Value)} {T:Nat} {w0:World} {Post:Act→World→Prop} {n:Nat} {D:List Deferred}
theorem GX.lb(hm:Tryz.prog.follows .mixedOrders=true)(z:lh (strip ops) (fix.map (·.1)) T=true)(I:lO (strip ops)=true)(hn:ops.size=n+1)(A:∀w w' j u,Below w.heap.size w w'→val j u w→val j u w')(Y:∀(i:Nat)(o:Oper)(a:Act)(w:World)(l:List Nat),i<n→ops[i]?=some o→(∀x∈fix,a.tmps[x.1]?=some x.2)→(∀(j:Nat)(o':Oper)(d:Nat),ops[j]?=some o'→o'.dst=some d→(∃e∈o.after,e.on=j∧Region.binds .any e=true)→∃v,a.tmps[d]?=some v∧val j v w)→Below w0.heap.size w0 w →
   (∀v w',val i v w'→Below w.heap.size w w'→GX cs Q (b.at (a.put o.dst v) (.inRegion ops l::k)) xs w')→GX cs Q (b.at a (.inRegion ops (i::l)::k)) xs w)(B:∀(o:Oper)(a:Act)(w:World)(l:List Nat),ops[n]?=some o→(∀x∈fix,a.tmps[x.1]?=some x.2)→(∀(j:Nat)(o':Oper)(d:Nat),ops[j]?=some o'→o'.dst=some d→(∃e∈o.after,e.on=j∧Region.binds .any e=true)→∃v,a.tmps[d]?=some v∧val j v w)→Below w0.heap.size w0 w→a.tmps.size=T →
   (∀v w',Post (a.put o.dst v) w'→GX cs Q (b.at (a.put o.dst v) (.inRegion ops l::k)) xs w')→GX cs Q (b.at a (.inRegion ops (n::l)::k)) xs w)(J:∀(a:Act)(w:World),a.defers=D→a.tmps.size=T→(∀x∈fix,a.tmps[x.1]?=some x.2)→Post a w→GX cs Q (b.at a k) xs w)(hd:a.defers=D)(hs:a.tmps.size=T)(hf:∀x∈fix,a.tmps[x.1]?=some x.2)(h0:Below w0.heap.size w0 w):GX cs Q (b.at a (.code (.region id ops true)::k)) xs w:=by
 have key:∀(fuel t:Nat)(listed:Array Bool)(a:Act)(w:World),nu D (strip ops) val fix T listed a w→listed.getD n false=false→Below w0.heap.size w0 w→mY (strip ops) listed≤fuel→GX cs Q (b.at a (.inRegion ops (Region.linearise.go .any ops fuel t listed [])::k)) xs w:=by
  intro fuel
  induction fuel with
  |zero =>
   intro t listed a w g h hB hu;have:=uI (ops:=strip ops) (listed:=listed) (by omega) n (by rw[oM];omega);rw[h]at this
   cases this
  |succ fuel ih =>
   intro t listed a w g h hB hu;simp only[Region.linearise.go];change GX cs Q (b.at a (.inRegion ops (match(Region.ready .any ops listed)[t % (Region.ready .any ops listed).length]? with
    |some i=>Region.linearise.go .any ops fuel (t / (Region.ready .any ops listed).length) (listed.setIfInBounds i true) [i]
    |none=>[].reverse)::k)) xs w
   cases hi:(Region.ready .any ops listed)[t % (Region.ready .any ops listed).length]? with
   |none =>
    have K:Region.ready .any ops listed=[]:=by
     cases hr:Region.ready .any ops listed with
     |nil=>rfl
     |cons x xs =>
      rw[hr]at hi;have Z:t % (x::xs).length<(x::xs).length:=gp _ (by simp);simp at hi;simp at Z;omega
    have E:Region.ready .any (strip ops) listed=[]:=by
     cases hr:Region.ready .any (strip ops) listed with
     |nil=>rfl
     |cons x xs =>
      have:=D1 (ops:=ops) (listed:=listed) (i:=x) (by rw[hr];simp);rw[K]at this
      cases this
    have:=uJ z g.kR E n (by rw[oM];omega);rw[h]at this
    cases this
   |some i =>
    simp only[];rw[linearise_go_acc,gq,gu];have L:i∈Region.ready .any ops listed:=gv hi;have m:=DZ L;obtain⟨M,o,F,_⟩:=gh.1 L;have N:i<ops.size:=(dv.1 F).1;have hsz:i<listed.size:=by rw[g.kR,oM];exact N
    have O:listed.getD i false=false:=by
     rw[dA,dw hsz]at M ⊢;simpa using M
    have y:∀(j:Nat)(o':Oper)(d:Nat),ops[j]?=some o'→o'.dst=some d→(∃e∈o.after,e.on=j∧Region.binds .any e=true)→∃v,a.tmps[d]?=some v∧val j v w:=fun j o' d hj hd he=>g.dep (sH F) m (sH hj) hd he
    by_cases R:i=n
    ·subst R;refine B o a w _ F g.fix y hB g.size fun v w' hP=>?_
     have q:nu D (strip ops) (fun _ _ _=>True) fix T (listed.setIfInBounds i true) (a.put o.dst v) w' :=
      nu.put (val:=fun _ _ _=>True) (w:=w) z ⟨g.defers,g.size,g.fix,fun j o' d G h2 S=>by obtain⟨v,k1,_⟩:=g.val j o' d G h2 S;exact⟨v,k1,trivial⟩,g.kR,g.qC⟩ (sH F) m trivial (fun _ _ _ _=>trivial)
     have U:=q.all I (by rw[oM];exact hn) (by rw[mX _ _ _ hsz];simp);have aa:Region.ready .any ops (listed.setIfInBounds i true)=[]:=by
      cases hr:Region.ready .any ops (listed.setIfInBounds i true)with
      |nil=>rfl
      |cons x xs =>
       have hx:x∈Region.ready .any ops (listed.setIfInBounds i true):=by rw[hr];simp
       obtain⟨G,o2,ab,_⟩:=gh.1 hx;have V:x<ops.size:=(dv.1 ab).1;have S:=U x (by rw[oM];exact V);have ad:x<(listed.setIfInBounds i true).size:=by rw[q.kR,oM];exact V
       rw[dA,dw ad]at G S;simp only[eE]at G S;rw[S]at G
       cases G
     have hgo:∀f t,Region.linearise.go .any ops f t (listed.setIfInBounds i true) []=[]:=by
      intro f t
      cases f with
      |zero=>rfl
      |succ f =>
       simp only[Region.linearise.go];change(match(Region.ready .any ops (listed.setIfInBounds i true))[t % (Region.ready .any ops (listed.setIfInBounds i true)).length]? with
        |some j=>Region.linearise.go .any ops f (t / (Region.ready .any ops (listed.setIfInBounds i true)).length) ((listed.setIfInBounds i true).setIfInBounds j true) [j]
        |none=>[].reverse)=[]
       rw[aa];rfl
     rw[hgo];exact GX.kT (J _ _ q.defers q.size q.fix hP)
    ·refine Y i o a w _ (by omega) F g.fix y hB fun v w' hv X=>?_
     have:=rz (ops:=strip ops) (by rw[oM];exact N) g.kR O;refine ih _ _ _ _ (g.put z (sH F) m hv fun j u _=>A _ _ j u X) ?_ (hB.trans (X.mono hB.size)) (by omega);rw[mX _ _ _ hsz,dt (fun e=>R e.symm)];exact h
 refine GX.draw hm fun t=>?_
 refine key ops.size t _ a w ⟨hd,hs,hf,fun i o d _ h=>?_,by simp[oM],fun i o _ h=>?_⟩ ?_ h0 ?_
 ·simp[dA,dz]at h;split at h<;>simp at h
 ·simp[dA,dz]at h;split at h<;>simp at h
 ·simp[dA,dz];split<;>simp
 ·unfold mY;exact dE (gj _ _) (by simp[oM])
end
variable {cs xs:List Frame} {Q:Frame→List Frame→World→Prop} {b:Frame} {a:Act} {ops:Array Oper} {i:Nat} {l:List Nat} {k:List Item} {w:World} {o:Oper}
theorem GX.append(j:ops[i]?=some o)(hw:Region.wanted o (yielded ops a.tmps)=true)(f:@oB j9 Tryz.prog o=true)(s x:Operand)(t:TypeId)(g:o.op=Op.call { callee:=Callee.builtin Builtin.append,args:=#[s,x],argTypes:=#[t,t] }){sv xv:Value}(m:a.eval s=sv)(hx:a.eval x=xv)(d:∀T,∃v w2,(Builtin.append_ #[t,t] o.type #[sv,xv]).run Tryz.prog (again w T)=.ok v w2∧GX cs Q (b.at (a.put o.dst v) (.inRegion ops l::k)) xs w2)(hu:mR o.op.operands a.eval=true:=by first|rfl|(simp[mR,Op.operands,Call.operands,Act.eval,sx,sA,sB,sC,sD,sE,sF,sG, *])):GX cs Q (b.at a (.inRegion ops (i::l)::k)) xs w :=
 GX.DX (hu:=hu) j hw f fun T=>by
  obtain⟨v,w2,e,h⟩:=d T;refine⟨v,w2,?_,h⟩;simp[execOp,g,resolve,invoke,builtin,m,hx,e,Result.andThen]
theorem GX.AL(A:ops[i]?=some o)(hw:Region.wanted o (yielded ops a.tmps)=true){x y z:Operand}{f:Array TypeId}(g:o.op=.call { callee:=.value (.func 17),args:=#[x,y,z],argTypes:=f })(d:(#[x,y,z]:Array Operand).all (@lN j9)=true){v0 v1 v2:Value}(j:a.eval x=v0)(m:a.eval y=v1)(q:a.eval z=v2)(h:GX cs Q ((base 17).at { tmps:=#[v0,v1,v2]++Array.replicate 19 undef,defers:=[] } [.code (Tryz.f17.body.getD .skip)]) (b.at a (.inRegion ops (i::l)::k)::xs) w)(m0:lu v0=false:=by rfl)(B:lu v1=false:=by rfl)(m2:lu v2=false:=by rfl):GX cs Q (b.at a (.inRegion ops (i::l)::k)) xs w:=by
 have hma:mR #[x,y,z] a.eval=true:=by simp[mR,j,m,q,m0,B,m2]
 refine GX.wO (hma:=hma) A hw g d Tryz.func17 rfl rfl ?_;have e:(#[x,y,z]:Array Operand).map a.eval=#[v0,v1,v2]:=by simp[j,m,q]
 rw[e];exact h
theorem yF(d:ops[i]?=some o)(v:Value):(b.at a (.inRegion ops (i::l)::k)).finish v=b.at (a.put o.dst v) (.inRegion ops l::k):=by rw[ft,d];rfl
theorem vU{C:Array Value}(h:C.size=83):∃k0 k1 k2 k3 k4 k5 k6 k7 k8 k9 d f g j m q x y z A B E F G I J K L M N O R S U V X Y Z aa ab ad ae af ag ah ai aj ak al am an ao ap aq ar au av aw ax ay az aA aB aC aD aE aF aG aH aI aJ aK aL aM aN aO aP aQ aR aS aT aU aV,C=#[k0,k1,k2,k3,k4,k5,k6,k7,k8,k9,d,f,g,j,m,q,x,y,z,A,B,E,F,G,I,J,K,L,M,N,O,R,S,U,V,X,Y,Z,aa,ab,ad,ae,af,ag,ah,ai,aj,ak,al,am,an,ao,ap,aq,ar,au,av,aw,ax,ay,az,aA,aB,aC,aD,aE,aF,aG,aH,aI,aJ,aK,aL,aM,aN,aO,aP,aQ,aR,aS,aT,aU,aV]:=by
 obtain⟨l⟩:=C
 match l,h with
 |k0::k1::k2::k3::k4::k5::k6::k7::k8::k9::d::f::g::j::m::q::x::y::z::A::B::E::F::G::I::J::K::L::M::N::O::R::S::U::V::X::Y::Z::aa::ab::ad::ae::af::ag::ah::ai::aj::ak::al::am::an::ao::ap::aq::ar::au::av::aw::ax::ay::az::aA::aB::aC::aD::aE::aF::aG::aH::aI::aJ::aK::aL::aM::aN::aO::aP::aQ::aR::aS::aT::aU::aV::[],_=>exact⟨_,_,_,_,_,_,_,_,_,_,_,_,_,_,_,_,_,_,_,_,_,_,_,_,_,_,_,_,_,_,_,_,_,_,_,_,_,_,_,_,_,_,_,_,_,_,_,_,_,_,_,_,_,_,_,_,_,_,_,_,_,_,_,_,_,_,_,_,_,_,_,_,_,_,_,_,_,_,_,_,_,_,_,rfl⟩
section
variable {cs:List Frame} {Q:Frame→List Frame→World→Prop} {b:Frame} {a:Act} {ops:Array Oper} {k:List Item} {xs:List Frame} {w:World}
variable {val:Nat→Value→World→Prop} {fix:List (Nat×Value)} {T:Nat} {w0:World} {Post:Act→World→Prop} {n:Nat} {D:List Deferred}
theorem GX.O6{id c:Nat}{S:World→Prop}(hm:Tryz.prog.follows .mixedOrders=true)(E:lh (strip ops) (fix.map (·.1)) T=true)(O:lO (strip ops)=true)(hn:ops.size=n+1)(ao:c<n)(y:∀w w' j u,j≠c→val j u w→val j u w')(F:∀w w' u,w'.heap=w.heap→val c u w→val c u w')(ag:∀w w',w'.heap=w.heap→S w→S w')(ah:∀(i:Nat)(o:Oper)(a:Act)(w:World)(l:List Nat),i<n→i≠c→ops[i]?=some o→(∀x∈fix,a.tmps[x.1]?=some x.2)→(∀(j:Nat)(o':Oper)(d:Nat),ops[j]?=some o'→o'.dst=some d→(∃e∈o.after,e.on=j∧Region.binds .any e=true)→∃v,a.tmps[d]?=some v∧val j v w)→S w →
   (∀v w',val i v w'→w'.heap=w.heap→GX cs Q (b.at (a.put o.dst v) (.inRegion ops l::k)) xs w')→GX cs Q (b.at a (.inRegion ops (i::l)::k)) xs w)(I:∀(o:Oper)(a:Act)(w:World)(l:List Nat),ops[c]?=some o→(∀x∈fix,a.tmps[x.1]?=some x.2)→(∀(j:Nat)(o':Oper)(d:Nat),ops[j]?=some o'→o'.dst=some d→(∃e∈o.after,e.on=j∧Region.binds .any e=true)→∃v,a.tmps[d]?=some v∧val j v w)→w.heap=w0.heap →
   (∀v w',val c v w'→S w'→GX cs Q (b.at (a.put o.dst v) (.inRegion ops l::k)) xs w')→GX cs Q (b.at a (.inRegion ops (c::l)::k)) xs w)(J:∀(o:Oper)(a:Act)(w:World)(l:List Nat),ops[n]?=some o→(∀x∈fix,a.tmps[x.1]?=some x.2)→(∀(j:Nat)(o':Oper)(d:Nat),ops[j]?=some o'→o'.dst=some d→(∃e∈o.after,e.on=j∧Region.binds .any e=true)→∃v,a.tmps[d]?=some v∧val j v w)→S w→a.tmps.size=T →
   (∀v w',Post (a.put o.dst v) w'→GX cs Q (b.at (a.put o.dst v) (.inRegion ops l::k)) xs w')→GX cs Q (b.at a (.inRegion ops (n::l)::k)) xs w)(R:∀(a:Act)(w:World),a.defers=D→a.tmps.size=T→(∀x∈fix,a.tmps[x.1]?=some x.2)→Post a w→GX cs Q (b.at a k) xs w)(hd:a.defers=D)(hs:a.tmps.size=T)(hf:∀x∈fix,a.tmps[x.1]?=some x.2)(h0:S w)(ai:w.heap=w0.heap):GX cs Q (b.at a (.code (.region id ops true)::k)) xs w:=by
 have key:∀(fuel t:Nat)(listed:Array Bool)(a:Act)(w:World),nu D (strip ops) val fix T listed a w→listed.getD n false=false→S w→(listed.getD c false=false→w.heap=w0.heap)→mY (strip ops) listed≤fuel→GX cs Q (b.at a (.inRegion ops (Region.linearise.go .any ops fuel t listed [])::k)) xs w:=by
  intro fuel
  induction fuel with
  |zero =>
   intro t listed a w g q hB hC hu;have:=uI (ops:=strip ops) (listed:=listed) (by omega) n (by rw[oM];omega);rw[q]at this
   cases this
  |succ fuel ih =>
   intro t listed a w g q hB hC hu;simp only[Region.linearise.go];change GX cs Q (b.at a (.inRegion ops (match(Region.ready .any ops listed)[t % (Region.ready .any ops listed).length]? with
    |some i=>Region.linearise.go .any ops fuel (t / (Region.ready .any ops listed).length) (listed.setIfInBounds i true) [i]
    |none=>[].reverse)::k)) xs w
   cases hi:(Region.ready .any ops listed)[t % (Region.ready .any ops listed).length]? with
   |none =>
    have U:Region.ready .any ops listed=[]:=by
     cases hr:Region.ready .any ops listed with
     |nil=>rfl
     |cons x xs =>
      rw[hr]at hi;have aj:t % (x::xs).length<(x::xs).length:=gp _ (by simp);simp at hi;simp at aj;omega
    have K:Region.ready .any (strip ops) listed=[]:=by
     cases hr:Region.ready .any (strip ops) listed with
     |nil=>rfl
     |cons x xs =>
      have:=D1 (ops:=ops) (listed:=listed) (i:=x) (by rw[hr];simp);rw[U]at this
      cases this
    have:=uJ E g.kR K n (by rw[oM];omega);rw[q]at this
    cases this
   |some i =>
    simp only[];rw[linearise_go_acc,gq,gu];have V:i∈Region.ready .any ops listed:=gv hi;have m:=DZ V;obtain⟨X,o,G,_⟩:=gh.1 V;have Y:i<ops.size:=(dv.1 G).1;have hsz:i<listed.size:=by rw[g.kR,oM];exact Y
    have z:listed.getD i false=false:=by
     rw[dA,dw hsz]at X ⊢;simpa using X
    have A:∀(j:Nat)(o':Oper)(d:Nat),ops[j]?=some o'→o'.dst=some d→(∃e∈o.after,e.on=j∧Region.binds .any e=true)→∃v,a.tmps[d]?=some v∧val j v w:=fun j o' d Z hd he=>g.dep (sH G) m (sH Z) hd he
    by_cases aa:i=n
    ·subst aa;refine J o a w _ G g.fix A hB g.size fun v w' hP=>?_
     have B:nu D (strip ops) (fun _ _ _=>True) fix T (listed.setIfInBounds i true) (a.put o.dst v) w' :=
      nu.put (val:=fun _ _ _=>True) (w:=w) E ⟨g.defers,g.size,g.fix,fun j o' d N h2 h3=>by obtain⟨v,k1,_⟩:=g.val j o' d N h2 h3;exact⟨v,k1,trivial⟩,g.kR,g.qC⟩ (sH G) m trivial (fun _ _ _ _=>trivial)
     have ab:=B.all O (by rw[oM];exact hn) (by rw[mX _ _ _ hsz];simp);have ak:Region.ready .any ops (listed.setIfInBounds i true)=[]:=by
      cases hr:Region.ready .any ops (listed.setIfInBounds i true)with
      |nil=>rfl
      |cons x xs =>
       have hx:x∈Region.ready .any ops (listed.setIfInBounds i true):=by rw[hr];simp
       obtain⟨N,o2,al,_⟩:=gh.1 hx;have ad:x<ops.size:=(dv.1 al).1;have h3:=ab x (by rw[oM];exact ad);have am:x<(listed.setIfInBounds i true).size:=by rw[B.kR,oM];exact ad
       rw[dA,dw am]at N h3;simp only[eE]at N h3;rw[h3]at N
       cases N
     have hgo:∀f t,Region.linearise.go .any ops f t (listed.setIfInBounds i true) []=[]:=by
      intro f t
      cases f with
      |zero=>rfl
      |succ f =>
       simp only[Region.linearise.go];change(match(Region.ready .any ops (listed.setIfInBounds i true))[t % (Region.ready .any ops (listed.setIfInBounds i true)).length]? with
        |some j=>Region.linearise.go .any ops f (t / (Region.ready .any ops (listed.setIfInBounds i true)).length) ((listed.setIfInBounds i true).setIfInBounds j true) [j]
        |none=>[].reverse)=[]
       rw[ak];rfl
     rw[hgo];exact GX.kT (R _ _ B.defers B.size B.fix hP)
    ·have ap:=rz (ops:=strip ops) (by rw[oM];exact Y) g.kR z;have ae:(listed.setIfInBounds i true).getD n false=false:=by
      rw[mX _ _ _ hsz,dt (fun e=>aa e.symm)];exact q
     by_cases L:i=c
     ·subst L;refine I o a w _ G g.fix A (hC z) fun v w' hv an=>?_
      refine ih _ _ _ _ (g.put E (sH G) m hv fun j u Z=>y _ _ j u fun e=>?_) ae an (fun h=>?_) (by omega)
      ·rw[e,z]at Z
       cases Z
      ·rw[mX _ _ _ hsz,dr rfl]at h
       cases h
     ·refine ah i o a w _ (by omega) L G g.fix A hB fun v w' hv M=>?_
      refine ih _ _ _ _ (g.put E (sH G) m hv fun j u Z=>?_) ae (ag _ _ M hB) (fun h=>M.trans (hC ?_)) (by omega)
      ·by_cases af:j=c
       ·subst af;exact F _ _ u M
       ·exact y _ _ j u af
      ·rw[mX _ _ _ hsz,dt (fun e=>L e.symm)]at h;exact h
 refine GX.draw hm fun t=>?_
 refine key ops.size t _ a w ⟨hd,hs,hf,fun i o d _ q=>?_,by simp[oM],fun i o _ q=>?_⟩ ?_ h0 (fun _=>ai) ?_
 ·simp[dA,dz]at q;split at q<;>simp at q
 ·simp[dA,dz]at q;split at q<;>simp at q
 ·simp[dA,dz];split<;>simp
 ·unfold mY;exact dE (gj _ _) (by simp[oM])
end
end
end Go.Proofs.YtjnkcibpkkjniaaGreat.kN
namespace Go.Proofs.YtjnkcibpkkjniaaGreat
section
open Go Go.Conc
variable {s:OpenSpec}
theorem O7{H:Type}{enc:TypeId×Value→H}{a:Assume}{C:Checked}{os:Os}{f:FuncId}{fn:Func}{k:(H:Type)→List (DataW H)→Bool}(y:s.cond=some k){F:Stop.Interp}{conds:List PathCond}{apart fresh handsOn again:Bool}(own:ownKnob C.prog.godebug=none)(started:os.Started)(m:C.prog.funcs[f]?=some fn)(witness:∃(w:World)(tape:Tape)(i:Input),w.os=os∧(w.forCall tape i).Shaped C.prog∧i.vars=[]∧Input.okWide C.prog (w.forCall tape i) .any w.heap.size f i∧s.pre6 enc C.prog fn conds apart (w.forCall tape i).memory i.args∧a.holds C.prog (lone (Frame.enter C.prog f i.args .normal) [] (w.forCall tape i)))(runs:∀(W:World)(base:Nat)(args:Array Value)(ds gs:List (DataW H)) (before:List MemPlace),(∀(j:Nat) t v,fn.params[j]?=some t→args[j]?=some v→Value.okWide C.prog W .any base t v)→DataW.Whole enc C.prog fn.params.toList s.vars apart W args.toList ds gs before→k H (ds++gs)=true →
   (DataW.weightsEach C.prog (fn.params.toList++s.bare.plain.varTypes C.prog) (ds++gs)).all (·≤reachBytes)=true →
   ∃M last o w' t',runNT C.prog (M+1) (solo (G (Frame.enter C.prog f args .normal) []) W) #[]=(.ended o w',t')∧runN C.prog M (solo (G (Frame.enter C.prog f args .normal) []) W)=.next last∧step C.prog last=.ended o w'∧Conc.Good C.prog (fun v z=>(s.at F).post enc C.prog fn apart fresh handsOn again W args v z) last o w' t'):ReturnsInLeavingWide a C os f .any (s.pre6 enc C.prog fn conds apart) ((s.at F).post enc C.prog fn apart fresh handsOn again):=by
 refine returnsInLeavingWide_of_good own started witness fun w tape i _ _ _ q d _=>?_
 obtain⟨_,_,_,g,A,_,_,_,_,h⟩:=q;obtain rfl:g=fn:=ff (A.symm.trans m);obtain⟨ds,gs,before,hw,_,x⟩:=(OpenSpec.pre_some y conds apart _ _).1 d.1;obtain⟨M,last,o,w',t',B,E,I,J⟩:=runs (w.forCall tape i) w.heap.size i.args ds gs before h (DataW.Whole.of_heap (w':=w.forCall tape i) (by rfl) hw) x (d.2.weights hw);exact⟨M,last,o,w',t',B,E,I,J.mono fun v hp=>ChangeSpec.post_blind hp⟩
theorem O8{p:Pinned}{c:OpenClaim}(f:FuncId)(fn:Func)(O:c.program=p.name)(R:c.sum=p.sum)(kp:c.spec=s.name)(hstart:c.start=.entering)(d:c.outside=[])(A:c.inits=[])(B:c.under=none)(E:c.initsInPlace=[]∧c.initsUnfollowed=false∧c.initsRecurse=false∧c.initsNamed=[]∧c.initsPassed=[])(y:c.noBlocks=false)(G:c.leaving=true)(j:c.followed=none)(z:c.narrowed=s.cond.isSome)(g:c.still=false)(I:p.checked.prog.funcNamed c.func=some f)(S:p.checked.prog.funcs[f]?=some fn)(closed:joinedFacts p.checked.prog f fn s.bare c=true)(q:fn.isInstance p.checked.prog c.origin c.targs)(x:fn.isWrapper p.checked.prog c.wrapper c.mainSum)(h:∀os:Os,os.Started→∀(H:Type)(enc:TypeId×Value→H),∀F:Stop.Interp,ReturnsInLeavingWide c.assume p.checked os f .any (c.pre enc p.checked.prog fn s) ((s.at F).post enc p.checked.prog fn c.apart c.fresh c.handsOn c.again)):c.holds p s:=by
 simp only[joinedFacts,ep,beq_iff_eq,dB,eu,ej]at closed;obtain⟨⟨⟨⟨⟨⟨⟨⟨⟨⟨⟨⟨⟨⟨⟨⟨⟨⟨⟨⟨⟨⟨⟨⟨⟨⟨⟨⟨⟨⟨⟨U,V⟩,X⟩,Y⟩,Z⟩,L⟩,a7⟩,a8⟩,J⟩,b0⟩,b1⟩,b2⟩,b3⟩,b4⟩,b5⟩,b6⟩,b7⟩,b8⟩,b9⟩,c0⟩,c1⟩,c2⟩,c3⟩,c4⟩,c5⟩,M⟩,c7⟩,c8⟩,c9⟩,d0⟩,d1⟩,d2⟩:=closed;have hq:∀os:Os,Stop.quiet p.checked.prog os:=fun os k N=>by rw[J]at N;cases N
 refine⟨U,O,R,kp,V,X,?_,?_,f,fn,I,S,⟨Y,c0⟩,(fun e=>by rw[y]at e;cases e),?_,q,x,L.trans a7.symm,⟨a8.trans J.symm,?_,c5⟩,b0,b1,b2,b3,b4,⟨b5,d1,d2⟩,⟨b6,c1⟩,⟨b7,c2,c9,d0⟩,⟨c3,c7,c8,b8⟩,?_,fun m hm=>varReadable_some (b9 m hm),⟨_,by unfold OpenClaim.world;rw[d,hstart];exact WideRow.started_initial,hq _⟩,[],?_,fun os st _ H enc _=>?_⟩
 ·unfold OpenClaim.startFits;rw[hstart];exact M
 ·unfold OpenClaim.startTold;rw[hstart];exact⟨A,B,E⟩
 ·unfold OpenClaim.namedList;rw[j];exact Z
 ·unfold Program.envWorded;rw[J];rfl
 ·rw[d,z]
  cases K:c.shortTexts with
  |none=>simp
  |some _=>rw[K]at c4;cases c4
 ·unfold OpenClaim.lists;rw[j]
 ·have st':os.Started:=by unfold OpenClaim.world at st;rw[d,hstart]at st;exact st
  rw[OpenClaim.post_not_still g];unfold OpenClaim.form;rw[hstart,L];intro F;rw[show c.okInput=Input.okWide by unfold OpenClaim.okInput;rw[y],show c.atReturn p.checked.prog=leavingAtReturn p.checked.prog by unfold OpenClaim.atReturn;rw[G],show c.always p.checked.prog []=nothingAlways by unfold OpenClaim.always;rw[j]];show ReturnsInOpen _ _ _ _ _ _ _ _ (s.post enc p.checked.prog fn F c.outside c.apart c.fresh c.handsOn c.again) _ _;rw[show s.post enc p.checked.prog fn F c.outside c.apart c.fresh c.handsOn c.again=(s.at F).post enc p.checked.prog fn c.apart c.fresh c.handsOn c.again by rw[d];rfl];exact h os st' H enc F M
end
end Go.Proofs.YtjnkcibpkkjniaaGreat
namespace Go.Proofs.YtjnkcibpkkjniaaGreat.kx
section
open Go
section
variable [Scope]
theorem xu{ρ:j7}(d:Scope.sync=true){b:Nat}{x:Span}(hb:ρ b=some ⟨b,some x⟩):(v:Value)→∃u,VR ρ u v
 | .bool c=>⟨_,.bool c⟩
 | .int k n=>⟨_,.int k n⟩
 | .float ..=>⟨_,.hole d rfl⟩
 | .complex ..=>⟨_,.hole d rfl⟩
 | .string s=>⟨_,.string s⟩
 | .pointer none=>⟨_,.o4⟩
 | .pointer (some a)=>⟨_,.hole d rfl⟩
 | .slice none l c=>⟨_,.mI l c⟩
 | .slice (some a) l c=>⟨_,.hole d rfl⟩
 | .map none=>⟨_,.qS⟩
 | .map (some a)=>⟨_,.hole d rfl⟩
 | .chan none=>⟨_,.rr⟩
 | .chan (some a)=>⟨_,.hole d rfl⟩
 | .nilFunc=>⟨_,.nilFunc⟩
 | .nilIface=>⟨_,.nilIface⟩
 | .iface t v=>by
  obtain⟨u,hu⟩:=xu d hb v;exact⟨_,.iface hu⟩
 | .agg xs=>by
  have h:∀i:Fin xs.size,∃u,VR ρ u xs[i]:=fun i=>xu d hb xs[i]
  refine⟨.agg (Array.ofFn fun i=>Classical.choose (h i)),.agg (by simp) fun i v v' a c=>?_⟩;have hi:i<xs.size:=(dv.1 c).1;simp[hi]at a c;rw[←a,←c];exact iI (h ⟨i,hi⟩)
 | .tuple xs=>by
  have h:∀i:Fin xs.size,∃u,VR ρ u xs[i]:=fun i=>xu d hb xs[i]
  refine⟨.tuple (Array.ofFn fun i=>Classical.choose (h i)),.tuple (by simp) fun i v v' a c=>?_⟩;have hi:i<xs.size:=(dv.1 c).1;simp[hi]at a c;rw[←a,←c];exact iI (h ⟨i,hi⟩)
 | .func f xs ys=>by cases f<;>first|exact⟨_,.o7 d⟩|exact⟨_,.hole d rfl⟩
def xw:Value→Bool
 | .bool _ | .int .. | .string _ | .slice none _ _=>true
 |_=>false
theorem O9{ρ:j7}(hid:∀r p,ρ r=some p→p.block=r∧p.shift=0)(m:Scope.base=0)(d:Scope.sync=true){b:Nat}{x:Span}(hb:ρ b=some ⟨b,some x⟩)(v:Value):∃u,VR ρ u v∧(xw v=true→u=v)∧(∀a l c,v=.slice (some a) l c→(∃p,ρ a.block=some p)→u=v)∧(∀a,v=.slice (some a) 0 0→∃a',u=.slice (some a') 0 0):=by
 by_cases f:∃a l c,v=.slice (some a) l c
 ·obtain⟨a,l,c,rfl⟩:=f
  by_cases hp:∃p,ρ a.block=some p
  ·obtain⟨p,hp⟩:=hp;exact⟨_,.slice l c ⟨by rw[m];exact eP _,p,hp,(hid _ _ hp).1.symm,by rw[(hid _ _ hp).2];omega,rfl⟩,fun _=>rfl,fun _ _ _ _ _=>rfl,fun a' e=>(by cases e;exact⟨_,rfl⟩)⟩
  ·by_cases j:l=0∧c=0
   ·obtain⟨rfl,rfl⟩:=j;exact⟨.slice (some ⟨b,0,none⟩) 0 0,.nD d ⟨b,x,hb⟩,fun e=>(by cases e),fun a' l c e h=>(by cases e;exact absurd h hp),fun _ _=>⟨_,rfl⟩⟩
   ·obtain⟨u,hu⟩:=xu d hb (.slice (some a) l c);exact⟨u,hu,fun e=>(by cases e),fun a' l c e h=>(by cases e;exact absurd h hp),fun a' e=>(by cases e;exact absurd ⟨rfl,rfl⟩ j)⟩
 ·obtain⟨u,hu⟩:=xu d hb v
  by_cases g:xw v=true
  ·refine⟨v,?_,fun _=>rfl,fun _ _ _ _ _=>rfl,fun a e=>absurd ⟨_,_,_,e⟩ f⟩
   cases v with
   |bool b=>exact .bool b
   |int k n=>exact .int k n
   |string s=>exact .string s
   |slice a l c =>
    cases a with
    |none=>exact .mI l c
    |some a=>cases g
   |_=>cases g
  ·exact⟨u,hu,fun e=>absurd e g,fun a l c e=>absurd ⟨_,_,_,e⟩ f,fun a e=>absurd ⟨_,_,_,e⟩ f⟩
end
def oH (W:World):j7:=fun b=>match W.heap[b]? with
 |some (.cells C e fr)=>if 0<C.size then some ⟨b,some ⟨0,0,(e,C.size)⟩⟩ else some ⟨b,none⟩
 |_=>none
variable {W:World} {b:Nat} {C:Array Value} {e:TypeId} {fr:Nat×Nat}
theorem D2(h:W.heap[b]?=some (.cells C e fr))(d:0<C.size):oH W b=some ⟨b,some ⟨0,0,(e,C.size)⟩⟩:=by
 unfold oH;rw[h];simp only;rw[dr d]
theorem Pa(h:W.heap[b]?=some (.cells C e fr))(d:¬0<C.size):oH W b=some ⟨b,none⟩:=by
 unfold oH;rw[h];simp only;rw[dt d]
theorem AM(h:W.heap[b]?=some (.cells C e fr)):∃p,oH W b=some p:=by
 by_cases d:0<C.size
 ·exact⟨_,D2 h d⟩
 ·exact⟨_,Pa h d⟩
variable {p:Place}
theorem AN(h:oH W b=some p):∃C e fr,W.heap[b]?=some (.cells C e fr)∧((0<C.size∧p=⟨b,some ⟨0,0,(e,C.size)⟩⟩)∨(¬0<C.size∧p=⟨b,none⟩)):=by
 unfold oH at h;split at h
 ·rename_i C e fr hW;refine⟨C,e,fr,hW,?_⟩;split at h
  ·rename_i d
   cases h
   exact .inl ⟨d,rfl⟩
  ·rename_i d
   cases h
   exact .inr ⟨d,rfl⟩
 ·cases h
theorem AO(h:oH W b=some p):p=⟨b,none⟩∨∃ty,p=⟨b,some ⟨0,0,ty⟩⟩:=by
 obtain⟨C,e,fr,_,⟨_,rfl⟩|⟨_,rfl⟩⟩:=AN h
 ·exact .inr ⟨_,rfl⟩
 ·exact .inl rfl
theorem vV(h:oH W b=some p):p.block=b∧p.shift=0:=by
 rcases AO h with rfl|⟨ty,rfl⟩
 ·exact⟨rfl,rfl⟩
 ·exact⟨rfl,rfl⟩
section
variable [Scope]
structure uX (W:World) (u v:Value):Prop where
 vr:VR (oH W) u v
 flat:xw v=true→u=v
 own:∀a l c,v=.slice (some a) l c→(∃p,oH W a.block=some p)→u=v
 nil:∀a,v=.slice (some a) 0 0→∃a',u=.slice (some a') 0 0
def D3 (W:World) (o o':Obj):Prop:=∀C e fr,o'=.cells C e fr→∃c,o=.cells c e (if 0<C.size then(0,C.size) else fr)∧c.size=C.size∧∀(i:Nat) u v,c[i]?=some u→C[i]?=some v→uX W u v
theorem Pb(j:Scope.base=0)(g:Scope.sync=true){W:World}{b:Nat}{o':Obj}(hb:W.heap[b]?=some o'):∃o,D3 W o o':=by
 cases o' with
 |cells C e fr =>
  by_cases f:0<C.size
  ·have h:∀i:Fin C.size,∃u,uX W u C[i]:=fun i=>by
    obtain⟨u,m,q,x,y⟩:=O9 (fun r p h=>vV h) j g (D2 hb f) C[i];exact⟨u,m,q,x,y⟩
   refine⟨.cells (Array.ofFn fun i=>Classical.choose (h i)) e (0,C.size),fun C' z j8 he=>?_⟩
   cases he
   refine⟨_,by rw[dr f],by simp,fun i u v hu d=>?_⟩;have hi:i<C.size:=(dv.1 d).1;simp[hi]at hu d;rw[←hu,←d];exact iI (h ⟨i,hi⟩)
  ·refine⟨.cells C e fr,fun C' z j8 he=>?_⟩
   cases he
   refine⟨C,by rw[dt f],rfl,fun i u v hu d=>?_⟩;exact absurd (iD (eP _) (dv.1 d).1) f
 |_=>exact⟨.cells #[] 0 (0,0),fun C e fr h=>by cases h⟩
def tk (W wS:World):Prop:=∀(b:Nat)(C:Array Value)(e:TypeId)(fr:Nat×Nat),W.heap[b]?=some (.cells C e fr)→∃c:Array Value,wS.heap[b]?=some (.cells c e (if 0<C.size then(0,C.size) else fr))∧c.size=C.size∧∀(i:Nat) u v,c[i]?=some u→C[i]?=some v→uX W u v
theorem Pc(f:Scope.base=0)(d:Scope.sync=true)(W:World):∃wS:World,wS.heap.size=W.heap.size∧wS.os=W.os∧tk W wS:=by
 have h:∀i:Fin W.heap.size,∃o,D3 W o W.heap[i]:=fun i=>Pb f d (b:=i) (by simp)
 refine⟨{ W with heap:=Array.ofFn fun i=>Classical.choose (h i) },by simp,rfl,fun b C e fr hb=>?_⟩;have hi:b<W.heap.size:=(dv.1 hb).1;have g:=iI (h ⟨b,hi⟩);obtain⟨c,j,m⟩:=g C e fr (by have:=(dv.1 hb).2;exact this);exact⟨c,by simp[hi];exact j,m⟩
theorem Pd(j:Scope.base=0)(f:Scope.sync=true){W wS:World}(m:wS.heap.size=W.heap.size)(q:wS.os=W.os)(x:tk W wS):HR (oH W) wS W:=by
 refine⟨fun b p hp=>?_,fun b b' p p' hp g e=>by rw[(vV hp).1,(vV g).1]at e;exact e,by rw[j];exact eP _,q.symm,fun _=>⟨m,fun b p hp=>AO hp⟩⟩;obtain⟨C,e,fr,hW,y⟩:=AN hp;obtain⟨c,k1,k2,z⟩:=x b C e fr hW;have d:ki (oH W) c C:=⟨k2,fun i u v hu d=>(z i u v hu d).vr⟩;rcases y with⟨h,rfl⟩|⟨h,rfl⟩
 ·rw[dr h]at k1;exact⟨_,_,k1,hW,.inl ⟨f,rfl,rfl,c,C,fr,by omega,by rw[k2],rfl,d⟩⟩
 ·rw[dt h]at k1;exact⟨_,_,k1,hW,.cells d⟩
section
variable {W wS:World}
theorem yG(f:tk W wS){b o:Nat}{v:Value}(h:W.cell? ⟨b,o,none⟩=some v):∃u,wS.cell? ⟨b,o,none⟩=some u∧uX W u v∧∃p,oH W b=some p:=by
 simp only[World.cell?]at h;split at h
 ·rename_i C e fr hW;obtain⟨c,k1,k2,g⟩:=f b C e fr hW;have hC:C[o]?=some v:=by simpa using h
  have d:o<c.size:=by rw[k2];exact(dv.1 hC).1
  refine⟨c[o],?_,g o _ v (dw d) hC,AM hW⟩;simp[World.cell?,k1,d]
 ·cases h
theorem sI(d:tk W wS){b o:Nat}{v:Value}(h:W.cell? ⟨b,o,none⟩=some v)(f:xw v=true):wS.cell? ⟨b,o,none⟩=some v:=by
 obtain⟨u,g,j,_⟩:=yG d h;rw[g,j.flat f]
end
end
end
end Go.Proofs.YtjnkcibpkkjniaaGreat.kx
namespace Go.Proofs.YtjnkcibpkkjniaaGreat
section
open Go.RowKit
structure Rl where
 p:Bool
 a:Int
 l:Int
 g:Int
 e:Int
def Rl.cells (r:Rl):List Value:=[.bool r.p,.int .u32 r.a,.int .i64 r.l,.int .i64 r.g,.int .i64 r.e]
def Sl (w:World) (size:Nat) (v:Value) (n:Nat) (c:Nat→List Value):Prop :=
 ∃ao cap,v=.slice ao n cap∧n≤cap∧cap≤maxLen ∧
  (0<n→∃b o,ao=some ⟨b,o,none⟩∧∀i<n,∀k u,(c i)[k]?=some u→w.cell? ⟨b,o+i*size+k,none⟩=some u)
def mL (w:World) (v:Value) (n:Nat) (r:Nat→Rl):Prop:=Sl w 5 v n (fun i=>(r i).cells)∧∀i<n,0≤(r i).a∧(r i).a<4294967296
structure Pr where
 au:Int
 hold:Int
 oi:Int
 oj:Int
 wait:Int
 im:Value
 ni:Nat
 ir:Nat→Rl
 ex:Value
 ne:Nat
 er:Nat→Rl
def Pr.cells (p:Pr):List Value:=[.int .i64 p.au,.int .i64 p.hold,.int .i64 p.oi,.int .i64 p.oj,.int .i64 p.wait,p.im,p.ex]
def nI (w:World) (v:Value) (n:Nat) (P:Nat→Pr):Prop :=
 Sl w 7 v n (fun i=>(P i).cells)∧∀i<n,mL w (P i).im (P i).ni (P i).ir∧mL w (P i).ex (P i).ne (P i).er
def nR (n lo hi:Int):Bool:=decide (lo≤n)&&decide (n≤hi)
variable {lo hi:Int}
theorem Pe{n:Int}(h:lo≤n)(h':n≤hi):nR n lo hi=true:=by simp[nR,h,h']
theorem Pf{n:Int}(h:¬(lo≤n∧n≤hi)):nR n lo hi=false:=by simp[nR];omega
def qc (r:Rl):Bool:=nR r.l 0 32&&decide (r.a % 2^(32-r.l.toNat)=0)&&nR r.g r.l r.e&&decide (r.e≤32)
def uY (n:Nat) (r:Nat→Rl):Bool:=(List.range n).all fun i=>qc (r i)
def uZ (n:Nat) (r:Nat→Rl):Bool:=decide (n≤8)&&uY n r
def holdB (h:Int):Bool:=h == 0 || nR h 3 65535
def mU (p:Pr):Bool:=nR p.au 1 65535&&holdB p.hold&&decide (0≤p.oi)&&nR p.oj 0 2147483648&&nR p.wait 0 1000&&uZ p.ni p.ir&&uZ p.ne p.er
def qJ (au id:Int) (n:Nat):Bool:=nR au 1 65535&&(id != 0)&&decide (n≤8)
def qK (P:Nat→Pr):Nat→Nat→Nat
 |_,0=>0
 |k,m+1=>if mU (P k) then qK P (k+1) m else k+1
def mE (au id:Int) (n:Nat) (P:Nat→Pr):Int×Int :=
 if qJ au id n then(if qK P 0 n=0 then(0,0) else(1,(qK P 0 n:Nat))) else(1,0)
theorem Pg(l:Nat)(h:l≤32):(2:Int)^32=2^(32-l)*2^l:=by
 rw[←Int.pow_add];congr 1;omega
theorem Ph(a:Int)(l:Nat)(h:l≤32):(a*2^l) % 2^32=0↔a % 2^(32-l)=0:=by
 have hp:(0:Int)<2^l:=Int.pow_pos (by decide);rw[Pg l h,Int.mul_comm a,Int.mul_comm (2^(32-l)),Int.mul_emod_mul_of_pos _ _ hp];constructor
 ·intro d;rcases Int.mul_eq_zero.1 d with f|f
  ·omega
  ·exact f
 ·intro d;rw[d];simp
theorem Pj(a l:Int)(d:l≤32):a*2 ^ l.toNat % 4294967296=0↔a % 2^(32-l.toNat)=0:=Ph a l.toNat (by omega)
theorem vW(n lo hi:Int)(w:World):Calls Tryz.prog 92 #[.int .i64 n,.int .i64 lo,.int .i64 hi] w fun e w'=>e=.returned (.bool (nR n lo hi))∧w'=w:=by
 go_enter Tryz.func92,Tryz.ntmps92
 go_wp2
 all_goals go_ret
 all_goals(refine⟨?_,rfl⟩;simp[nR];try omega)
theorem D4(n:Int)(w:World):Calls Tryz.prog 90 #[.int .i64 n] w fun e w'=>e=.returned (.bool (nR n 1 65535))∧w'=w:=by
 go_enter Tryz.func90,Tryz.ntmps90
 go_wp2_with (go_at_call 92;refine(vW _ _ _ _).mono ?_;rintro e w' ⟨rfl,rfl⟩)
 go_ret;exact⟨rfl,rfl⟩
theorem Pk(n:Int)(w:World):Calls Tryz.prog 91 #[.int .i64 n] w fun e w'=>e=.returned (.bool (holdB n))∧w'=w:=by
 by_cases h:(n == 0)=true
 ·go_enter Tryz.func91,Tryz.ntmps91
  go_wp2_with (go_at_call 92;refine(vW _ _ _ _).mono ?_;rintro e w' ⟨rfl,rfl⟩)
  go_ret;exact⟨by simp[holdB,h],rfl⟩
 ·have h':(n == 0)=false:=by simpa using h
  clear h;go_enter Tryz.func91,Tryz.ntmps91
  go_wp2_with (go_at_call 92;refine(vW _ _ _ _).mono ?_;rintro e w' ⟨rfl,rfl⟩)
  go_ret;exact⟨by simp[holdB,h'],rfl⟩
theorem Pm(p:Bool)(a l g e:Int)(w:World):Calls Tryz.prog 124 #[.agg #[.bool p,.int .u32 a,.int .i64 l,.int .i64 g,.int .i64 e]] w fun m w'=>m=.returned (.bool (qc ⟨p,a,l,g,e⟩))∧Below w.heap.size w w':=by
 by_cases d:0≤l∧l≤32
 ·obtain⟨q,d⟩:=d;have hb:=Pe q d;have H:=Pj a l d;have j:Hid (_):=H;clear H;go_enter Tryz.func124,Tryz.ntmps124
  go_wp2_with (go_at_call 92;refine(vW _ _ _ _).mono ?_;rintro e w' ⟨rfl,rfl⟩)
  all_goals go_ret
  ·have k1:a*2 ^ l.toNat % 4294967296=0:=by assumption
   have k2:nR g l e=true:=by assumption
   have f:=j.out.1 k1;exact⟨by simp[qc,hb,k2,f],(iJ _ _).alloc (dD _) _⟩
  ·have k1:a*2 ^ l.toNat % 4294967296=0:=by assumption
   have k2:¬nR g l e=true:=by assumption
   exact⟨by simp[qc,hb,k2],(iJ _ _).alloc (dD _) _⟩
  ·have k1:¬a*2 ^ l.toNat % 4294967296=0:=by assumption
   have f:¬a % 2^(32-l.toNat)=0:=fun h=>k1 (j.out.2 h)
   exact⟨by simp[qc,hb,f],(iJ _ _).alloc (dD _) _⟩
 ·have hb:=Pf d;clear d;go_enter Tryz.func124,Tryz.ntmps124
  go_wp2_with (go_at_call 92;refine(vW _ _ _ _).mono ?_;rintro e w' ⟨rfl,rfl⟩)
  all_goals go_ret
  exact⟨by simp[qc,hb],(iJ _ _).alloc (dD _) _⟩
theorem Pn(p:Bool)(a l g e:Int)(w:World):Calls Tryz.prog 123 #[.agg #[.bool p,.int .u32 a,.int .i64 l,.int .i64 g,.int .i64 e]] w fun d w'=>d=.returned (.bool (!qc ⟨p,a,l,g,e⟩))∧Below w.heap.size w w':=by
 go_enter Tryz.func123,Tryz.ntmps123
 go_wp2_with (go_at_call 124;refine(Pm _ _ _ _ _ _).mono ?_;rintro e w' ⟨rfl,hb⟩)
 go_ret;exact⟨rfl,((iJ _ _).alloc (dD _) _).trans (hb.mono (by simp))⟩
theorem mL.cell{w w':World}{v:Value}{n:Nat}{r:Nat→Rl}(h:mL w v n r)(hB:Below w.heap.size w w'):mL w' v n r:=by
 refine⟨?_,h.2⟩;obtain⟨ao,cap,g,j,hm,m⟩:=h.1;refine⟨ao,cap,g,j,hm,fun q=>?_⟩;obtain⟨b,o,f,d⟩:=m q;refine⟨b,o,f,fun i hi k u hu=>?_⟩;have:=d i hi k u hu;rw[hB.cell (iK _ _ this)];exact this
variable {w:World} {b o n:Nat} {r:Nat→Rl}
theorem Po(h:∀i<n,∀k u,((r i).cells)[k]?=some u→w.cell? ⟨b,o+i*5+k,none⟩=some u)(k:Nat)(d:k<n):w.cell? ⟨b,o+k*5,none⟩=some (.bool (r k).p)∧w.cell? ⟨b,o+k*5+1,none⟩=some (.int .u32 (r k).a)∧w.cell? ⟨b,o+k*5+2,none⟩=some (.int .i64 (r k).l) ∧
   w.cell? ⟨b,o+k*5+3,none⟩=some (.int .i64 (r k).g)∧w.cell? ⟨b,o+k*5+4,none⟩=some (.int .i64 (r k).e) :=
 ⟨h k d 0 _ rfl,h k d 1 _ rfl,h k d 2 _ rfl,h k d 3 _ rfl,h k d 4 _ rfl⟩
variable {wr:World}
theorem Pp(hB:Below w.heap.size w wr)(h:∀i<n,∀k u,((r i).cells)[k]?=some u→w.cell? ⟨b,o+i*5+k,none⟩=some u)(k:Nat)(d:k<n):wr.cell? ⟨b,o+k*5,none⟩=some (.bool (r k).p)∧wr.cell? ⟨b,o+k*5+1,none⟩=some (.int .u32 (r k).a)∧wr.cell? ⟨b,o+k*5+2,none⟩=some (.int .i64 (r k).l) ∧
   wr.cell? ⟨b,o+k*5+3,none⟩=some (.int .i64 (r k).g)∧wr.cell? ⟨b,o+k*5+4,none⟩=some (.int .i64 (r k).e) :=
 Po (fun i hi k u hu=>by have:=h i hi k u hu;rw[hB.cell (iK _ _ this)];exact this) k d
variable {k:Nat}
theorem D5{Q:Nat→Prop}(h:∀j<k,Q j)(f:Q k):∀j<k+1,Q j:=by
 intro j g;rcases iL.1 g with d|d
 ·exact h j d
 ·exact d▸f
theorem Pq(h:∀j<n,qc (r j)=true):uY n r=true:=by
 simp only[uY,eu,gg];exact h
theorem Ps(f:k<n)(h:qc (r k)=false):uY n r=false:=by
 rw[Bool.eq_false_iff];intro d;simp only[uY,eu,gg]at d;rw[d k f]at h;exact absurd h (by decide)
theorem Pt(ao:Option Addr)(n cap:Nat)(r:Nat→Rl)(w:World)(h:mL w (.slice ao n cap) n r):Calls Tryz.prog 150 #[.slice ao n cap,.func (.func 123) #[] #[]] w fun e w' =>
   ∃k:Int,e=.returned (.int .i64 k)∧decide (0≤k)=!uY n r∧Below w.heap.size w w':=by
 obtain⟨⟨y,m,E,I,F,d⟩,_⟩:=h;obtain⟨rfl,_,rfl⟩:ao=y∧n=n∧cap=m:=by simpa using E
 unfold maxLen at F;clear E;go_enter Tryz.func150,Tryz.ntmps150
 go_wp2_with fail
 go_loopw [8] (fun i wr=>∃k:Nat,k≤n∧i=.int .i64 k∧(∀j<k,qc (r j)=true)∧Below w.heap.size w wr) (fun i _=>n-(intOf i).toNat)
 case atStart=>exact⟨0,eP _,rfl,fun j J=>by omega,iJ _ _⟩
 case round =>
  obtain⟨k,K,rfl,f,hB⟩:=hrel
  by_cases q:k<n
  ·obtain⟨b,o,z,x⟩:=d (by omega);subst z;obtain⟨c0,c1,c2,c3,c4⟩:=Pp hB x k q;clear x d;have g:Hid (_):=f;clear f
   go_wp2_with (go_at_call 123;refine(Pn _ _ _ _ _ _).mono ?_;rintro e w' ⟨rfl,hb⟩)
   ·go_ret;have A:(!qc (r k))=true:=by assumption
    have G:qc (r k)=false:=by simpa using A
    exact⟨k,rfl,by rw[Ps q G];simp,hB.trans (hb.mono hB.size)⟩
   ·have A:(!qc (r k))=false:=by assumption
    have B:qc (r k)=true:=by simpa using A
    go_roundw
    case rel=>exact⟨k+1,by omega,by go_num,D5 g.out B,hB.trans (hb.mono hB.size)⟩
    case measure=>simp[intOf];omega
  ·have:k=n:=by omega
   subst this;have B:=Pq f
   go_wp2
   go_ret;exact⟨-1,rfl,by rw[B];simp,hB⟩
theorem Pu(ao:Option Addr)(n cap:Nat)(r:Nat→Rl)(w:World)(h:mL w (.slice ao n cap) n r):Calls Tryz.prog 122 #[.slice ao n cap,.func (.func 123) #[] #[]] w fun e w' =>
   e=.returned (.bool (!uY n r))∧Below w.heap.size w w':=by
 go_enter Tryz.func122,Tryz.ntmps122;have H:Hid (_):=h;clear h
 go_wp2_with fail
 refine(Pt _ _ _ r _ H.out).mono ?_;rintro e w' ⟨k,rfl,d,hB⟩;have f:Hid (_):=d;clear d
 go_wp2
 go_ret;exact⟨by rw[←f.out];rfl,hB⟩
theorem D6(ao:Option Addr)(n cap:Nat)(r:Nat→Rl)(w:World)(h:mL w (.slice ao n cap) n r):Calls Tryz.prog 93 #[.slice ao n cap] w fun e w'=>e=.returned (.bool (uZ n r))∧Below w.heap.size w w':=by
 have H:Hid (_):=h;have f:n≤9223372036854775807:=by obtain⟨⟨m,g,q,x,f,d⟩,_⟩:=h;unfold maxLen at f;omega
 clear h
 by_cases j:n≤8
 ·go_enter Tryz.func93,Tryz.ntmps93
  go_wp2_with fail
  refine(Pu _ _ _ r _ H.out).mono ?_;rintro e w' ⟨rfl,hB⟩
  go_wp2
  go_ret;exact⟨by simp[uZ,j],hB⟩
 ·go_enter Tryz.func93,Tryz.ntmps93
  go_wp2_with fail
  go_ret;exact⟨by simp[uZ,j],iJ _ _⟩
theorem Pv(au hold oi oj wait:Int)(f d:Option Addr)(ni ci ne ce:Nat)(ir er:Nat→Rl)(w:World)(hi:mL w (.slice f ni ci) ni ir)(he:mL w (.slice d ne ce) ne er):Calls Tryz.prog 65 #[.agg #[.int .i64 au,.int .i64 hold,.int .i64 oi,.int .i64 oj,.int .i64 wait,.slice f ni ci,.slice d ne ce]] w fun e w' =>
   e=.returned (.bool (mU ⟨au,hold,oi,oj,wait,.slice f ni ci,ni,ir,.slice d ne ce,ne,er⟩))∧Below w.heap.size w w':=by
 have h:Hid (mL w (.slice f ni ci) ni ir):=hi;have j:Hid (mL w (.slice d ne ce) ne er):=he;clear hi he;go_enter Tryz.func65,Tryz.ntmps65
 go_wp2_with (first|(go_at_call 90;refine(D4 _ _).mono ?_;rintro e w' ⟨rfl,rfl⟩)|(go_at_call 91;refine(Pk _ _).mono ?_;rintro e w' ⟨rfl,rfl⟩)|(go_at_call 92;refine(vW _ _ _ _).mono ?_;rintro e w' ⟨rfl,rfl⟩)|fail)
 case isTrue =>
  refine(D6 _ _ _ ir _ (h.out.cell ((iJ _ _).alloc (dD _) _))).mono ?_;rintro e w1 ⟨rfl,hB⟩;have m:w1.cell? ⟨w.heap.size,6,none⟩=some (.slice d ne ce):=(hB.cell (p:=⟨w.heap.size,6,none⟩) (by simp)).trans (iM _ _ _ _)
  go_wp2_with fail
  ·refine(D6 _ _ _ er _ (j.out.cell (((iJ _ _).alloc (dD _) _).trans (hB.mono (by simp))))).mono ?_;rintro e w2 ⟨rfl,g⟩
   go_wp2_with fail
   go_ret;exact⟨by simp[mU, *],((iJ _ _).alloc (dD _) _).trans ((hB.mono (by simp)).trans (g.mono (by have:=hB.size;simp at this;omega)))⟩
  ·go_ret;exact⟨by simp[mU, *],((iJ _ _).alloc (dD _) _).trans (hB.mono (by simp))⟩
 all_goals go_ret
 all_goals exact⟨by simp[mU, *]<;>intros<;>omega,(iJ _ _).alloc (dD _) _⟩
theorem Px(au id nh:Int)(ao:Option Addr)(n cap:Nat)(w:World)(d:n≤9223372036854775807):Calls Tryz.prog 64 #[.agg #[.int .i64 au,.int .u32 id,.int .u32 nh,.slice ao n cap]] w fun e w' =>
   e=.returned (.bool (qJ au id n))∧Below w.heap.size w w':=by
 go_enter Tryz.func64,Tryz.ntmps64
 go_wp2_with (go_at_call 90;refine(D4 _ _).mono ?_;rintro e w' ⟨rfl,rfl⟩)
 all_goals go_ret
 all_goals(refine⟨?_,(iJ _ _).alloc (dD _) _⟩)
 all_goals(have hd:decide ((n:Int)≤8)=decide (n≤8):=by rw[Bool.eq_iff_iff];simp only[decide_eq_true_iff];omega)
 all_goals simp[qJ, *]
theorem nI.cell{w w':World}{v:Value}{n:Nat}{P:Nat→Pr}(h:nI w v n P)(hB:Below w.heap.size w w'):nI w' v n P:=by
 obtain⟨⟨ao,cap,j,m,hm,q⟩,g⟩:=h;refine⟨⟨ao,cap,j,m,hm,fun x=>?_⟩,fun i hi=>⟨(g i hi).1.cell hB,(g i hi).2.cell hB⟩⟩;obtain⟨b,o,f,d⟩:=q x;refine⟨b,o,f,fun i hi k u hu=>?_⟩;have:=d i hi k u hu;rw[hB.cell (iK _ _ this)];exact this
variable {P:Nat→Pr}
theorem Py(hB:Below w.heap.size w wr)(h:∀i<n,∀k u,((P i).cells)[k]?=some u→w.cell? ⟨b,o+i*7+k,none⟩=some u)(k:Nat)(f:k<n):wr.cell? ⟨b,o+k*7,none⟩=some (.int .i64 (P k).au)∧wr.cell? ⟨b,o+k*7+1,none⟩=some (.int .i64 (P k).hold)∧wr.cell? ⟨b,o+k*7+2,none⟩=some (.int .i64 (P k).oi) ∧
   wr.cell? ⟨b,o+k*7+3,none⟩=some (.int .i64 (P k).oj)∧wr.cell? ⟨b,o+k*7+4,none⟩=some (.int .i64 (P k).wait)∧wr.cell? ⟨b,o+k*7+5,none⟩=some (P k).im ∧
   wr.cell? ⟨b,o+k*7+6,none⟩=some (P k).ex:=by
 have d:∀j u,((P k).cells)[j]?=some u→wr.cell? ⟨b,o+k*7+j,none⟩=some u:=fun j u hu=>by
  have:=h k f j u hu;rw[hB.cell (iK _ _ this)];exact this
 exact⟨d 0 _ rfl,d 1 _ rfl,d 2 _ rfl,d 3 _ rfl,d 4 _ rfl,d 5 _ rfl,d 6 _ rfl⟩
theorem mL.isSlice{v:Value}(h:mL w v n r):∃ao cap,v=.slice ao n cap:=by
 obtain⟨⟨ao,cap,d,_⟩,_⟩:=h;exact⟨ao,cap,d⟩
theorem PD:∀(m k:Nat),(∀j,k≤j→j<k+m→mU (P j)=true)→qK P k m=0:=by
 intro m
 induction m with
 |zero=>intro k _;rfl
 |succ m d=>intro k h;simp only[qK,h k (by omega) (by omega),dn];exact d (k+1) (fun j f g=>h j (by omega) (by omega))
theorem AP:∀(m k d:Nat),d<m→(∀j,k≤j→j<k+d→mU (P j)=true)→mU (P (k+d))=false→qK P k m=k+d+1:=by
 intro m
 induction m with
 |zero=>intro k d h;omega
 |succ m g =>
  intro k d hd h f
  cases d with
  |zero=>simp only[gR]at f;simp[qK,f]
  |succ d =>
   simp only[qK,h k (by omega) (by omega),dn];rw[g (k+1) d (by omega) (fun j q x=>h j (by omega) (by omega)) (by rw[←f];congr 2;omega)];omega
theorem PE(au id nh:Int)(ao:Option Addr)(n cap:Nat)(P:Nat→Pr)(w:World)(h:nI w (.slice ao n cap) n P):Calls Tryz.prog 39 #[.agg #[.int .i64 au,.int .u32 id,.int .u32 nh,.slice ao n cap]] w fun e w' =>
   e=.returned (.agg #[.int .i64 (mE au id n P).1,.int .i64 (mE au id n P).2])∧Below w.heap.size w w':=by
 have hc:n≤9223372036854775807:=by obtain⟨⟨K,A,hv,hn,hc,f⟩,_⟩:=h;unfold maxLen at hc;omega
 have H:Hid (nI w (.slice ao n cap) n P):=h;clear h;go_enter Tryz.func39,Tryz.ntmps39
 go_wp2_with fail
 refine(Px _ _ _ _ _ _ _ hc).mono ?_;rintro e w1 ⟨rfl,hB⟩;have L:w1.cell? ⟨w.heap.size+1,0,none⟩=some (.int .i64 0):=(hB.cell (p:=⟨w.heap.size+1,0,none⟩) (by simp)).trans ((iN _ _ _ _ (by simp)).trans rfl);have M:w1.cell? ⟨w.heap.size+1,1,none⟩=some (.int .i64 0):=(hB.cell (p:=⟨w.heap.size+1,1,none⟩) (by simp)).trans ((iN _ _ _ _ (by simp)).trans rfl);have af:w1.cell? ⟨w.heap.size,3,none⟩=some (.slice ao n cap):=(hB.cell (p:=⟨w.heap.size,3,none⟩) (by simp only[iO];omega)).trans ((iP _ _ _ (by simp)).trans (iM _ _ _ _));have N:w1.frozen? ⟨w.heap.size+1,0,none⟩=false:=(hB.frozen (p:=⟨w.heap.size+1,0,none⟩) (by simp)).trans (World.frozen?_alloc_at _ _ _ _ (by simp));have O:w1.frozen? ⟨w.heap.size+1,1,none⟩=false:=(hB.frozen (p:=⟨w.heap.size+1,1,none⟩) (by simp)).trans (World.frozen?_alloc_at _ _ _ _ (by simp));have R:w.heap.size+1<w1.heap.size:=by have:=hB.size;simp only[iO]at this;omega
 have E:Below w.heap.size w w1:=(((iJ _ _).alloc (dD _) _).alloc (by simp) _).trans (hB.mono (by simp only[iO];omega));clear hB
 cases hs:qJ au id n
 ·have Hs:Hid (qJ au id n=false):=hs;clear hs
  go_wp2_with fail
  exact iQ (v:=.agg #[.int .i64 1,.int .i64 0]) (by simp[results,Tryz.results39,go_sem, *]) rfl ⟨by simp[mE,Hs.out],(E.setCell (by simp) _).setCell (by simp) _⟩
 ·have Hs:Hid (qJ au id n=true):=hs;clear hs
  go_wp2_with fail
  have hB:=E;clear E
  go_loopw [12] (fun i wr=>∃k:Nat,k≤n∧i=.int .i64 k∧(∀j<k,mU (P j)=true)∧Below w1.heap.size w1 wr) (fun i _=>n-(intOf i).toNat)
  case atStart=>exact⟨0,eP _,rfl,fun j hj=>by omega,iJ _ _⟩
  case round =>
   obtain⟨k,hk,rfl,B,d⟩:=hrel;have S:=(d.cell (p:=⟨w.heap.size+1,0,none⟩) R).trans L;have U:=(d.cell (p:=⟨w.heap.size+1,1,none⟩) R).trans M;have V:=(d.frozen (p:=⟨w.heap.size+1,0,none⟩) R).trans N;have X:=(d.frozen (p:=⟨w.heap.size+1,1,none⟩) R).trans O;have q:w.heap.size+1<wr.heap.size:=dF R d.size;have m:Hid (∀j<k,mU (P j)=true):=B;have F:Below w.heap.size w wr:=hB.trans (d.mono (by omega));clear B L M N O af
   by_cases G:k<n
   ·obtain⟨⟨K,A,hv,ak,_,f⟩,Y⟩:=H.out.cell F;obtain⟨rfl,_,rfl⟩:ao=K∧n=n∧cap=A:=by simpa using hv
    obtain⟨b,o,ag,Z⟩:=f (by omega);subst ag;obtain⟨c0,c1,c2,c3,c4,c5,c6⟩:=Py (iJ _ _) Z k G;obtain⟨x,y⟩:=Y k G;obtain⟨ai,ci,ei⟩:=x.isSlice;obtain⟨ae,ce,ee⟩:=y.isSlice;rw[ei]at x c5;rw[ee]at y c6;have aa:Hid (mL wr (.slice ai (P k).ni ci) (P k).ni (P k).ir):=x;have ab:Hid (mL wr (.slice ae (P k).ne ce) (P k).ne (P k).er):=y;have Hp:Hid (mU ⟨(P k).au,(P k).hold,(P k).oi,(P k).oj,(P k).wait,.slice ai (P k).ni ci,(P k).ni,(P k).ir,.slice ae (P k).ne ce,(P k).ne,(P k).er⟩=mU (P k)):=rfl;clear Z f hv x y Y ei ee
    go_wp2_with fail
    refine(Pv _ _ _ _ _ _ _ _ _ _ _ _ _ _ (aa.out.cell ((iJ _ _).alloc (dD _) _)) (ab.out.cell ((iJ _ _).alloc (dD _) _))).mono ?_;rintro e w2 ⟨rfl,ad⟩;rw[Hp.out];have g:Below wr.heap.size wr w2:=((iJ _ _).alloc (dD _) _).trans (ad.mono (by simp only[iO];omega));clear ad aa ab Hp c0 c1 c2 c3 c4 c5 c6;have al:=(g.cell (p:=⟨w.heap.size+1,0,none⟩) q).trans S;have am:=(g.cell (p:=⟨w.heap.size+1,1,none⟩) q).trans U;have an:=(g.frozen (p:=⟨w.heap.size+1,0,none⟩) q).trans V;have ap:=(g.frozen (p:=⟨w.heap.size+1,1,none⟩) q).trans X;have ah:Below w.heap.size w w2:=F.trans (g.mono (by omega));clear S U V X
    cases z:mU (P k)
    ·have I:Hid (mU (P k)=false):=z;clear z
     go_wp2_with fail
     have J:=AP n 0 k G (fun j _ h2=>m.out j (by omega)) (by rw[dG];exact I.out);refine iQ (v:=.agg #[.int .i64 1,.int .i64 (k+1)]) (by simp[results,Tryz.results39,go_sem, *]) rfl ⟨?_,(ah.setCell (by simp) _).setCell (by simp) _⟩;simp only[mE,Hs.out,dn,J];rw[dt (by omega)];simp
    ·have I:Hid (mU (P k)=true):=z;clear z
     go_wp2_with fail
     go_roundw
     case rel=>exact⟨k+1,by omega,by go_num,D5 m.out I.out,d.trans (g.mono d.size)⟩
     case measure=>simp[intOf];omega
   ·have aj:k=n:=by omega
    subst aj
    go_wp2_with fail
    have J:=PD k 0 (fun j _ h2=>m.out j (by omega));exact iQ (v:=.agg #[.int .i64 0,.int .i64 0]) (by simp[results,Tryz.results39,go_sem, *]) rfl ⟨by simp[mE,Hs.out,J],(F.setCell (by simp) _).setCell (by simp) _⟩
end
section
open Go.ChangeShapes Go.WideShapes Go.ChangeAt Go.RowKit Go.Deep
theorem Tryz.PF:Tryz.prog.cellsOf 25=4:=by kernel_rfl
theorem Tryz.D7:Tryz.prog.cellsOf 69=7:=by kernel_rfl
theorem Tryz.AQ:Tryz.prog.cellsOf 162=5:=by kernel_rfl
theorem Tryz.rN:Tryz.prog.cellsOf 3=1:=by kernel_rfl
theorem Tryz.PG:Tryz.prog.cellsOf 22=1:=by kernel_rfl
theorem Tryz.PH:Tryz.prog.cellsOf 4=1:=by kernel_rfl
theorem Tryz.D8:Tryz.prog.cellsOf 67=1:=by kernel_rfl
theorem Tryz.PI:Tryz.prog.bytesOf 162=32:=by kernel_rfl
theorem Tryz.PK:Tryz.prog.bytesOf 69=88:=by kernel_rfl
theorem wf_u32{a:Int}(h:(Lit.int .u32 a).wf=true):0≤a∧a<4294967296:=by
 have d:IntKind.u32.min=0:=rfl;have f:IntKind.u32.max=4294967295:=rfl;simp only[Lit.wf,ep,ej]at h;omega
variable {H:Type} {w:World} {fuel:Nat} {spare:Nat→Bool} {held:Bool} {cs:List Value}
theorem PL{enc:TypeId×Value→H}{base:Nat}{x:DataW H×List MemPlace}(h:DataW.trod enc Tryz.prog w base spare held fuel 162 cs=some x):∃r:Rl,cs=r.cells∧0≤r.a∧r.a<4294967296:=by
 obtain⟨xs,n,_,hx,hlen,f,d⟩:=iR Tryz.underlying162 h;rw[Tryz.AQ]at hlen
 match cs,hlen with
 |[c0,c1,c2,c3,c4],_ =>
  have g:∀i,i<5→∃y,xs[i]?=some y:=fun i hi=>⟨xs[i]'(by rw[f];exact hi),by simp⟩
  obtain⟨j,m⟩:=g 0 (by omega);obtain⟨q,z⟩:=g 1 (by omega);obtain⟨A,B⟩:=g 2 (by omega);obtain⟨E,F⟩:=g 3 (by omega);obtain⟨G,I⟩:=g 4 (by omega);have f0:DataW.trod enc Tryz.prog w base spare held n 4 (List.take (Tryz.prog.cellsOf 4) (List.drop 0 [c0,c1,c2,c3,c4]))=some j:=(d 0 _ rfl).trans m;rw[Tryz.PH]at f0;have f1:DataW.trod enc Tryz.prog w base spare held n 22 (List.take (Tryz.prog.cellsOf 22) (List.drop 1 [c0,c1,c2,c3,c4]))=some q:=(d 1 _ rfl).trans z;rw[Tryz.PG]at f1;have f2:DataW.trod enc Tryz.prog w base spare held n 3 (List.take (Tryz.prog.cellsOf 3) (List.drop 2 [c0,c1,c2,c3,c4]))=some A:=(d 2 _ rfl).trans B;rw[Tryz.rN]at f2;have f3:DataW.trod enc Tryz.prog w base spare held n 3 (List.take (Tryz.prog.cellsOf 3) (List.drop 3 [c0,c1,c2,c3,c4]))=some E:=(d 3 _ rfl).trans F;rw[Tryz.rN]at f3;have f4:DataW.trod enc Tryz.prog w base spare held n 3 (List.take (Tryz.prog.cellsOf 3) (List.drop 4 [c0,c1,c2,c3,c4]))=some G:=(d 4 _ rfl).trans I;rw[Tryz.rN]at f4;obtain⟨p,hp,_⟩:=DataW.trod_bool Tryz.underlying4 f0;obtain⟨a,J,_,K⟩:=iS Tryz.underlying22 f1;obtain⟨l,L,_,_⟩:=iS Tryz.underlying3 f2;obtain⟨g',M,_,_⟩:=iS Tryz.underlying3 f3;obtain⟨e,he,_,_⟩:=iS Tryz.underlying3 f4;obtain rfl:c0=.bool p:=by simpa using hp
  obtain rfl:c1=.int .u32 a:=by simpa using J
  obtain rfl:c2=.int .i64 l:=by simpa using L
  obtain rfl:c3=.int .i64 g':=by simpa using M
  obtain rfl:c4=.int .i64 e:=by simpa using he
  exact⟨⟨p,a,l,g',e⟩,rfl,wf_u32 K⟩
variable {a:Addr}
theorem AS(h:a.spot=none)(m:Nat):a.add m=⟨a.block,a.off+m,none⟩:=by
 cases a with
 |mk b o s =>
  have h':s=none:=h;subst h'
  by_cases d:m=0
  ·subst d;simp[Addr.add]
  ·simp[Addr.add,d]
variable {v:Value}
theorem D9(h:w.cell? a=some v):a.spot=none:=by
 unfold World.cell? at h
 cases d:a.spot with
 |none=>rfl
 |some s =>
  simp[d]at h;split at h
  ·cases h
  ·cases h
variable {t e size:Nat}
theorem xx{enc:TypeId×Value→H}{bytes:Nat}{x:DataW H×List MemPlace}(M:Tryz.prog.underlying t=some (.slice e))(hsz:Tryz.prog.cellsOf e=size)(R:0<size)(G:Tryz.prog.bytesOf e=bytes)(h:DataW.trod enc Tryz.prog w 0 spare held fuel t [v]=some x)(hw:∀m∈x.1.weights Tryz.prog t,m≤reachBytes):∃(n:Nat)(c:Nat→List Value)(D:Nat→DataW H),Sl w size v n c∧n*bytes≤140737488351232∧∀i<n,(∃m y,DataW.trod enc Tryz.prog w 0 spare held m e (c i)=some y∧y.1=D i)∧(∀m∈(D i).weights Tryz.prog e,m≤reachBytes):=by
 rcases iT M h with⟨q,hx⟩|⟨a,len,cap,m,n,D,Pl,q,_,I,J,hm,hx,A⟩
 ·simp at q;subst q;exact⟨0,fun _=>[],fun _=>.nil,⟨none,0,rfl,dD _,by unfold maxLen;omega,fun N=>by omega⟩,by omega,fun i hi=>by omega⟩
 ·simp at q;subst q;have S:len≤m:=by rw[hm];split<;>omega
  rw[hsz]at A;have B:∀i,i<len→∃E,w.cells? 0 (a.add (i*size)) size=some E∧DataW.trod enc Tryz.prog w 0 spare held n e E=some (D i,Pl i):=fun i hi=>A i (by omega)
  obtain⟨c,K⟩:=choose_lt B;rw[hx]at hw;simp only[DataW.weights,M]at hw;refine⟨len,c,D,⟨some a,cap,rfl,I,J,fun N=>?_⟩,?_,fun i hi=>⟨⟨n,_,(K i hi).2,rfl⟩,fun k L=>?_⟩⟩
  ·obtain⟨_,U,f⟩:=iU (K 0 N).1;have kp:a.spot=none:=by
    have:=f 0 R;rw[ez]at this;have e:(a.add 0).add 0=a:=by simp[Addr.add]
    rw[e]at this;obtain⟨u,hu⟩:∃u,(c 0)[0]?=some u:=⟨(c 0)[0]'(by omega),by simp⟩;rw[hu]at this;exact D9 this
   refine⟨a.block,a.off,by cases a;simp_all,fun i hi k u hu=>?_⟩;obtain⟨_,V,g⟩:=iU (K i hi).1;have L:k<size:=by rw[←V];exact(iV.1 hu).1
   have:=g k L;rw[add_add,AS kp,hu]at this;rw[show a.off+i*size+k=a.off+(i*size+k) by omega];exact this
  ·have:=hw (((List.map D (List.range len)).length+(List.map (fun j=>D (len+j)) (List.range (m-len))).length)*Tryz.prog.bytesOf e) (by simp);rw[G]at this;simp only[iW,iX]at this;have Z:len*bytes≤(len+(m-len))*bytes:=ek _ (by omega);have h4:reachBytes=140737488351232:=by decide
   omega
  ·apply hw;simp only[fN,gV];right;left;have F:∀(l:List (DataW H)) (d:DataW H),d∈l→∀z∈d.weights Tryz.prog e,z∈DataW.weightsAll Tryz.prog e l:=by
    intro l
    induction l with
    |nil=>intro d hd;simp at hd
    |cons b r X =>
     intro d hd z O;rcases fN.1 hd with rfl|Y
     ·simp[DataW.weightsAll,O]
     ·simp[DataW.weightsAll,X d Y z O]
   exact F _ (D i) (iY.2 ⟨i,gg.2 hi,rfl⟩) k L
variable {n:Nat}
theorem Sl.congr{c c':Nat→List Value}(h:Sl w size v n c)(d:∀i<n,c' i=c i):Sl w size v n c':=by
 obtain⟨ao,cap,f,g,j,m⟩:=h;refine⟨ao,cap,f,g,j,fun q=>?_⟩;obtain⟨b,o,x,y⟩:=m q;exact⟨b,o,x,fun i hi k u hu=>y i hi k u (by rw[←d i hi];exact hu)⟩
theorem yH{α:Type}(d:α){q:Nat→α→Prop}(h:∀i<n,∃x,q i x):∃f:Nat→α,∀i<n,q i (f i):=by
 have h':∀i,∃x,i<n→q i x:=fun i=>by
  by_cases hi:i<n
  ·obtain⟨x,hx⟩:=h i hi;exact⟨x,fun _=>hx⟩
  ·exact⟨d,fun g=>absurd g hi⟩
 exact⟨fun i=>Classical.choose (h' i),fun i hi=>iI (h' i) hi⟩
def Dz (W:World) (v:Value):Prop:=∀a l c,v=.slice (some a) l c→0<c→∃C e fr,W.heap[a.block]?=some (.cells C e fr)
theorem AU{enc:TypeId×Value→H}{x:DataW H×List MemPlace}(kp:∀b,spare b=true)(B:Tryz.prog.underlying t=some (.slice e))(E:0<Tryz.prog.cellsOf e)(h:DataW.trod enc Tryz.prog w 0 spare held fuel t [v]=some x):Dz w v:=by
 intro A J c0 q K;rcases iT B h with⟨g,hx⟩|⟨a,len,cap,m,n,D,Pl,g,_,F,G,hm,hx,y⟩
 ·simp at g;rw[g]at q
  cases q
 ·simp at g;rw[g]at q
  cases q
  rw[kp,dr rfl]at hm;obtain⟨j,I,_⟩:=y 0 (by omega);obtain⟨_,L,d⟩:=iU I;have f:=d 0 E;rw[ez]at f;have e:(A.add 0).add 0=A:=by simp[Addr.add]
  rw[e]at f;obtain⟨u,hu⟩:∃u,j[0]?=some u:=⟨j[0]'(by omega),by simp⟩;rw[hu]at f;have z:=D9 f;simp only[World.cell?,z]at f;split at f
  ·rename_i C e fr hW;exact⟨C,e,fr,hW⟩
  ·cases f
theorem Ea{enc:TypeId×Value→H}{x:DataW H×List MemPlace}(kp:∀b,spare b=true)(h:DataW.trod enc Tryz.prog w 0 spare held fuel 67 [v]=some x)(hw:∀m∈x.1.weights Tryz.prog 67,m≤reachBytes):∃n r,mL w v n r∧n≤4398046511104∧Dz w v:=by
 obtain⟨n,c,D,f,hb,d⟩:=xx (size:=5) (bytes:=32) Tryz.underlying67 Tryz.AQ (by omega) Tryz.PI h hw;have hr:∀i<n,∃r:Rl,c i=r.cells∧0≤r.a∧r.a<4294967296:=fun i hi=>by
  obtain⟨⟨m,y,g,_⟩,_⟩:=d i hi;exact PL g
 obtain⟨r,hr⟩:=yH (⟨true,0,0,0,0⟩:Rl) hr;exact⟨n,r,⟨f.congr fun i hi=>(hr i hi).1.symm,fun i hi=>(hr i hi).2⟩,by omega,AU kp Tryz.underlying67 (by rw[Tryz.AQ];decide) h⟩
theorem PM{enc:TypeId×Value→H}{x:DataW H×List MemPlace}(kp:∀b,spare b=true)(h:DataW.trod enc Tryz.prog w 0 spare held fuel 69 cs=some x)(hw:∀m∈x.1.weights Tryz.prog 69,m≤reachBytes):∃p:Pr,cs=p.cells∧mL w p.im p.ni p.ir∧mL w p.ex p.ne p.er∧Dz w p.im∧Dz w p.ex:=by
 obtain⟨xs,n,_,hx,hlen,B,z⟩:=iR Tryz.underlying69 h;rw[Tryz.D7]at hlen
 match cs,hlen with
 |[c0,c1,c2,c3,c4,f,q],_ =>
  have g:∀i,i<7→∃y,xs[i]?=some y:=fun i hi=>⟨xs[i]'(by rw[B];exact hi),by simp⟩
  obtain⟨O,R⟩:=g 0 (by omega);have f0:DataW.trod enc Tryz.prog w 0 spare held n 3 (List.take (Tryz.prog.cellsOf 3) (List.drop 0 [c0,c1,c2,c3,c4,f,q]))=some O:=(z 0 _ rfl).trans R;rw[Tryz.rN]at f0;obtain⟨S,U⟩:=g 1 (by omega);have f1:DataW.trod enc Tryz.prog w 0 spare held n 3 (List.take (Tryz.prog.cellsOf 3) (List.drop 1 [c0,c1,c2,c3,c4,f,q]))=some S:=(z 1 _ rfl).trans U;rw[Tryz.rN]at f1;obtain⟨V,X⟩:=g 2 (by omega);have f2:DataW.trod enc Tryz.prog w 0 spare held n 3 (List.take (Tryz.prog.cellsOf 3) (List.drop 2 [c0,c1,c2,c3,c4,f,q]))=some V:=(z 2 _ rfl).trans X;rw[Tryz.rN]at f2;obtain⟨Y,Z⟩:=g 3 (by omega);have f3:DataW.trod enc Tryz.prog w 0 spare held n 3 (List.take (Tryz.prog.cellsOf 3) (List.drop 3 [c0,c1,c2,c3,c4,f,q]))=some Y:=(z 3 _ rfl).trans Z;rw[Tryz.rN]at f3;obtain⟨y4,e4⟩:=g 4 (by omega);have f4:DataW.trod enc Tryz.prog w 0 spare held n 3 (List.take (Tryz.prog.cellsOf 3) (List.drop 4 [c0,c1,c2,c3,c4,f,q]))=some y4:=(z 4 _ rfl).trans e4;rw[Tryz.rN]at f4;obtain⟨I,J⟩:=g 5 (by omega);have f5:DataW.trod enc Tryz.prog w 0 spare held n 67 (List.take (Tryz.prog.cellsOf 67) (List.drop 5 [c0,c1,c2,c3,c4,f,q]))=some I:=(z 5 _ rfl).trans J;rw[Tryz.D8]at f5;obtain⟨K,L⟩:=g 6 (by omega);have f6:DataW.trod enc Tryz.prog w 0 spare held n 67 (List.take (Tryz.prog.cellsOf 67) (List.drop 6 [c0,c1,c2,c3,c4,f,q]))=some K:=(z 6 _ rfl).trans L;rw[Tryz.D8]at f6;obtain⟨M,h0,_,_⟩:=iS Tryz.underlying3 f0;obtain rfl:c0=.int .i64 M:=by simpa using h0
  obtain⟨n1,h1,_,_⟩:=iS Tryz.underlying3 f1;obtain rfl:c1=.int .i64 n1:=by simpa using h1
  obtain⟨n2,h2,_,_⟩:=iS Tryz.underlying3 f2;obtain rfl:c2=.int .i64 n2:=by simpa using h2
  obtain⟨n3,h3,_,_⟩:=iS Tryz.underlying3 f3;obtain rfl:c3=.int .i64 n3:=by simpa using h3
  obtain⟨N,h4,_,_⟩:=iS Tryz.underlying3 f4;obtain rfl:c4=.int .i64 N:=by simpa using h4
  rw[hx]at hw;have A:∀(j:Nat)(d:DataW H)(ty:TypeId),(List.map (fun x=>x.fst) xs)[j]?=some d→([3,3,3,3,3,67,67]:List TypeId)[j]?=some ty→∀m∈d.weights Tryz.prog ty,m≤reachBytes:=by
   intro j d ty hd E m hm;apply hw;simp only[DataW.weights,Tryz.underlying69];exact iZ (j:=j) (t:=ty) E hd m hm
  obtain⟨ni,ir,hi,_,F⟩:=Ea kp (v:=f) f5 (A 5 I.1 _ (by simp[J]) rfl);obtain⟨ne,er,he,_,G⟩:=Ea kp (v:=q) f6 (A 6 K.1 _ (by simp[L]) rfl);exact⟨⟨M,n1,n2,n3,N,f,ni,ir,q,ne,er⟩,rfl,hi,he,F,G⟩
theorem PN{enc:TypeId×Value→H}{x:DataW H×List MemPlace}(kp:∀b,spare b=true)(h:DataW.trod enc Tryz.prog w 0 spare held fuel 23 [v]=some x)(hw:∀m∈x.1.weights Tryz.prog 23,m≤reachBytes):∃n P,nI w v n P∧n*88≤140737488351232∧∀i<n,Dz w (P i).im∧Dz w (P i).ex:=by
 obtain⟨n,c,D,q,hb,f⟩:=xx (size:=7) (bytes:=88) Tryz.underlying23 Tryz.D7 (by omega) Tryz.PK h hw;have hr:∀i<n,∃p:Pr,c i=p.cells∧mL w p.im p.ni p.ir∧mL w p.ex p.ne p.er∧Dz w p.im∧Dz w p.ex:=fun i hi=>by
  obtain⟨⟨m,y,z,g⟩,j⟩:=f i hi;exact PM kp z (by rw[g];exact j)
 obtain⟨P,d⟩:=yH (⟨0,0,0,0,0,.slice none 0 0,0,fun _=>⟨true,0,0,0,0⟩,.slice none 0 0,0,fun _=>⟨true,0,0,0,0⟩⟩:Pr) hr;exact⟨n,P,⟨q.congr fun i hi=>(d i hi).1.symm,fun i hi=>⟨(d i hi).2.1,(d i hi).2.2.1⟩⟩,hb,fun i hi=>(d i hi).2.2.2⟩
end
section
open Go Go.RowKit Go.Proofs.YtjnkcibpkkjniaaGreat.kx
variable {W:World} {l c:Nat}
theorem Dz.PO{v:Value}(h:Dz W v){a:Addr}(e:v=.slice (some a) l c)(d:0<c):∃p,oH W a.block=some p:=by
 obtain⟨C,e,fr,hW⟩:=h a l c e d;exact AM hW
theorem Eb{u:Value}{ao:Option Addr}(h:@uX j9 W u (.slice ao l c))(hd:Dz W (.slice ao l c))(g:l≤c):u=.slice ao l c∨(l=0∧c=0∧∃a',u=.slice (some a') 0 0):=by
 letI:Scope:=j9
 cases ao with
 |none=>exact .inl (h.flat rfl)
 |some a =>
  by_cases j:0<c
  ·exact .inl (h.own a l c rfl (hd.PO rfl j))
  ·have d:c=0:=by omega
   have f:l=0:=by omega
   subst d f;exact .inr ⟨rfl,rfl,h.nil a rfl⟩
section
variable {W wS:World}
variable {n:Nat} {v u:Value}
theorem PQ(f:@tk j9 W wS){size:Nat}{c:Nat→List Value}(h:Sl W size v n c)(hu:u=v∨(n=0∧∃a',u=.slice (some a') 0 0))(g:∀i<n,∀x∈c i,xw x=true):Sl wS size u n c:=by
 obtain⟨ao,cap,rfl,j,m,q⟩:=h;rcases hu with rfl|⟨rfl,a',rfl⟩
 ·refine⟨ao,cap,rfl,j,m,fun d=>?_⟩;obtain⟨b,o,rfl,y⟩:=q d;exact⟨b,o,rfl,fun i hi k x hx=>@sI j9 W wS f _ _ _ (y i hi k x hx) (g i hi x (gv hx))⟩
 ·exact⟨some a',0,rfl,dD _,eP _,fun d=>absurd d (jd _)⟩
theorem Ec(d:@tk j9 W wS){r:Nat→Rl}(h:mL W v n r)(hu:@uX j9 W u v)(hd:Dz W v):mL wS u n r:=by
 have f:=h.1;obtain⟨ao,cap,rfl,g,_⟩:=f;refine⟨PQ d h.1 ?_ (fun i hi x hx=>?_),h.2⟩
 ·rcases Eb hu hd g with e|⟨j,q,m⟩
  ·exact .inl e
  ·exact .inr ⟨j,m⟩
 ·simp only[Rl.cells,fN,fO,fP]at hx;rcases hx with rfl|rfl|rfl|rfl|rfl<;>rfl
theorem PS(f:@tk j9 W wS){ao:Option Addr}{cap:Nat}{P:Nat→Pr}(h:nI W (.slice ao n cap) n P)(hd:∀i<n,Dz W (P i).im∧Dz W (P i).ex):∃x,nI wS (.slice ao n cap) n x:=by
 obtain⟨⟨y,j,e,m,q,z⟩,hr⟩:=h
 cases e
 by_cases A:n=0
 ·subst A;exact⟨P,⟨ao,cap,rfl,m,q,fun B=>absurd B (jd _)⟩,fun i hi=>absurd hi (ik _)⟩
 obtain⟨b,o,rfl,E⟩:=z (by omega);have hex:∀i,∃p:Pr,i<n→(∀k u,p.cells[k]?=some u→wS.cell? ⟨b,o+i*7+k,none⟩=some u)∧mL wS p.im p.ni p.ir∧mL wS p.ex p.ne p.er:=fun i=>by
  by_cases hi:i<n
  ·have g:=fun k u d=>E i hi k u d
   obtain⟨F,G,I,_⟩:=@yG j9 W wS f _ _ _ (g 5 (P i).im rfl);obtain⟨J,K,L,_⟩:=@yG j9 W wS f _ _ _ (g 6 (P i).ex rfl);refine⟨⟨(P i).au,(P i).hold,(P i).oi,(P i).oj,(P i).wait,F,(P i).ni,(P i).ir,J,(P i).ne,(P i).er⟩,fun _=>⟨fun k u d=>?_,Ec f (hr i hi).1 I (hd i hi).1,Ec f (hr i hi).2 L (hd i hi).2⟩⟩
   match k,d with
   |0,d=>cases d;exact @sI j9 W wS f _ _ _ (g 0 _ rfl) rfl
   |1,d=>cases d;exact @sI j9 W wS f _ _ _ (g 1 _ rfl) rfl
   |2,d=>cases d;exact @sI j9 W wS f _ _ _ (g 2 _ rfl) rfl
   |3,d=>cases d;exact @sI j9 W wS f _ _ _ (g 3 _ rfl) rfl
   |4,d=>cases d;exact @sI j9 W wS f _ _ _ (g 4 _ rfl) rfl
   |5,d=>cases d;exact G
   |6,d=>cases d;exact K
   |k+7,d=>simp[Pr.cells]at d
  ·exact⟨P i,fun h=>absurd h hi⟩
 refine⟨fun i=>Classical.choose (hex i),⟨some ⟨b,o,none⟩,cap,rfl,m,q,fun _=>⟨b,o,rfl,fun i hi k u d=>?_⟩⟩,fun i hi=>?_⟩
 ·exact(iI (hex i) hi).1 k u d
 ·exact(iI (hex i) hi).2
end
end
section
open Go.RowKit
theorem yK(w:World)(b c:Nat)(x y:Int)(d:w.cell? ⟨b,0,none⟩=some (.int .u8 x))(f:w.cell? ⟨b,1,none⟩=some (.int .u8 y)):(convert 86 9 (.slice (some ⟨b,0,none⟩) 2 c)).run Tryz.prog w=.ok (.string (strOfNums [x,y])) w :=
 jg w 86 5 Tryz.underlying86 Tryz.underlying5 b 0 2 c [x,y] rfl (fun i hi=>by
  match i,hi with
  |0,_=>exact d
  |1,_=>exact f) 9 Tryz.underlying9
theorem AY(w:World)(b c:Nat)(x:Int)(d:w.cell? ⟨b,0,none⟩=some (.int .u8 x)):(convert 86 9 (.slice (some ⟨b,0,none⟩) 1 c)).run Tryz.prog w=.ok (.string (strOfNums [x])) w :=
 jg w 86 5 Tryz.underlying86 Tryz.underlying5 b 0 1 c [x] rfl (fun i hi=>by
  match i,hi with
  |0,_=>exact d) 9 Tryz.underlying9
theorem Qh(w:World)(b c:Nat)(x y z u:Int)(d:w.cell? ⟨b,0,none⟩=some (.int .u8 x))(f:w.cell? ⟨b,1,none⟩=some (.int .u8 y))(g:w.cell? ⟨b,2,none⟩=some (.int .u8 z))(h:w.cell? ⟨b,3,none⟩=some (.int .u8 u)):(convert 86 9 (.slice (some ⟨b,0,none⟩) 4 c)).run Tryz.prog w=.ok (.string (strOfNums [x,y,z,u])) w :=
 jg w 86 5 Tryz.underlying86 Tryz.underlying5 b 0 4 c [x,y,z,u] rfl (fun i hi=>by
  match i,hi with
  |0,_=>exact d
  |1,_=>exact f
  |2,_=>exact g
  |3,_=>exact h) 9 Tryz.underlying9
theorem Qi(w:World)(b c:Nat)(x y z u v:Int)(d:w.cell? ⟨b,0,none⟩=some (.int .u8 x))(f:w.cell? ⟨b,1,none⟩=some (.int .u8 y))(g:w.cell? ⟨b,2,none⟩=some (.int .u8 z))(h:w.cell? ⟨b,3,none⟩=some (.int .u8 u))(j:w.cell? ⟨b,4,none⟩=some (.int .u8 v)):(convert 86 9 (.slice (some ⟨b,0,none⟩) 5 c)).run Tryz.prog w=.ok (.string (strOfNums [x,y,z,u,v])) w :=
 jg w 86 5 Tryz.underlying86 Tryz.underlying5 b 0 5 c [x,y,z,u,v] rfl (fun i hi=>by
  match i,hi with
  |0,_=>exact d
  |1,_=>exact f
  |2,_=>exact g
  |3,_=>exact h
  |4,_=>exact j) 9 Tryz.underlying9
variable {w:World}
theorem ji{B:Nat}{w1:World}(h:Below B w w1:=by repeat(first|exact iJ _ _|refine Below.drew ?_|refine Below.alloc ?_ (by first|omega|(simp only[iO,jk,jl];omega)|simp) _|refine jm ?_ (by first|omega|simp) _|assumption)):Below B w w1:=h
def ly (n:Int):List Int:=[n / 256 % 256,n % 256]
def mark:List Int:=[255,255,255,255,255,255,255,255,255,255,255,255,255,255,255,255]
def ld (kind:Int) (body:List Int):List Int:=mark++(ly (19+(body.length:Int))++kind::body)
def sJ (c n:Int):Int:=if c<0 then(-(c+1)) % n else c % n
theorem sK(xs ys:List Int):strOfNums xs++strOfNums ys=strOfNums (xs++ys):=by
 simp[strOfNums,ByteArray.ext_iff]
theorem Qj:(⟨#[255,255,255,255,255,255,255,255,255,255,255,255,255,255,255,255]⟩:ByteArray)=strOfNums mark:=by decide
section
theorem AZ(n:Int)(w:World):Calls Tryz.prog 164 #[.int .i64 n] w fun e w'=>e=.returned (.string (strOfNums (ly n)))∧Below w.heap.size w w':=by
 have kc:=yK;go_enter Tryz.func164,Tryz.ntmps164
 go_wp2
 go_ret;exact⟨rfl,(iJ _ _).alloc (dD _) _⟩
theorem Qk(n:Int)(w:World):Calls Tryz.prog 164 #[.int .i64 n] w fun e w'=>e=.returned (.string (strOfNums (ly n)))∧w'=w.alloc (.cells #[.int .u8 (n / 256 % 256),.int .u8 (n % 256)] 5):=by
 have kc:=yK;go_enter Tryz.func164,Tryz.ntmps164
 go_wp2
 go_ret;exact⟨rfl,rfl⟩
theorem Ej(n:Int)(w:World):Calls Tryz.prog 32 #[.int .i64 n] w fun e w'=>e=.returned (.string (strOfNums (ly n)))∧w'=w.alloc (.cells #[.int .u8 (n / 256 % 256),.int .u8 (n % 256)] 5):=by
 have kc:=yK;go_enter Tryz.func32,Tryz.ntmps32
 go_wp2
 go_ret;exact⟨rfl,rfl⟩
theorem Ql(c n:Int)(d:-9223372036854775808≤c∧c≤9223372036854775807)(f:0<n∧n≤9223372036854775807)(w:World):Calls Tryz.prog 13 #[.int .i64 c,.int .i64 n] w fun e w'=>e=.returned (.int .i64 (sJ c n))∧w'=w:=by
 obtain⟨g,j⟩:=d;obtain⟨m,q⟩:=f;go_enter Tryz.func13,Tryz.ntmps13
 go_wp2
 ·go_ret;refine⟨?_,rfl⟩;have h:c<0:=by assumption
  have e:sJ c n=-((c+1).tmod n):=by
   unfold sJ;rw[dr h,←Int.neg_tmod,Int.tmod_eq_emod_of_nonneg (by omega)]
  rw[e];rfl
 ·go_ret;refine⟨?_,rfl⟩;have h:0≤c:=by assumption
  have e:sJ c n=c % n:=by
   unfold sJ;rw[dt (by omega)]
  rw[e];rfl
theorem Qm(c n:Int)(d:0<n):0≤sJ c n∧sJ c n<n:=by
 unfold sJ;split
 ·exact⟨Int.emod_nonneg _ (by omega),Int.emod_lt_of_pos _ d⟩
 ·exact⟨Int.emod_nonneg _ (by omega),Int.emod_lt_of_pos _ d⟩
theorem Qn(n:Int)(w:World):Calls Tryz.prog 165 #[.int .u32 n] w fun e w'=>e=.returned (.string (strOfNums [n / 16777216 % 256,n / 65536 % 256,n / 256 % 256,n % 256]))∧Below w.heap.size w w':=by
 have kc:=Qh;go_enter Tryz.func165,Tryz.ntmps165
 go_wp2
 go_ret;exact⟨rfl,(iJ _ _).alloc (dD _) _⟩
theorem Qo(k:Nat)(h:k<16):strOfNums (List.replicate k 255)++(⟨#[255]⟩:ByteArray)=strOfNums (List.replicate (k+1) 255):=by
 rw[show(⟨#[255]⟩:ByteArray)=strOfNums [255] from rfl,sK,←List.replicate_succ']
theorem Qp(w:World):Calls Tryz.prog 31 #[] w fun e w'=>e=.returned (.string (strOfNums mark))∧w'=w:=by
 go_enter Tryz.func31,Tryz.ntmps31
 go_wp2_with fail
 go_loop [1,2] (fun s i=>∃k:Nat,k≤16∧i=.int .i64 k∧s=.string (strOfNums (List.replicate k 255))) (fun _ i=>16-(intOf i).toNat)
 case atStart=>exact⟨0,by omega,rfl,rfl⟩
 case round =>
  obtain⟨k,f,rfl,rfl⟩:=hrel
  by_cases d:k<16
  ·have g:=Qo k d;have h:¬9223372036854775807<(strOfNums (List.replicate k 255)).size+1:=by rw[jf];simp;omega
   go_wp2_with fail
   go_round
   case rel=>exact⟨k+1,by omega,by go_num,rfl⟩
   case measure=>simp[intOf];omega
  ·have f:k=16:=by omega
   subst f
   go_wp2_with fail
   go_ret;exact⟨rfl,rfl⟩
theorem A1:(⟨#[255,255,255,255,255,255,255,255,255,255,255,255,255,255,255,255]⟩:ByteArray)=strOfNums mark:=Qj
theorem A2(kind:Int)(b:List Int)(hb:b.length≤65535)(w:World):Calls Tryz.prog 154 #[.int .u8 kind,.string (strOfNums b)] w fun e w'=>e=.returned (.string (strOfNums (ld kind b)))∧Below w.heap.size w w':=by
 have kc:=AY;have f:=sK;have g:=jf;have h:=A1;have k2:∀n,(ly n).length=2:=fun _=>rfl
 have d:mark.length=16:=rfl;have ka:∀xs ys:List Int,(xs++ys).length=xs.length+ys.length:=fun _ _=>jh
 go_enter Tryz.func154,Tryz.ntmps154
 go_wp2_with fail
 go_region_with (go_at_call 164;go_loud (refine(Qk _ _).mono ?_);go_loud (rintro e w' ⟨rfl,rfl⟩))
 all_goals(go_wp2_with fail;go_ret;exact⟨rfl,ji⟩)
end
def lE (Q:Value→Prop) (w:World) (v:Value):Prop:=∀g cur ty fr,v.ownBlock=some g→w.heap[g]?=some (.cells cur ty fr)→∀u∈cur.toList,Q u
theorem lE.nil(Q:Value→Prop)(w:World):lE Q w (.slice none 0 0):=fun g _ _ _ h=>by cases h
theorem lE.keep{Q:Value→Prop}{w':World}{v:Value}(h:lE Q w v)(k:∀g,v.ownBlock=some g→w'.heap[g]?=w.heap[g]?):lE Q w' v:=fun g cur ty fr d f=>h g cur ty fr d ((k g d).symm.trans f)
theorem xz{z:Array Value}{n:Nat}(d:0<z.size){u:Value}(h:u∈(Builtin.zeroCells z n).toList):u∈z.toList:=by
 unfold Builtin.zeroCells at h;simp only[Array.toList_map,iY]at h;obtain⟨i,_,rfl⟩:=h;have hi:i % z.size<z.size:=gp _ d;rw[getElem!_pos z (i % z.size) hi];exact Array.getElem_mem_toList hi
def Pl (v:Value):Prop:=(∃k n,v=.int k n)∨(∃s,v=.string s)∨(∃b,v=.bool b)∨∃l c,v=.slice none l c
theorem Pl.int(k:IntKind)(n:Int):Pl (.int k n):=.inl ⟨_,_,rfl⟩
theorem Pl.string(s:ByteArray):Pl (.string s):=.inr (.inl ⟨_,rfl⟩)
theorem Pl.bool(b:Bool):Pl (.bool b):=.inr (.inr (.inl ⟨_,rfl⟩))
theorem Pl.mI(l c:Nat):Pl (.slice none l c):=.inr (.inr (.inr ⟨_,_,rfl⟩))
end
section
open Go Go.RowKit
def cellsOf (xs:List Int):List Value:=xs.map (Value.int .u8)
def Bytes (xs:List Int):Prop:=∀x∈xs,0≤x∧x<256
theorem Ek{x:Int}(h:0≤x∧x<256):((UInt8.ofNat x.toNat).toNat:Int)=x:=by
 have:(UInt8.ofNat x.toNat).toNat=x.toNat:=by
  simp[];omega
 rw[this];omega
theorem El{xs:List Int}(h:Bytes xs):((strOfNums xs).data.map fun b=>Value.int .u8 (b.toNat:Int))=(cellsOf xs).toArray:=by
 unfold strOfNums cellsOf;apply Array.ext';simp only[Array.toList_map,List.map_map];refine gO fun x hx=>?_
 simp only[Function.comp];rw[Ek (h x hx)]
theorem Qq(xs:List Int):(strOfNums xs).extract 0 (strOfNums xs).size=strOfNums xs:=by
 simp[ByteArray.ext_iff,strOfNums,ByteArray.size,ByteArray.extract,ByteArray.copySlice];exact ig (by simp)
section
variable {P:Program} (w:World)
theorem run_firstCells_string{xs:List Int}(h:Bytes xs)(size n:Nat)(d:n=xs.length):(Builtin.firstCells size n (.string (strOfNums xs))).run P w=.ok (cellsOf xs).toArray w:=by
 subst d;have e:(strOfNums xs).extract 0 xs.length=strOfNums xs:=by
  have:=Qq xs;rw[jf]at this;exact this
 simp[Builtin.firstCells,e,El h]
theorem Qr(xs:List Int):∀u∈cellsOf xs,u.oneCell'=true:=by
 intro u hu;obtain⟨x,_,rfl⟩:=iY.1 hu;rfl
theorem Em(xs:List Int):(cellsOf xs).length=xs.length:=by simp[cellsOf]
theorem En(xs ys:List Int):cellsOf xs++cellsOf ys=cellsOf (xs++ys):=by simp[cellsOf]
variable {s:List Int}
theorem Eo(Q:Value→Prop)(base:Nat)(t u ty e:TypeId)(i:TypeInfo)(z:Value)(S:P.underlying t=some (.slice e))(hu:P.underlying u=some .string)(hi:P.info? e=some i)(hz:i.zero=some z)(f:i.size=1)(I:i.bytes=1)(Y:z.cells.size=1)(v:Value)(n:Nat)(xs:List Value)(d:w.ownsRow base e 1 v n xs)(hs:Bytes s)(ag:n+s.length≤140737488355328)(B:base≤w.heap.size)(Z:∀u∈z.cells.toList,Q u)(J:∀u∈cellsOf s,Q u)(K:lE Q w v):∃v' w',(Builtin.append_ #[t,u] ty #[v,.string (strOfNums s)]).run P w=.ok v' w'∧w'.ownsRow base e 1 v' (n+s.length) (xs++cellsOf s)∧w.grownBy w' v.ownBlock∧(v'.ownBlock=v.ownBlock∨v'.ownBlock=some w.heap.size)∧lE Q w' v':=by
 have ah:140737488355328≤maxLen:=by decide
 have U:n+s.length≤9223372036854775807:=by omega
 have E:=Em s;have hlen:(xs++cellsOf s).length=(n+s.length)*1:=by rw[jh,d.1,E];omega
 have grown:∀(old:Nat),old<n+s.length→∀(row:Option Nat),
   (w.drew.alloc (.cells (xs.toArray++(cellsOf s).toArray++Builtin.zeroCells z.cells (grownCap w (n+s.length) old e-(n+s.length))) e)).ownsRow base e 1
    (.slice (some ⟨w.heap.size,0,none⟩) (n+s.length) (grownCap w (n+s.length) old e)) (n+s.length) (xs++cellsOf s) ∧
   w.grownBy (w.drew.alloc (.cells (xs.toArray++(cellsOf s).toArray++Builtin.zeroCells z.cells (grownCap w (n+s.length) old e-(n+s.length))) e)) row:=by
  intro old ho row;have aa:=grownCap_ge w (n+s.length) old e;have F:grownCap w (n+s.length) old e≤maxLen:=grownCap_le_maxLen w (n+s.length) old e (by omega);refine⟨⟨hlen,.inr ⟨w.heap.size,_,_,rfl,B,jq w.drew _,aa,F,?_,?_⟩⟩,⟨rfl,rfl,rfl,by simp,fun k hk _=>Go.heap_alloc_old w.drew _ hk⟩⟩
  ·have:=d.1;simp only[Array.size_append,gF,size_zeroCells,Y,E];omega
  ·simp only[jr,iF];rw[←iF,←hlen];exact List.take_left
 have xA:∀(X:List Value)(n1:Nat)(c:Nat),(∀u∈X,Q u)→lE Q (w.drew.alloc (.cells (X.toArray++(cellsOf s).toArray++Builtin.zeroCells z.cells n1) e)) (.slice (some ⟨w.heap.size,0,none⟩) (n+s.length) c):=by
  intro X n1 c hX k cur ty fr e1 V u hu
  cases e1
  have e3:=(jq w.drew _).symm.trans V
  cases e3
  simp only[jr,gV]at hu;rcases hu with(hu|hu)|hu
  ·exact hX u hu
  ·exact J u hu
  ·exact Z u (xz (by omega) hu)
 have hf:∀w':World,(Builtin.firstCells 1 s.length (.string (strOfNums s))).run P w'=.ok (cellsOf s).toArray w':=fun w'=>run_firstCells_string w' hs 1 s.length rfl
 have y:=jf s;rcases d.2 with⟨rfl,rfl⟩|⟨g,cap,cur,rfl,ab,L,ai,F,ad,x⟩
 ·have hx:xs=[]:=js (by simpa using d.1);subst hx
  by_cases hm:s=[]
  ·subst hm;refine⟨.slice none 0 0,w,?_,ju w base e 1,⟨rfl,rfl,rfl,dD _,fun _ _ _=>rfl⟩,.inl rfl,lE.nil _ _⟩;have h0:(strOfNums []).size=0:=rfl;simp[Builtin.append_,iu S,iu hu,sizeOf,typeInfo,hi,Builtin.lenOf,Builtin.firstCells,h0]
  ·have ae:0<s.length:=List.length_pos_iff.2 hm;have hr:=run_append_nil_string (P:=P) w t u ty e i z S hu hi hz (strOfNums s) (by omega) (by omega) (by rw[I,y];omega);rw[El hs,y]at hr;have q:=grown 0 (by omega) (Value.ownBlock (.slice none 0 0));have M:=xA [] (grownCap w (0+s.length) 0 e-(0+s.length)) (grownCap w (0+s.length) 0 e) (fun u h=>by cases h);simp only[dG,ix,eF]at q M ⊢;exact⟨_,_,hr,q.1,q.2,.inr rfl,M⟩
 ·by_cases m:n+s.length≤cap
  ·have A:n*1+(cellsOf s).length≤cur.size:=by rw[E,ad];omega
   have G:=run_storeCells_at P g (n*1) e (cellsOf s) 0 cur w L (by simpa using A) (Qr s);simp only[gR]at G;have hr:(Builtin.append_ #[t,u] ty #[.slice (some ⟨g,0,none⟩) n cap,.string (strOfNums s)]).run P w=.ok (.slice (some ⟨g,0,none⟩) (n+s.length) cap) (w.setRow g (cur.toList.take (n*1)++cellsOf s++cur.toList.drop (n*1+(cellsOf s).length)).toArray):=by
    simp[Builtin.append_,iu S,iu hu,sizeOf,typeInfo,hi,f,Builtin.lenOf,y,m,hf,jv];simp at G;simp[G]
   refine⟨_,_,hr,⟨hlen,.inr ⟨g,cap,_,rfl,ab,setRow_heap w g cur _ e _ L,m,F,?_,?_⟩⟩,⟨rfl,rfl,rfl,by simp,fun k _ hk=>setRow_other w g k _ (fun e=>hk (by simp[Value.ownBlock,e]))⟩,.inl rfl,?_⟩
   ·simp only[gF,jh,jw,jx,je];omega
   ·rw[x,←hlen];exact List.take_left
   ·have hq:=K g cur e (0,0) rfl L;intro k af pK fr e1 V u hu
    cases e1
    rw[setRow_heap w g cur _ e _ L]at V
    cases V
    simp only[gV]at hu;rcases hu with(hu|hu)|hu
    ·exact hq u (jy hu)
    ·exact J u hu
    ·exact hq u (jz hu)
  ·have holds:∀j u,xs[j]?=some u→w.cell? ((⟨g,0,none⟩:Addr).add j)=some u:=d.cells (g:=g) rfl;have hn:¬(n+s.length≤cap):=m;have N:¬(9223372036854775807<((n:Int)+(s.length:Int))):=by omega
   have A:=growslice_fits (need:=n+s.length) (old:=cap) (bytes:=1) (by omega) (by omega);have O:¬(281474976710656<Builtin.nextslicecap (n+s.length) cap*i.bytes):=by rw[I];omega
   have R:=run_firstCells_some (P:=P) w.drew i.size n ⟨g,0,none⟩ n cap xs (by rw[f];exact d.1) (by simpa using holds);rw[f]at R;have hr:(Builtin.append_ #[t,u] ty #[.slice (some ⟨g,0,none⟩) n cap,.string (strOfNums s)]).run P w=.ok (.slice (some ⟨w.heap.size,0,none⟩) (n+s.length) (grownCap w (n+s.length) cap e))
     (w.drew.alloc (.cells (xs.toArray++(cellsOf s).toArray++Builtin.zeroCells z.cells (grownCap w (n+s.length) cap e-(n+s.length))) e)):=by
    simp[Builtin.append_,iu S,iu hu,sizeOf,typeInfo,zeroValue,hi,hz,f,Builtin.lenOf,y,hn,N,O,Question.forced,hf,R,newRow,grownCap];congr 2;apply Array.ext';simp[iF]
   have q:=grown cap (by omega) (Value.ownBlock (.slice (some ⟨g,0,none⟩) n cap));exact⟨_,_,hr,q.1,q.2,.inr rfl,xA xs _ _ (fun u h=>by rw[←x]at h;exact K g cur e (0,0) rfl L u (jy h))⟩
theorem run_append_own_string(base:Nat)(t u ty e:TypeId)(i:TypeInfo)(z:Value)(q:P.underlying t=some (.slice e))(hu:P.underlying u=some .string)(hi:P.info? e=some i)(x:i.zero=some z)(d:i.size=1)(h:i.bytes=1)(j:z.cells.size=1)(v:Value)(n:Nat)(xs:List Value)(g:w.ownsRow base e 1 v n xs)(y:Bytes s)(m:n+s.length≤140737488355328)(f:base≤w.heap.size):∃v' w',(Builtin.append_ #[t,u] ty #[v,.string (strOfNums s)]).run P w=.ok v' w'∧w'.ownsRow base e 1 v' (n+s.length) (xs++cellsOf s)∧w.grownBy w' v.ownBlock∧(v'.ownBlock=v.ownBlock∨v'.ownBlock=some w.heap.size):=by
 obtain⟨v',w',A,B,E,F,_⟩:=Eo (P:=P) w (fun _=>True) base t u ty e i z q hu hi x d h j v n xs g y m f (fun _ _=>trivial) (fun _ _=>trivial) (fun _ _ _ _ _ _ _ _=>trivial);exact⟨v',w',A,B,E,F⟩
end
end
section
open Go.RowKit
theorem xB:∀xs ys:List Int,(xs++ys).length=xs.length+ys.length:=fun _ _=>jh
theorem rf:∀n,(ly n).length=2:=fun _=>rfl
theorem Ev:mark.length=16:=rfl
theorem sL(kind:Int)(b:List Int):(ld kind b).length=19+b.length:=by simp[ld,rf,Ev];omega
theorem Ew(kind:Int)(b:List Int)(hb:b.length≤65535)(w:World):Calls Tryz.prog 15 #[.int .u8 kind,.string (strOfNums b)] w fun e w'=>e=.returned (.string (strOfNums (ld kind b)))∧Below w.heap.size w w':=by
 have kc:=AY;have f:=sK;have g:=jf;have h:=A1;have k2:=rf;have d:=Ev;have ka:=xB;go_enter Tryz.func15,Tryz.ntmps15
 go_wp2_with fail
 go_region_with (first
  |(go_at_call 31;go_loud (refine(Qp _).mono ?_);go_loud (rintro e w' ⟨rfl,rfl⟩))
  |(go_at_call 32;go_loud (refine(Ej _ _).mono ?_);go_loud (rintro e w' ⟨rfl,rfl⟩)))
 all_goals(go_wp2_with fail;go_ret;exact⟨rfl,ji⟩)
theorem Ex(w:World):Calls Tryz.prog 16 #[] w fun e w'=>e=.returned (.string (strOfNums (ld 4 [])))∧Below w.heap.size w w':=by
 have d:(⟨#[]⟩:ByteArray)=strOfNums []:=rfl;go_enter Tryz.func16,Tryz.ntmps16
 go_wp2_with (go_at_call 15;rw[d];refine(Ew 4 [] (by simp) _).mono ?_;rintro e w' ⟨rfl,hB⟩)
 go_ret;exact⟨rfl,hB⟩
theorem Ey(w:World):Calls Tryz.prog 146 #[] w fun e w'=>e=.returned (.string (strOfNums (ld 4 [])))∧Below w.heap.size w w':=by
 have d:(⟨#[]⟩:ByteArray)=strOfNums []:=rfl;go_enter Tryz.func146,Tryz.ntmps146
 go_wp2_with (go_at_call 154;rw[d];refine(A2 4 [] (by simp) _).mono ?_;rintro e w' ⟨rfl,hB⟩)
 go_ret;exact⟨rfl,hB⟩
end
end Go.Proofs.YtjnkcibpkkjniaaGreat
