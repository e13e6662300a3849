import Derived.Test.YtjnkcibpkkjniaaGreatA00
import Derived.Test.YtjnkcibpkkjniaaGreatA04
import Derived.Conc.CompanyCalls
set_option linter.all false
namespace Go.Proofs.YtjnkcibpkkjniaaGreat
def gD:=@Go.Conc.goes_oper_k
end Go.Proofs.YtjnkcibpkkjniaaGreat
namespace Go.Proofs.YtjnkcibpkkjniaaGreat.j7
section
open Go.Conc
variable [Scope]
section
variable {P:Program}
variable {S:Loc→Prop} {v:World} {ρ:jR} {b jS:Frame} {a:Act}
theorem kR.at_{todo:List Item}(h:kR S ρ v (b.at a todo) jS):jS=jS.at ⟨jS.tmps,jS.defers⟩ todo:=by
 obtain⟨fn,tmps,j,defers,mode,kind,ro⟩:=jS;have e:=h.todo;have f:=h.mode.1;have g:=h.round.2;simp only[Frame.at]at e f g;subst e f g;rfl
theorem zf[ki P][Bodies P]{o:Oper}(h:ow P o=true){fr:Frame}(hu:uY o fr.eval=true)(E:kR S ρ v fr jS){wS w:World}(m:HR ρ wS w)(d:Nat){nx:Next}{w2:World}(hr:(execOp fr.eval o).run P (again wS fun j q=>w.tape (d+j) q)=.ok nx w2):∃f wB es ρ',(execOp jS.eval o).runT P (w.at d) #[]=(.ok f wB,es)∧Grow ρ w ρ'∧NR ρ' nx f∧HR ρ' w2 wB∧w.heap.size≤wB.heap.size∧(∀e∈es,nj ρ' e)∧Kept ρ (w.at d) wB:=by
 have r:HR ρ (again wS fun j q=>w.tape (d+j) q) (w.at d):=⟨m.obj,m.inj,m.base,m.os,m.sync⟩;have F:TA ⟨none,d,fun j q=>w.tape (d+j) q⟩ (again wS fun j q=>w.tape (d+j) q) (w.at d):=by
  refine⟨?_,rfl,fun j q _=>?_⟩
  ·show(d:Int)=(0:Nat)+(d:Int);omega
  ·show w.tape (d+j) q=w.tape (d+(0+j)) q;rw[dB]
 have g:∀cs b,o.op≠.select cs b:=fun cs b e=>by simp[ow,e]at h
 have n:=BG (P:=P) o h E.eval;rw[BQ g (fun t=>rfl) hu,BQ g (fun t=>rfl) hu]at n;have B:=uO n _ _ #[] r F;rw[hr]at B;obtain⟨f,wB,new,ρ',e,C,G,z,_,D,A⟩:=B (fun l H=>by cases H);exact⟨f,wB,#[]++new,ρ',e,⟨C.le,C.new⟩,G,z,D.size,by simpa using A,D⟩
theorem kR.BU{x:World}{ops:Array Oper}{i:Nat}{l:List Nat}{k:List Item}(h:kR S ρ x (b.at a (.inRegion ops (i::l)::k)) jS){v v':Value}(g:VF S ρ x v v'):kR S ρ x ((b.at a (.inRegion ops (i::l)::k)).finish v) (jS.finish v'):=by
 have e:=h.at_;have f:=h.tmps;rw[e,fl,fl];have hd:=h.defers;refine⟨h.fn,?_,rfl,?_,⟨rfl,.inl rfl⟩,h.kind,rfl,rfl⟩
 ·cases(ops[i]?).bind (·.dst)with
  |none=>exact f
  |some d=>exact mq.set f d g
 ·cases(ops[i]?).bind (·.dst)<;>exact hd
theorem kR.finish{S:Loc→Prop}{x:World}{ρ:jR}{b jS:Frame}{a:Act}{ops:Array Oper}{i:Nat}{l:List Nat}{k:List Item}(h:kR S ρ x (b.at a (.inRegion ops (i::l)::k)) jS){v v':Value}(e:VR ρ v v'):kR S ρ x ((b.at a (.inRegion ops (i::l)::k)).finish v) (jS.finish v'):=h.BU (.inl e)
theorem j6.Hz[ki P][Bodies P]{cs:List Frame}{Q:Frame→List Frame→World→Prop}{b:Frame}{a:Act}{ops:Array Oper}{i:Nat}{l:List Nat}{k:List Item}{xs:List Frame}{wS:World}{o:Oper}(W:ops[i]?=some o)(hw:Region.wanted o (yielded ops a.tmps)=true)(I:ow P o=true)(hu:uY o a.eval=true)(Y:Value→World→Prop)(hr:∀T,∃v w2 v2,(execOp a.eval o).run P (again wS T)=.ok (.value v) w2∧(v2:World).heap=w2.heap∧v2.os=w2.os∧Y v v2)(X:∀v v2,Y v v2→j6 P cs Q (b.at (a.put o.dst v) (.inRegion ops l::k)) xs v2):j6 P cs Q (b.at a (.inRegion ops (i::l)::k)) xs wS:=by
 refine j6.bind (Q:=fun f x v2=>∃v,f=b.at (a.put o.dst v) (.inRegion ops l::k)∧x=xs∧Y v v2) (fun Shun ρ gs w sl t q r=>?_) (by rintro _ _ _ ⟨v,rfl,rfl,z⟩;exact X _ _ z);obtain⟨jS,ys,Z,A,hx⟩:=r.main;have B:(b.at a (.inRegion ops (i::l)::k)).eval=a.eval:=fo b a _;have C:∀v,(b.at a (.inRegion ops (i::l)::k)).finish v=b.at (a.put o.dst v) (.inRegion ops l::k):=fun v=>by rw[fl,W];rfl
 obtain⟨N,gs',g',w',j0,t',q',r1,r2,r3,r4,r5,ρ',v,v2,v',rfl,m,h,J,z,L,n⟩:=tV (P:=P) (Shun:=Shun) (w:=w) (g:=G jS (ys++cs)) (Post:=fun g' w'=>∃ρ' v v2 v',g'=G (jS.finish v') (ys++cs)∧Grow ρ w ρ'∧HR ρ' v2 w'∧VR ρ' v v'∧Y v v2∧w.heap.size≤w'.heap.size∧kW Shun ρ w Shun ρ' w') rfl (fun d=>by
  obtain⟨v,w2,v2,D,e1,e2,z⟩:=hr fun j q=>w.tape (d+j) q
  obtain⟨aa,wB,es,ρ',E,m,hn,h,hsz,M,O⟩:=zf I (by rw[B];exact hu) A r.hr d (nx:=.value v) (w2:=w2) (by rw[B];exact D)
  cases hn with
  | @value _ v' J =>
   refine⟨G (jS.finish v') (ys++cs),wB,seen P jS.fn es++#[],?_,fun e he=>?_,hsz,ρ',v,v2,v',rfl,m,h.jZ e1 e2,J,z,hsz,kW.kept O m rfl rfl⟩
   ·have e:=A.at_;have R:yielded ops jS.tmps=yielded ops a.tmps:=(A.tmps.yielded ops).symm;have F:=stepG_op (P:=P) (b:=jS) (a:=⟨jS.tmps,jS.defers⟩) (k:=k) (cs:=ys++cs) (w:=w.at d) (i:=i) (rest:=l) W (by rw[R];exact hw);rw[←e]at F;have H:jS.eval=(Act.mk jS.tmps jS.defers).eval:=by
     have:=fo jS ⟨jS.tmps,jS.defers⟩ (.inRegion ops (i::l)::k);rw[←e]at this;exact this
    have U:(jS.kind == CallKind.early)=false:=by rw[A.kind.2];rfl
    show stepG P true { frame:=jS,callers:=ys++cs,status:=.running,dying:=none } (w.at d)=_;rw[F,←H];simp only[stepG.apply,dg,E,U,dG,dh,GStep.after];rfl
   ·simp only[fj]at he;exact vF (r.mD.grow m hsz) h (M e (rB he))) gs sl t q Z r.leave r.past
 have V:=(A.mB m.le n).finish J;exact⟨N,gs',w',j0,t',q',Shun,ρ',(b.at a (.inRegion ops (i::l)::k)).finish v,xs,v2,r1,m.le,⟨⟨_,ys,r3,V,hx.mB m.le n⟩,h,r4,r5,r.mD.grow m L⟩,⟨v,C v,rfl,z⟩,n⟩
theorem j6.HD [ki P] [Bodies P] {cs:List Frame} {Q:Frame→List Frame→World→Prop} {b:Frame} {a:Act} {ops:Array Oper} {i:Nat} {l:List Nat} {k:List Item} {xs:List Frame} {wS:World} {o:Oper} (ho:ops[i]? = some o) (hw:Region.wanted o (yielded ops a.tmps)=true) (sP:ow P o=true) (hu:uY o a.eval=true)
    (Y:World→Prop) (hr:∀ T,∃ w2 v2,(execOp a.eval o).run P (again wS T)=.ok .skip w2∧(v2:World).heap=w2.heap∧v2.os=w2.os∧Y v2) (hk:∀ v2,Y v2→j6 P cs Q (b.at (a.put o.dst undef) (.inRegion ops l::k)) xs v2) :
    j6 P cs Q (b.at a (.inRegion ops (i::l)::k)) xs wS:=by
  refine j6.bind (Q:=fun f x v2=>f=b.at (a.put o.dst undef) (.inRegion ops l::k)∧x=xs∧Y v2) (fun Shun ρ gs w sl t q hs=>?_) (by rintro _ _ _ ⟨rfl,rfl,hy⟩;exact hk _ hy)
  obtain ⟨jS,ys,h0,hf,hx⟩:=hs.main
  have BV:(b.at a (.inRegion ops (i::l)::k)).eval=a.eval:=fo b a _
  have U6:∀ v,(b.at a (.inRegion ops (i::l)::k)).finish v=b.at (a.put o.dst v) (.inRegion ops l::k):=fun v=>by rw [fl,ho];rfl
  obtain ⟨N,gs',g',w',j0,t',q',r1,r2,r3,r4,r5,ρ',v2,rfl,hg,tQ,hy,hs2,zg⟩:=tV (P:=P) (Shun:=Shun) (w:=w) (g:=G jS (ys++cs)) (Post:=fun g' w'=>∃ ρ' v2,g'=G (jS.finish undef) (ys++cs)∧Grow ρ w ρ'∧HR ρ' v2 w'∧Y v2∧w.heap.size≤w'.heap.size∧kW Shun ρ w Shun ρ' w') rfl (fun d=>by
    obtain ⟨w2,v2,HU,e1,e2,hy⟩:=hr fun j q=>w.tape (d+j) q
    obtain ⟨TO,wB,es,ρ',HV,hg,hn,tQ,hsz,HX,HY⟩:=zf sP (by rw [BV];exact hu) hf hs.hr d (nx:=.skip) (w2:=w2) (by rw [BV];exact HU)
    cases hn with
    | skip =>
      refine ⟨G (jS.finish undef) (ys++cs),wB,seen P jS.fn es++#[],?_,fun e he=>?_,hsz,ρ',v2,rfl,hg,tQ.jZ e1 e2,hy,hsz,kW.kept HY hg rfl rfl⟩
      · have e:=hf.at_
        have H6:yielded ops jS.tmps=yielded ops a.tmps:=(hf.tmps.yielded ops).symm
        have BW:=stepG_op (P:=P) (b:=jS) (a:=⟨jS.tmps,jS.defers⟩) (k:=k) (cs:=ys++cs) (w:=w.at d) (i:=i) (rest:=l) ho (by rw [H6];exact hw)
        rw [←e] at BW
        have H7:jS.eval=(Act.mk jS.tmps jS.defers).eval:=by
          have:=fo jS ⟨jS.tmps,jS.defers⟩ (.inRegion ops (i::l)::k)
          rw [←e] at this;exact this
        have H8:(jS.kind == CallKind.early)=false:=by rw [hf.kind.2];rfl
        show stepG P true { frame:=jS,callers:=ys++cs,status:=.running,dying:=none } (w.at d)=_
        rw [BW,←H7]
        simp only [stepG.apply,dg,HV,H8,dG,dh,GStep.after]
        rfl
      · simp only [fj] at he
        exact vF (hs.mD.grow hg hsz) tQ (HX e (rB he))) gs sl t q h0 hs.leave hs.past
  have H9:=(hf.mB hg.le zg).finish (pS (ρ:=ρ'))
  exact ⟨N,gs',w',j0,t',q',Shun,ρ',(b.at a (.inRegion ops (i::l)::k)).finish undef,xs,v2,r1,hg.le,⟨⟨_,ys,r3,H9,hx.mB hg.le zg⟩,tQ,r4,r5,hs.mD.grow hg hs2⟩,⟨U6 undef,rfl,hy⟩,zg⟩
theorem j6.Ia[ki P][lu P]{cs:List Frame}{Q:Frame→List Frame→World→Prop}{b:Frame}{a:Act}{ops:Array Oper}{i:Nat}{l:List Nat}{k:List Item}{xs:List Frame}{wS:World}{o:Oper}(ho:ops[i]?=some o)(hw:Region.wanted o (yielded ops a.tmps)=true)(M:ow P o=true)(hu:uY o a.eval=true)(R:Value→World→Prop)(hr:∀T,∃f args w2 v2,(execOp a.eval o).run P (again wS T)=.ok (.enter f args) w2∧(v2:World).heap=w2.heap∧v2.os=w2.os∧∀O,Calls P f args (again v2 O) fun e w'=>∃v,e=.returned v∧R v w')(hk:∀v w2 v2,R v w2→(v2:World).heap=w2.heap→v2.os=w2.os→j6 P cs Q (b.at (a.put o.dst v) (.inRegion ops l::k)) xs v2):j6 P cs Q (b.at a (.inRegion ops (i::l)::k)) xs wS:=by
 refine j6.bind (Q:=fun f x v2=>∃v,f=b.at (a.put o.dst v) (.inRegion ops l::k)∧x=xs∧R v v2) (fun Shun ρ gs w sl t q r=>?_) (by rintro _ _ _ ⟨v,rfl,rfl,hy⟩;exact hk _ _ _ hy rfl rfl);obtain⟨jS,ys,h0,C,hx⟩:=r.main;have D:(b.at a (.inRegion ops (i::l)::k)).eval=a.eval:=fo b a _;have E:∀v,(b.at a (.inRegion ops (i::l)::k)).finish v=b.at (a.put o.dst v) (.inRegion ops l::k):=fun v=>by rw[fl,ho];rfl
 obtain⟨N,ag,g1,w1,U,t1,q1,r1,r2,r3,r4,r5,ah,f,args,lF,v2,z,rfl,A,n,h,V,F,W⟩:=tV (P:=P) (Shun:=Shun) (w:=w) (g:=G jS (ys++cs)) (Post:=fun g' w'=>∃ρ' f args lF v2,Scope.ok f=true∧g'=G (Frame.enter P f lF .normal) (jS::(ys++cs))∧Grow ρ w ρ'∧HR ρ' v2 w'∧jW ρ' args lF∧(∀O,Calls P f args (again v2 O) fun e w'=>∃v,e=.returned v∧R v w')∧w.heap.size≤w'.heap.size∧kW Shun ρ w Shun ρ' w') rfl (fun d=>by
  obtain⟨f,args,w2,v2,H,e1,e2,V⟩:=hr fun j q=>w.tape (d+j) q
  obtain⟨ai,wB,es,ρ',I,A,hn,n,hsz,X,Y⟩:=zf M (by rw[D];exact hu) C r.hr d (nx:=.enter f args) (w2:=w2) (by rw[D];exact H)
  cases hn with
  | @enter _ _ lF z h =>
   refine⟨G (Frame.enter P f lF .normal) (jS::(ys++cs)),wB,seen P jS.fn es++#[],?_,fun e he=>?_,hsz,ρ',f,args,lF,v2,z,rfl,A,n.jZ e1 e2,h,V,hsz,kW.kept Y A rfl rfl⟩
   ·have e:=C.at_;have Z:yielded ops jS.tmps=yielded ops a.tmps:=(C.tmps.yielded ops).symm;have J:=stepG_op (P:=P) (b:=jS) (a:=⟨jS.tmps,jS.defers⟩) (k:=k) (cs:=ys++cs) (w:=w.at d) (i:=i) (rest:=l) ho (by rw[Z];exact hw);rw[←e]at J;have L:jS.eval=(Act.mk jS.tmps jS.defers).eval:=by
     have:=fo jS ⟨jS.tmps,jS.defers⟩ (.inRegion ops (i::l)::k);rw[←e]at this;exact this
    have aa:(jS.kind == CallKind.early)=false:=by rw[C.kind.2];rfl
    have ab:jS.todo=.inRegion ops (i::l)::k:=C.todo;show stepG P true { frame:=jS,callers:=ys++cs,status:=.running,dying:=none } (w.at d)=_;rw[J,←L];simp only[stepG.apply,dg,I,aa,dG,dh,GStep.after,ab];rfl
   ·simp only[fj]at he;exact vF (r.mD.grow A hsz) n (X e (rB he))) gs sl t q h0 r.leave r.past
 obtain⟨N2,gs',w',j0,t',q',B,v,v',ad,k1,k2,k3,k4,k5,k6,k7,k8,k9,ae⟩:=Hv z h n r3 r4 r5 (r.mD.grow A F) (sl:=U) V;have hle:ρ.le B:=jR.le_trans A.le k6.le;have m:kW Shun ρ w Shun B w':=W.trans (kW.kept k7 k6 rfl rfl);have af:=(C.mB hle m).finish k9;refine⟨N+N2,gs',w',j0,t',q',Shun,B,(b.at a (.inRegion ops (i::l)::k)).finish v,xs,ad,?_,hle,⟨⟨_,ys,k3,af,hx.mB hle m⟩,k8,k4,k5,(r.mD.grow A F).grow k6 k7.size⟩,⟨v,E v,rfl,ae⟩,m⟩;rw[eL,r1];exact k1
end
end
section
open Go.Conc
variable [Scope]
section
variable {P:Program} {cs:List Frame} {Q:Frame→List Frame→World→Prop} {b:Frame} {a:Act} {xs:List Frame} {wS:World}
variable {S:Loc→Prop} {x:World} {ρ:jR} {jS:Frame} {todo vG:List Item}
theorem kR.uW(h:kR S ρ x (b.at a todo) jS):kR S ρ x (b.at a vG) (jS.at ⟨jS.tmps,jS.defers⟩ vG) :=
 ⟨h.fn,h.tmps,rfl,h.defers,⟨rfl,.inl rfl⟩,h.kind,rfl,rfl⟩
theorem kR.get{S:Loc→Prop}{x:World}{ρ:jR}{fr jS:Frame}(h:kR S ρ x fr jS){c:Operand}(f:lg c=true)(hm:kT (fr.eval c)=false):VR ρ (fr.eval c) (jS.eval c):=by
 have:=h.eval.get f
 cases c with
 |tmp t =>
  have e:kT (fr.tmps.getD t undef)=false:=hm;unfold uX at this;simp only[e,dG,dh]at this;exact this
 |_=>exact this
theorem kR.args{fr:Frame}(h:kR S ρ x fr jS){xs:Array Operand}(hx:xs.all lg=true)(hm:xs.all (fun c=>!kT (fr.eval c))=true):jW ρ (xs.map fr.eval) (xs.map jS.eval):=by
 refine⟨by simp,fun i v v' a b=>?_⟩;rw[dQ]at a b
 cases e:xs[i]? with
 |none=>rw[e]at a;cases a
 |some c =>
  rw[e]at a b
  cases a;cases b
  have f:=dw e;exact h.get (dv.1 hx c f) (by simpa using dv.1 hm c f)
theorem j6.move(h:∀(b':Frame)(a':Act)(ys:List Frame)(w:World),stepG P true (G (b'.at a' todo) ys) w=.go (G (b'.at a' vG) ys) w)(k:j6 P cs Q (b.at a vG) xs wS):j6 P cs Q (b.at a todo) xs wS:=by
 refine j6.ctl (fun S ρ u jS ys w f=>⟨jS.at ⟨jS.tmps,jS.defers⟩ vG,?_,f.uW⟩) k;have e:=f.at_;have:=h jS ⟨jS.tmps,jS.defers⟩ ys w;rw[←e]at this;exact this
variable {y:Code} {k:List Item}
theorem j6.cond{c:Operand}{x:Code}{t:Bool}(m:lg c=true)(j:a.eval c=.bool t)(h:j6 P cs Q (b.at a (.code (if t then x else y)::k)) xs wS):j6 P cs Q (b.at a (.code (.cond c x y)::k)) xs wS:=by
 refine j6.ctl (fun S ρ u jS ys w g=>⟨jS.at ⟨jS.tmps,jS.defers⟩ (.code (if t then x else y)::k),?_,g.uW⟩) h;have e:=g.at_;have f:=g.get m (by rw[Frame.eval_at,j];rfl);rw[Frame.eval_at,j]at f;have hb:(Act.mk jS.tmps jS.defers).eval c=.bool t:=by
  rw[e,Frame.eval_at]at f;generalize(Act.mk jS.tmps jS.defers).eval c=v at f
  cases f;rfl
 have:=fp (P:=P) (main:=true) (b:=jS) (k:=k) (cs:=ys) (w:=w) (x:=x) (y:=y) hb;rw[←e]at this;exact this
variable {ops:Array Oper} {i:Nat} {l:List Nat} {o:Oper}
theorem j6.skip(g:ops[i]?=some o)(hw:Region.wanted o (yielded ops a.tmps)=false)(h:j6 P cs Q (b.at (a.put o.dst undef) (.inRegion ops l::k)) xs wS):j6 P cs Q (b.at a (.inRegion ops (i::l)::k)) xs wS:=by
 have f:(b.at a (.inRegion ops (i::l)::k)).finish undef=b.at (a.put o.dst undef) (.inRegion ops l::k):=by rw[fl,g];rfl
 refine j6.ctl (fun S ρ u jS ys w j=>⟨jS.finish undef,?_,by rw[←f];exact j.finish pS⟩) h;have e:=j.at_;have m:yielded ops jS.tmps=yielded ops a.tmps:=(j.tmps.yielded ops).symm;have:=stepG_unwanted (P:=P) (main:=true) (b:=jS) (a:=⟨jS.tmps,jS.defers⟩) (k:=k) (cs:=ys) (w:=w) (rest:=l) g (by rw[m];exact hw);rw[←e]at this;rw[this];have n:jS.finish undef=jS.at (Act.put ⟨jS.tmps,jS.defers⟩ o.dst undef) (.inRegion ops l::k):=by
  have:=fl jS ⟨jS.tmps,jS.defers⟩ ops i l k undef;rw[←e,g]at this;exact this
 rw[n]
theorem j6.seq{x:Code}(h:j6 P cs Q (b.at a (.code x::.code y::k)) xs wS):j6 P cs Q (b.at a (.code (.seq x y)::k)) xs wS:=j6.move (fun _ _ _ _=>stepG_seq) h
theorem j6.pj(h:j6 P cs Q (b.at a k) xs wS):j6 P cs Q (b.at a (.code .skip::k)) xs wS:=j6.move (fun _ _ _ _=>stepG_skip) h
variable {id:Nat}
theorem j6.inBlock(h:j6 P cs Q (b.at a k) xs wS):j6 P cs Q (b.at a (.inBlock id::k)) xs wS:=j6.move (fun _ _ _ _=>stepG_inBlock) h
theorem j6.block{id:Nat}{c:Code}{k:List Item}(h:j6 P cs Q (b.at a (.code c::.inBlock id::k)) xs wS):j6 P cs Q (b.at a (.code (.block id c)::k)) xs wS:=j6.move (fun _ _ _ _=>stepG_block) h
variable {c:Code}
theorem j6.loop(h:j6 P cs Q (b.at a (.code c::.inLoop c::k)) xs wS):j6 P cs Q (b.at a (.code (.loop c)::k)) xs wS:=j6.move (fun _ _ _ _=>stepG_loop) h
theorem j6.inLoop(h:j6 P cs Q (b.at a (.code c::.inLoop c::k)) xs wS):j6 P cs Q (b.at a (.inLoop c::k)) xs wS:=j6.move (fun _ _ _ _=>stepG_inLoop) h
theorem j6.exit{k':List Item}(e:exitTo id k=some k')(h:j6 P cs Q (b.at a k') xs wS):j6 P cs Q (b.at a (.code (.exit id)::k)) xs wS:=j6.move (fun _ _ _ _=>stepG_exit e) h
theorem j6.region(h:j6 P cs Q (b.at a (.inRegion ops (List.range ops.size)::k)) xs wS):j6 P cs Q (b.at a (.code (.region id ops false)::k)) xs wS:=j6.move (fun _ _ _ _=>fq) h
theorem j6.kE(h:j6 P cs Q (b.at a k) xs wS):j6 P cs Q (b.at a (.inRegion ops []::k)) xs wS:=j6.move (fun _ _ _ _=>stepG_region_end) h
theorem j6.ret{k:List Item}(h:j6 P cs Q { b.at a (.code .ret::k)with mode:=.returning } xs wS):j6 P cs Q (b.at a (.code .ret::k)) xs wS:=by
 refine j6.ctl (fr2:={ b.at a (.code .ret::k)with mode:=.returning }) (fun S ρ u jS ys w f=>⟨{ jS.at ⟨jS.tmps,jS.defers⟩ (.code .ret::k)with mode:=.returning },?_,⟨f.fn,f.tmps,rfl,f.defers,⟨rfl,.inr rfl⟩,f.kind,rfl,rfl⟩⟩) h;have e:=f.at_;have:=stepG_ret' (P:=P) (main:=true) (b:=jS) (a:=⟨jS.tmps,jS.defers⟩) (k:=k) (cs:=ys) (w:=w);rw[←e]at this;rw[←e];exact this
theorem j6.vH{f:FuncId}{fn:Func}{args:Array Operand}{C:Array TypeId}(H:ops[i]?=some o)(hw:Region.wanted o (yielded ops a.tmps)=true)(D:o.op=.call { callee:=.value (.func f),args,argTypes:=C })(n:args.all lg=true)(hma:args.all (fun c=>!kT (a.eval c))=true)(I:P.funcs[f]?=some fn)(r:(fn.name == "runtime.NumGoroutine")=false)(hb:fn.body=some c)(h:j6 P cs Q ((base f).at { tmps:=args.map a.eval++Array.replicate (fn.ntmps-(args.map a.eval).size) undef,defers:=[] } [.code c]) (b.at a (.inRegion ops (i::l)::k)::xs) wS):j6 P cs Q (b.at a (.inRegion ops (i::l)::k)) xs wS:=by
 refine j6.bind (Q:=fun fr x v=>fr=(base f).at { tmps:=args.map a.eval++Array.replicate (fn.ntmps-(args.map a.eval).size) undef,defers:=[] } [.code c]∧x=b.at a (.inRegion ops (i::l)::k)::xs∧v=wS) (fun Shun ρ gs w sl t q j=>?_) (by rintro _ _ _ ⟨rfl,rfl,rfl⟩;exact h);obtain⟨jS,ys,J,m,hx⟩:=j.main;have e:=m.at_;have E:yielded ops jS.tmps=yielded ops a.tmps:=(m.tmps.yielded ops).symm;have F:jS.kind≠.early:=by rw[m.kind.2];simp
 have L:jW ρ (args.map a.eval) (args.map (Act.mk jS.tmps jS.defers).eval):=by
  have:=m.args n (by rw[show(b.at a (.inRegion ops (i::l)::k)).eval=a.eval from fo b a _];exact hma);rw[show(b.at a (.inRegion ops (i::l)::k)).eval=a.eval from fo b a _]at this;have M:jS.eval=(Act.mk jS.tmps jS.defers).eval:=by
   have:=fo jS ⟨jS.tmps,jS.defers⟩ (.inRegion ops (i::l)::k);rw[←e]at this;exact this
  rw[M]at this;exact this
 obtain⟨N,gs',g',w',j0,t',q',r1,r2,O,R,T,rfl,d,rfl⟩:=tV (P:=P) (Shun:=Shun) (w:=w) (g:=G jS (ys++cs)) (Post:=fun g' w'=>g'=G ((base f).at { tmps:=args.map (Act.mk jS.tmps jS.defers).eval++Array.replicate (fn.ntmps-(args.map (Act.mk jS.tmps jS.defers).eval).size) undef,defers:=[] } [.code c]) (jS::(ys++cs))∧∃d,w'=w.at d) rfl (fun d=>by
  have z:=ft (P:=P) (main:=true) (b:=jS) (a:=⟨jS.tmps,jS.defers⟩) (k:=k) (cs:=ys++cs) (w:=w.at d) (rest:=l) (K:=fun g1 w1 A=>g1=G ((base f).at { tmps:=args.map (Act.mk jS.tmps jS.defers).eval++Array.replicate (fn.ntmps-(args.map (Act.mk jS.tmps jS.defers).eval).size) undef,defers:=[] } [.code c]) (jS::(ys++cs))∧w1=w.at d∧A=#[]) H (by rw[E];exact hw) F D I r hb ⟨by rw[←e],rfl,rfl⟩;rw[←e]at z
  cases B:stepG P true (G jS (ys++cs)) (w.at d)with
  |go g1 w1 A =>
   rw[B,fv]at z;obtain⟨rfl,rfl,rfl⟩:=z;exact⟨_,_,_,rfl,by simp,dx _,rfl,d,rfl⟩
  |_=>rw[B]at z;exact z.elim) gs sl t q J j.leave j.past
 refine⟨N,gs',w.at d,j0,t',q',Shun,ρ,(base f).at { tmps:=args.map a.eval++Array.replicate (fn.ntmps-(args.map a.eval).size) undef,defers:=[] } [.code c],b.at a (.inRegion ops (i::l)::k)::xs,wS,r1,jR.le_refl _,⟨⟨_,jS::ys,O,⟨rfl,?_,rfl,⟨rfl,rfl⟩,⟨rfl,.inl rfl⟩,⟨rfl,rfl⟩,rfl,rfl⟩,.cons (m.mB (jR.le_refl _) (kW.at _ _ _ d)) (hx.mB (jR.le_refl _) (kW.at _ _ _ d))⟩,⟨j.hr.obj,j.hr.inj,j.hr.base,j.hr.os,j.hr.sync⟩,R,T,⟨j.mD.cell,j.mD.obj,j.mD.low,j.mD.out⟩⟩,⟨rfl,rfl,rfl⟩,kW.at _ _ _ d⟩;refine mq.of ?_;have hsz:(args.map (Act.mk jS.tmps jS.defers).eval).size=(args.map a.eval).size:=by simp
 simp only[Frame.at,hsz];exact L.append (jW.replicate _ pS)
theorem j6.leave{todo:List Item}{fn:Func}{tr:Tmp}{c:Frame}{r:List Frame}(hd:a.defers=[])(I:P.funcs[b.fn]?=some fn)(m:fn.results=#[.tmp tr]){J:Frame}{ac:Act}{ops:Array Oper}{i:Nat}{l:List Nat}{k:List Item}(L:c=J.at ac (.inRegion ops (i::l)::k))(h:j6 P cs Q (c.finish (a.tmps.getD tr undef)) r wS):j6 P cs Q { b.at a todo with mode:=.returning } (c::r) wS:=by
 refine j6.bind (Q:=fun fr x v=>fr=c.finish (a.tmps.getD tr undef)∧x=r∧v=wS) (fun Shun ρ gs w sl t q j=>?_) (by rintro _ _ _ ⟨rfl,rfl,rfl⟩;exact h);obtain⟨jS,ys,M,f,hx⟩:=j.main
 cases hx with
 | @cons _ c' _ nB z A =>
  obtain⟨N,gs',g',w',j0,t',q',r1,r2,O,R,T,rfl,d,rfl⟩:=tV (P:=P) (Shun:=Shun) (w:=w) (g:=G jS (c'::nB++cs)) (Post:=fun g' w'=>g'=G (c'.finish (jS.tmps.getD tr undef)) (nB++cs)∧∃d,w'=w.at d) rfl (fun d=>by
   have e:jS={ jS.at ⟨jS.tmps,jS.defers⟩ todo with mode:=.returning }:=by
    obtain⟨U,B,V,n,C,D,W⟩:=jS;have E:=f.todo;have F:=f.mode.1;have H:=f.round.2;simp only[Frame.at]at E F H;subst E F H;rfl
   have:=stepG_leave (P:=P) (main:=true) (b:=jS) (a:=⟨jS.tmps,jS.defers⟩) (todo:=todo) (c:=c') (cs:=nB++cs) (w:=w.at d) f.kind.2 f.defers.2 (fn:=fn) (by rw[show jS.fn=b.fn from f.fn];exact I) (fw m _ P _) (fy m _ _);rw[←e]at this;exact⟨_,_,_,this,by simp,dx _,rfl,d,rfl⟩) gs sl t q M j.leave j.past
  subst L;exact⟨N,gs',w.at d,j0,t',q',Shun,ρ,_,_,_,r1,jR.le_refl _,⟨⟨_,nB,O,(z.mB (jR.le_refl _) (kW.at _ _ _ d)).BU ((f.tmps.getD tr).mB (jR.le_refl _) (kW.at _ _ _ d)),A.mB (jR.le_refl _) (kW.at _ _ _ d)⟩,⟨j.hr.obj,j.hr.inj,j.hr.base,j.hr.os,j.hr.sync⟩,R,T,⟨j.mD.cell,j.mD.obj,j.mD.low,j.mD.out⟩⟩,⟨rfl,rfl,rfl⟩,kW.at _ _ _ d⟩
end
end
def zh {α:Type} (o:Array (Nat×ByteArray)):Result α→Prop
 | .ok _ w=>w.output=o
 | .halt _ w=>w.output=o
variable {α:Type}
theorem Ib(a:Ask α):∀w:World,(w.ask a).2.output=w.output:=by
 induction a with
 |done a=>intro w;rfl
 |ask e range k f =>
  intro w;unfold World.ask;dsimp only;split
  ·exact f _ _
  ·exact(f _ _).trans rfl
theorem Ic(w:World)(c:Sys):(w.sys c).2.output=w.output:=by
 have:=Ib (Kernel.perform c w.os) w;unfold World.sys;split
 ·rfl
 ·rename_i h;rw[h]at this;exact this
variable {p:Program} {w w':World} {v:Value} {t:Bool} {l:List Addr}
theorem Ie{at_:Addr}{u:TypeId}{k:Addr}(h:w.viewStore p at_ u k v t=.ok (w',l)):w'.output=w.output:=by
 unfold World.viewStore at h;simp only[bind,Except.bind,pure,Except.pure,throw,throwThe,MonadExceptOf.throw]at h;split at h
 ·cases h
 ·split at h
  ·cases h
  ·split at h
   ·split at h
    ·cases h
    ·split at h
     ·cases h
     ·simp only[fz,eC]at h;rw[←h.1]
   ·cases h
theorem Ig{a:Addr}(h:w.farStore p a v t=.ok (w',l)):w'.output=w.output:=by
 unfold World.farStore at h;split at h
 ·split at h
  ·rename_i r hr;simp only[fz]at h;subst h;exact Ie hr
  ·cases h
 ·cases h
theorem Ih(w:World)(a:Addr)(n:Nat):(w.freeze a n).output=w.output:=by
 unfold World.freeze;split<;>rfl
theorem zi(p:Program)(s:Sem α):∀w:World,zh w.output (s.run p w):=by
 induction s with
 |pure a=>intro w;rfl
 |load m a k e =>
  intro w;simp only[Sem.run];split
  ·exact e _ w
  ·split
   ·exact e _ w
   ·rfl
 |store m a v k e =>
  intro w;have key:∀v,zh w.output (match w.cell? a with
    |some _=>if w.frozen? a then .halt (.unsupported (.unsafePointer "a write to bytes that a string shares")) w else k.run p (w.setCell a v)
    |none=>match w.farStore p a v (m == .atomic)with
     | .ok (w,_)=>k.run p w
     | .error h=>.halt h w):=fun v=>by
   split
   ·split
    ·rfl
    ·exact e (w.setCell a v)
   ·split
    ·rename_i h;have:=e ‹World›;rw[Ig h]at this;exact this
    ·rfl
  cases v<;>simp only[Sem.run]<;>first|exact key _|rfl
 |new o k e=>intro w;exact e _ _
 |shape r k e=>intro w;exact e _ w
 |freeze a n k e=>intro w;have:=e (w.freeze a n);rw[Ih]at this;exact this
 |frozen a k e=>intro w;exact e _ w
 |getObj r k e =>
  intro w;simp only[Sem.run];split
  ·rfl
  ·exact e _ w
  ·rfl
 |setObj r o k e =>
  intro w;simp only[Sem.run];split
  ·rfl
  ·exact e _
  ·rfl
 |choose q k e =>
  intro w;simp only[Sem.run];split
  ·exact e _ w
  ·exact e _ _
 |sys c k e=>intro w;have:=e (w.sys c).1 (w.sys c).2;rw[Ic]at this;exact this
 |program k e=>intro w;exact e _ w
 |mark m k e=>intro w;exact e w
 |halt h=>intro w;rfl
theorem xG(p:Program)(s:Sem α)(w:World)(es:Array Event):zh w.output (s.runT p w es).1:=by
 rw[dO];exact zi p s w
theorem mO{s:Sem α}{a:α}(h:s.run p w=.ok a w'):w'.output=w.output:=by have:=zi p s w;rw[h]at this;exact this
variable {a:Halt}
theorem tW{s:Sem α}(h:s.run p w=.halt a w'):w'.output=w.output:=by have:=zi p s w;rw[h]at this;exact this
variable {es lz:Array Event}
theorem tX{s:Sem α}{a:α}(h:s.runT p w es=(.ok a w',lz)):w'.output=w.output:=by have:=xG p s w es;rw[h]at this;exact this
theorem tY{s:Sem α}(h:s.runT p w es=(.halt a w',lz)):w'.output=w.output:=by have:=xG p s w es;rw[h]at this;exact this
theorem pE{s:Sem α}{a:α}(h:(s.runT p w es).1=.ok a w'):w'.output=w.output:=by have:=xG p s w es;rw[h]at this;exact this
theorem pT{s:Sem α}(h:(s.runT p w es).1=.halt a w'):w'.output=w.output:=by have:=xG p s w es;rw[h]at this;exact this
def ll (o:Array (Nat×ByteArray)):GStep→Prop
 | .go _ w _ | .comm _ _ _ _ w _ | .spawn _ _ w _ | .count _ w _ | .timer _ _ w _ | .alone _ _ w _ | .newcoro _ _ _ w _ | .coroswitch _ _ _ w _ | .collect _ w _ | .watch _ w _=>w.output=o
 | .ended _ _ _=>True
variable {o:Array (Nat×ByteArray)} {s:GStep}
theorem ll.after(h:ll o s)(es:Array Event):ll o (s.after es):=by cases s<;>exact h
theorem ll.eq{o':Array (Nat×ByteArray)}(h:ll o' s)(e:o'=o):ll o s:=e▸h
section
variable {p:Program}
theorem Ii(w:World)(fd:Nat)(x:ByteArray)(o:Outcome)(q:Array (Nat×ByteArray)):ll q (endWith w fd x o):=by
 unfold endWith;dsimp only;split
 ·split<;>trivial
 ·trivial
 ·trivial
theorem vI(fr:Frame)(m:String)(w:World):ll w.output (endThrow fr m w):=rfl
theorem BX(fr:Frame)(v:Value)(w:World):ll w.output (endPrinting p fr v w):=by
 unfold endPrinting;dsimp only;split
 ·rfl
 ·trivial
theorem BZ(fr:Frame)(cs:List Frame)(d:Option Dying)(m:String)(w:World):ll w.output (endFatal p fr cs d m w):=by
 unfold endFatal;dsimp only;split
 ·rename_i h;exact mO h
 ·trivial
 ·trivial
theorem Ij(fr:Frame)(d:Dying)(f:Fatal)(w:World):ll w.output (writeOn p fr d f w):=by
 unfold writeOn;dsimp only;split
 ·trivial
 ·split
  ·rename_i h;exact tX h
  ·rename_i h;exact tY h
  ·trivial
  ·trivial
theorem Ik(fr:Frame)(d:Dying)(w:World):ll w.output (die p fr d w):=by
 unfold die;split
 ·exact Ij _ _ _ _
 ·split
  ·split
   ·rfl
   ·exact Ii _ _ _ _ _
  ·dsimp only;split
   ·rfl
   ·split
    ·rename_i h;exact mO h
    ·trivial
   ·refine ll.after ?_ _;split
    ·rename_i h;exact pE h
    ·rename_i h;exact pE h
    ·trivial
    ·rename_i h;exact(BX _ _ _).eq (pT h)
    ·trivial
   ·trivial
theorem zk(mn:Bool)(fr:Frame)(cs:List Frame)(d:Option Dying)(v:Value)(w:World):ll w.output (doReturn p mn fr cs d v w):=by
 unfold doReturn;split
 ·split<;>first|rfl|trivial
 ·split
  ·rfl
  ·trivial
  ·split
   ·rfl
   ·split<;>first|rfl|trivial
theorem Il(fr:Frame)(cs:List Frame)(d:Option Dying)(f:Deferred)(w:World):ll w.output (callDeferred p fr cs d f w):=by
 unfold callDeferred;refine iteInduction (motive:=ll w.output) (fun _=>trivial) (fun _=>?_)
 ·dsimp only;refine ll.after ?_ _;split
  all_goals first
   |(first|rfl|trivial|exact pE (by assumption)|exact pT (by assumption)|exact mO (by assumption)|exact tW (by assumption)|exact tX (by assumption)|exact tY (by assumption))
   |(rename_i h;exact(BZ _ _ _ _ _).eq (pT h))
   |(rename_i h;exact(vI _ _ _).eq (pT h))
   |(split<;>(first|rfl|trivial|exact pE (by assumption)|exact pT (by assumption)|exact mO (by assumption)|exact tW (by assumption)|exact tX (by assumption)|exact tY (by assumption)))
theorem Im(mn:Bool)(fr:Frame)(cs:List Frame)(d:Option Dying)(w:World):ll w.output (unwind p mn fr cs d w):=by
 unfold unwind;split
 ·dsimp only;refine ll.after ?_ _;split<;>(first|rfl|trivial|exact pE (by assumption)|exact pT (by assumption)|exact mO (by assumption)|exact tW (by assumption)|exact tX (by assumption)|exact tY (by assumption))
 ·exact Il _ _ _ _ _
 ·split
  ·trivial
  ·split
   ·trivial
   ·split
    ·rfl
    ·split
     ·split
      ·rfl
      ·split<;>(first|rfl|trivial|exact pE (by assumption)|exact pT (by assumption)|exact mO (by assumption)|exact tW (by assumption)|exact tX (by assumption)|exact tY (by assumption))
     ·split
      ·exact BX _ _ _
      ·trivial
  ·split
   ·exact zk _ _ _ _ _ _
   ·dsimp only;refine ll.after ?_ _;split
    ·rename_i h;exact(zk _ _ _ _ _ _).eq (pE h)
    ·trivial
    ·trivial
theorem Io(fr:Frame)(cs:List Frame)(d:Option Dying)(g:Nat)(w:World):ll w.output (early p fr cs d g w):=by
 have key:∀w':World,w'.output=w.output→ll w.output (match w'.heap[g]? with
   |some (.pending c elem)=>.go { frame:=fr,callers:=cs,status:=.running,dying:=d } { w' with heap:=w'.heap.setIfInBounds g (.cells c elem) }
   |_=>.ended (.stuck "early: the variable does not wait" (fr.pos p)) w'):=fun w' e=>by
  split
  ·exact e
  ·trivial
 unfold early;dsimp only;split
 ·exact key w rfl
 ·split
  ·trivial
  ·split
   ·exact key w rfl
   ·split
    ·exact key w rfl
    ·split
     ·trivial
     ·rfl
     ·trivial
     ·exact key w rfl
     ·split
      ·rfl
      ·split
       ·exact key w rfl
       ·split
        ·rename_i h;exact key _ (mO h)
        ·rename_i h;exact mO h
        ·trivial
theorem xH(fr:Frame)(cs:List Frame)(d:Option Dying)(s:Sem Next)(w:World):ll w.output (stepG.apply p true fr cs d s w):=by
 unfold stepG.apply;simp only[dg];refine ll.after ?_ _;split
 all_goals first
  |(first|rfl|trivial|exact pE (by assumption)|exact pT (by assumption)|exact mO (by assumption)|exact tW (by assumption)|exact tX (by assumption)|exact tY (by assumption))
  |(rename_i h;exact(BZ _ _ _ _ _).eq (pT h))
  |(rename_i h;exact(vI _ _ _).eq (pT h))
  |(rename_i h;exact(Io _ _ _ _ _).eq (pT h))
  |(split<;>(first|rfl|trivial|exact pE (by assumption)|exact pT (by assumption)|exact mO (by assumption)|exact tW (by assumption)|exact tX (by assumption)|exact tY (by assumption)))
  |(refine iteInduction (motive:=ll w.output) (fun _=>?_) (fun _=>?_);(rename_i h _;exact(vI _ _ _).eq (pE h));(rename_i h _;exact pE h))
theorem Ip(fr:Frame)(cs:List Frame)(d:Option Dying)(w:World):ll w.output (stepG.oper p true fr cs d w):=by
 unfold stepG.oper;split
 ·trivial
 ·split<;>exact xH _ _ _ _ _
theorem Iq(mn:Bool)(fr:Frame)(cs:List Frame)(d:Option Dying)(w:World):ll w.output (stepG.exec p mn true fr cs d w):=by
 have e:∀(jump:Option Code)(c:Prop) [Decidable c],ll w.output (match fr.roundOf with
   |none=>if c then .go { frame:={ fr with mode:=.returning },callers:=cs,status:=.running,dying:=d } w else .ended (.stuck "exit, goto: no such block or label" (fr.pos p)) w
   |some l=>GStep.after (seen p fr.fn ((Instr.endRound l jump).runT p w #[]).2) (match((Instr.endRound l jump).runT p w #[]).1 with
    | .ok v w=>doReturn p mn fr cs d v w
    | .halt _ w=>.ended (.stuck "range over a function: no such loop" (fr.pos p)) w)):=fun jump c _=>by
  split
  ·refine iteInduction (motive:=ll w.output) (fun _=>rfl) (fun _=>trivial)
  ·refine ll.after ?_ _;split
   ·rename_i h;exact(zk _ _ _ _ _ _).eq (pE h)
   ·trivial
 have he:∀{β:Type}(o:Option β)(s:GStep)(f:β→GStep),ll w.output s→(∀x,ll w.output (f x))→ll w.output (o.elim s f):=fun o s f g j=>by
  cases o
  ·exact g
  ·exact j _
 unfold stepG.exec;dsimp only;split
 all_goals first
  |rfl
  |trivial
  |exact e _ _
  |exact xH _ _ _ _ _
  |exact he _ _ _ (e _ _) fun _=>rfl
  |exact he _ _ _ trivial fun _=>xH _ _ _ _ _
  |(split<;>first|rfl|trivial)
  |(refine ll.after ?_ _;split;(rename_i h;exact(xH _ _ _ _ _).eq (pE h));trivial)
  |(refine ll.after ?_ _;split;(rename_i h;exact pE h);(rename_i h;exact pT h);trivial)
  |(refine iteInduction (motive:=ll w.output) (fun _=>rfl) (fun _=>?_);split;(rename_i h;exact mO h);trivial)
  |(refine iteInduction (motive:=ll w.output) (fun _=>Ip _ _ _ _) (fun _=>rfl))
  |skip
theorem Ir(mn:Bool)(g:Goroutine)(w:World):ll w.output (stepG p mn g w):=by
 obtain⟨fr,cs,st,d,off⟩:=g;unfold stepG;dsimp only;split
 ·exact Ik _ _ _
 ·exact Iq _ _ _ _ _
 ·exact Im _ _ _ _ _
def rD (o:Array (Nat×ByteArray)):Stepped→Prop
 | .next m=>m.world.output=o
 | .ended _ _=>True
variable {o o':Array (Nat×ByteArray)}
theorem rD.eq{s:Stepped}(h:rD o' s)(e:o'=o):rD o s:=e▸h
variable {w w':World}
theorem Is{rest:Go.Rest}{cases:Array CommCase}(h:waitingAt rest cases w=some w'):w'.output=w.output:=by
 unfold waitingAt at h;split at h
 ·split at h
  ·cases h;rfl
  ·cases h
 ·cases h;rfl
theorem It(rest:Go.Rest)(gs:Array Goroutine)(i:Nat)(g:Goroutine)(cases:Array CommCase)(j:Bool)(shape:CommShape)(w:World):rD w.output (communicate p rest gs i g cases j shape w).1:=by
 unfold communicate;dsimp only;split
 ·trivial
 ·split
  ·split
   ·split
    ·rename_i h;exact Is h
    ·trivial
   ·rfl
  ·split
   ·trivial
   ·rename_i h;have e:=mO h;split
    ·split
     ·rename_i f;exact(tW f).trans e
     ·trivial
    ·exact e
    ·exact e
    ·split
     ·exact e
     ·split
      ·rename_i f;exact(mO f).trans e
      ·trivial
    ·exact e
    ·exact e
    ·trivial
theorem zl(gs:Array Goroutine)(rest:Go.Rest)(w:World):rD w.output (look p gs rest w):=by
 unfold look;split
 ·dsimp only;split
  ·trivial
  ·split
   ·trivial
   ·split
    ·rename_i h;have e:=mO h;exact e
    ·trivial
    ·trivial
 ·trivial
theorem Iu(m:Machine)(k:Nat):rD m.world.output (serve p m k):=by
 unfold serve;split
 ·trivial
 ·rfl
 ·dsimp only;split
  ·trivial
  ·rfl
theorem Iv(w:World)(c:Nat):(drain w c).2.output=w.output:=by
 unfold drain;split<;>rfl
theorem B1(m:Machine)(k:Nat)(t:Timer)(a b:Nat):(retime m k t a b).2.world.output=m.world.output:=by
 unfold retime;dsimp only;split
 ·exact Iv _ _
 ·rfl
theorem Iw{m f:Machine}{op:TimerOp}{v:Value}(h:timerOp m op=.ok (v,f)):f.world.output=m.world.output:=by
 cases op with
 |new t =>
  simp only[timerOp]at h;split at h
  ·cases h;rfl
  ·split at h
   ·split at h
    ·cases h
    ·cases h;rfl
   ·cases h
 |stop var =>
  simp only[timerOp,timerOp.named]at h;split at h
  ·simp only[fz]at h;have:=B1 m ‹Nat› (m.rest.timers.getD ‹Nat› default) 0 (m.rest.timers.getD ‹Nat› default).period;rw[h]at this;exact this
  ·cases h
 |reset var a b =>
  simp only[timerOp,timerOp.named]at h;split at h
  ·rename_i m2 e;have g:m2.world.output=m.world.output:=by
    unfold timerOp.opened at e;split at e
    ·split at e
     ·cases e;rfl
     ·cases e
    ·cases e;rfl
   split at h
   ·simp only[fz]at h;have:=B1 m2 ‹Nat› (m.rest.timers.getD ‹Nat› default) a b;rw[h]at this;exact this.trans g
   ·cases h
  ·cases h
 |deadline c r w x =>
  simp only[timerOp,fz,eC]at h;rw[←h.2];rfl
theorem Ix(m:Machine)(i:Nat):rD m.world.output (runT p m i).1:=by
 unfold runT;dsimp only;generalize m.gs.swapAt! i _=x;obtain⟨g,gs⟩:=x;dsimp only;have h:=Ir (p:=p) (i == 0) g m.world;generalize stepG p (i == 0) g m.world=s at h ⊢
 cases s with
 |go g w es=>exact h
 |comm g c b sh w es=>exact(It _ _ _ _ _ _ _ _).eq h
 |spawn g ch w es=>exact h
 |count g w es =>
  refine iteInduction (motive:=fun x=>rD m.world.output x) (fun _=>trivial) (fun _=>h)
 |timer g op w es =>
  dsimp only;split
  ·rename_i e;exact(Iw e).trans h
  ·split
   ·rename_i e;have:=vI g.frame ‹String› w;rw[e]at this;exact Eq.trans this h
   ·trivial
  ·trivial
  ·trivial
 |alone g on w es=>exact h
 |newcoro g c d w es=>exact h
 |coroswitch g c ex w es =>
  dsimp only;split
  ·exact h
  ·split
   ·rename_i e;have:=vI g.frame "coroswitch on exited coro" w;rw[e]at this;exact Eq.trans this h
   ·trivial
  ·trivial
 |collect g w es=>exact(zl _ _ _).eq h
 |watch g w es=>exact h
 |ended o w es=>trivial
def qo (o:Array (Nat×ByteArray)):Move→Prop
 | .goroutine m _=>m.world.output=o
 | .machine s _=>rD o s
theorem qo.eq{s:Move}(h:qo o' s)(e:o'=o):qo o s:=e▸h
theorem zm(m:Machine):qo m.world.output (askOn p m):=by
 have pk:∀(m:Machine)(rs:List Nat),qo m.world.output (match(choose (.sched rs.length)).run p m.world with
   | .halt _ w=>.machine (.ended (.stuck "sched" "") w)
   | .ok k world =>
    if rs.length≤1 then .goroutine { m with world } (rs.getD k 0) else
    match(choose (.extern "sched.slice" 65536)).run p world with
    | .halt _ w=>.machine (.ended (.stuck "sched.slice" "") w)
    | .ok n world=>.goroutine { m with world,rest:={ m.rest with slice:=if n=0 then none else some (rs.getD k 0,n) } } (rs.getD k 0)):=fun m rs=>by
  split
  ·trivial
  ·rename_i h;refine iteInduction (motive:=qo m.world.output) (fun _=>mO h) (fun _=>?_);split
   ·trivial
   ·rename_i f;exact(mO f).trans (mO h)
 unfold askOn;dsimp only;split
 ·trivial
 ·rename_i h;have e:=mO h;refine iteInduction (motive:=qo m.world.output) (fun _=>(Iu _ _).eq e) (fun _=>?_);split
  ·split
   ·exact e
   ·refine iteInduction (motive:=qo m.world.output) (fun _=>e) (fun _=>?_);split
    ·trivial
    ·trivial
  ·split
   ·exact(pk { m with world:=_ } _).eq e
   ·split
    ·trivial
    ·rename_i f;exact(pk { m with world:=_ } _).eq ((mO f).trans e)
    ·rename_i f;exact(mO f).trans e
    ·rename_i f;exact(pk (Machine.advanceTo { m with world:=_ } _) _).eq ((mO f).trans e)
theorem Iy(m:Machine):qo m.world.output (move p m):=by
 have e:∀m:Machine,qo m.world.output (ask p m):=fun m=>by
  unfold ask;split
  ·split
   ·trivial
   ·rename_i h;split
    ·rename_i f;have:=zl (p:=p) m.gs m.rest ‹World›;rw[f]at this;exact(zm _).eq (Eq.trans this (mO h))
    ·exact(zl _ _ _).eq (mO h)
   ·rename_i h;exact(zm _).eq (mO h)
  ·exact zm m
 unfold move;split
 ·refine iteInduction (motive:=qo m.world.output) (fun _=>rfl) (fun _=>trivial)
 ·split
  ·refine iteInduction (motive:=qo m.world.output) (fun _=>rfl) (fun _=>e { m with rest:=_ })
  ·exact e m
theorem Iz(m:Machine):rD m.world.output (stepT p m).1:=by
 have h:=Iy (p:=p) m;unfold stepT;split
 ·rename_i e;rw[e]at h;exact(Ix _ _).eq h
 ·rename_i e;rw[e]at h;exact h
theorem B2:∀(n:Nat)(m e:Machine)(t t':Trace),runNT p n m t=(.next e,t')→e.world.output=m.world.output
 |0,m,e,t,t',h=>by simp only[runNT,eC,eE]at h;rw[h.1]
 |n+1,m,e,t,t',h=>by
  have g:=Iz (p:=p) m;simp only[runNT]at h;split at h
  ·rename_i q ops j;rw[j]at g;exact(B2 n q e _ _ h).trans g
  ·rename_i f j;simp only[eC]at h;exact(f _ h.1).elim
theorem IA{n:Nat}{gs gs':Array Goroutine}{sl j0:Option (Nat×Nat)}{t t':Trace}(h:runNT p n (Go.Conc.crowd gs w sl) t=(.next (Go.Conc.crowd gs' w' j0),t')):w'.output=w.output:=B2 n _ _ _ _ h
end
section
open Go.Conc
variable [Scope]
section
variable {P:Program}
def zn (f:FuncId) (tr:Tmp) (v:Value) (zo:World→Prop) (fr:Frame) (xs:List Frame) (w:World):Prop :=
 xs=[]∧fr.fn=f∧fr.mode=.returning∧fr.tmps.getD tr undef=v∧zo w
theorem IB{ρ:jR}{f:FuncId}{fn:Func}{tr:Tmp}{v:Value}{g:World→Prop}(A:P.funcs[f]?=some fn)(e:fn.results=#[.tmp tr])(m:P.inits.idxOf? f=none)(I:∀ρ v',VR ρ v v'→v'=v){fr jS:Frame}{xs:List Frame}{wS:World}(B:zn f tr v g fr xs wS){S:Loc→Prop}{u:World}(n:kR S ρ u fr jS)(C:kT v=false)(w:World):stepG P true (G jS []) w=.ended (.done v) w #[]:=by
 obtain⟨rfl,rfl,hm,J,_⟩:=B;have q:jS.mode=.returning:=n.mode.1.trans hm;have D:jS.defers=[]:=n.defers.2;have E:jS.kind=.normal:=n.kind.2;have r:jS.fn=fr.fn:=n.fn;have F:P.funcs[jS.fn]?=some fn:=by rw[r];exact A
 have H:P.inits.idxOf? jS.fn=none:=by rw[r];exact m
 have z:jS.tmps.getD tr undef=v:=by
  have:=n.tmps.getD tr;rw[J]at this;exact I ρ _ (this.vr C)
 have hr:(results fn jS.tmps).run P w=.ok v w:=by rw[fw e _ P w,z]
 have he:(results fn jS.tmps).events P w #[]=#[]:=fy e _ _;have j:seen P jS.fn #[]=#[]:=by
  apply fA;rcases eT (seen P jS.fn #[]).size with h|h
  ·exact h
  ·have L:=rB (P:=P) (Array.getElem_mem h);simp at L
 unfold G stepG;simp only[q];unfold unwind;simp only[D,q,F,dO,hr,he];simp[doReturn,E,H,GStep.after,j]
theorem kR.enter{S:Loc→Prop}{u:World}{ρ:jR}{f:FuncId}{args lF:Array Value}(e:mq S ρ u args lF):kR S ρ u (Frame.enter P f args .normal) (Frame.enter P f lF .normal):=by
 refine⟨rfl,?_,rfl,⟨rfl,rfl⟩,⟨rfl,.inl rfl⟩,⟨rfl,rfl⟩,rfl,rfl⟩;unfold Frame.enter;simp only[←e.size];exact e.append (jW.replicate _ pS)
theorem IC{f:FuncId}{fn:Func}{tr:Tmp}{v:Value}{g:World→Prop}{Post:Value→World→Prop}(I:P.funcs[f]?=some fn)(C:fn.results=#[.tmp tr])(E:P.inits.idxOf? f=none)(hv:∀ρ v',VR ρ v v'→v'=v)(J:kT v=false){args lF:Array Value}{z w:World}{j:jR}(hh:HR j z w)(ha:mq (fun _=>False) j w args lF)(hg:j6 P [] (zn f tr v g) (Frame.enter P f args .normal) [] z)(A:∀ρ' m w',j.le ρ'→HR ρ' m w'→g m→(∀B,B<w.heap.size→RO j B→w'.heap[B]?=w.heap[B]?)→w'.os=w.os→w'.output=w.output→Post v w'):∃N last o w' t',runNT P (N+1) (solo (G (Frame.enter P f lF .normal) []) w) #[]=(.ended o w',t')∧runN P N (solo (G (Frame.enter P f lF .normal) []) w)=.next last∧step P last=.ended o w'∧Good P Post last o w' t':=by
 have q:oO P (fun _=>False) j [] (Frame.enter P f args .normal) [] z #[G (Frame.enter P f lF .normal) []] w #[] (fun _=>0) :=
  ⟨⟨_,[],rfl,kR.enter ha,.nil⟩,hh,leavers_one P _,past_nil.mono (eI _),⟨fun _ _ _ _ _ h=>h,fun _ _ _ h=>h,fun _ h=>h.elim,fun h=>h⟩⟩
 obtain⟨N,gs',w',j0,t',q',sO,ρ',jS,nA,m,L,hle,r,M,Y⟩:=hg _ _ _ _ none _ _ q;obtain⟨O,ys,R,T,U⟩:=r.main;have F:w'.output=w.output:=IA L;have V:nA=[]:=M.1;subst V
 cases U
 have H:Goes P true AtRel (fun _ _ es=>∀e∈es,EvL sO w'.heap.size e) (Go.Conc.AtEnd P sO w'.heap.size Post) 0 (G O []) w':=by
  intro w1 W;obtain⟨d,rfl⟩:=W;exact⟨rfl,v,#[],IB I C E hv M T J _,by simp,A ρ' m _ hle ⟨r.hr.obj,r.hr.inj,r.hr.base,r.hr.os,r.hr.sync⟩ M.2.2.2.2 (fun B hB X=>(Y.block B hB X ⟨fun _ _ h=>h,fun h=>h⟩).1) Y.os F⟩
 obtain⟨N2,last,o,w2,t2,k1,k2,k3,k4⟩:=beside_ends (D:=fun _ _ es=>∀e∈es,EvL sO w'.heap.size e) (fun _ _ _ h=>h) (sl:=j0) R r.leave r.past (n:=0) H;have Z:solo (G (Frame.enter P f lF .normal) []) w=crowd #[G (Frame.enter P f lF .normal) []] w none:=rfl;refine⟨N+N2,last,o,w2,t2,?_,?_,k3,k4⟩
 ·rw[Z,dK,eL,L];exact k1
 ·have X:runN P N (crowd #[G (Frame.enter P f lF .normal) []] w none)=.next (crowd gs' w' j0):=by rw[←runNT_fst _ _ _ #[],L]
  rw[Z,runN_add,X];exact k2
end
end
def pn (i:TypeInfo):Bool :=
 (match i.zero with|some z=>clear 8 z&&z.cells.all (clear 7)|none=>true)&&decide (i.align ∣ i.bytes)
variable {i:TypeInfo}
theorem tZ:pn i=true↔(∀z,i.zero=some z→clear 8 z=true∧z.cells.all (clear 7)=true)∧i.align ∣ i.bytes:=by
 unfold pn
 cases i.zero<;>simp
theorem ID{β:Type}(I:β→Prop)(body:α→β→Option (ForInStep β))(hb:∀a b s,I b→body a b=some s→I s.value):∀(l:List α)(b r:β),I b→forIn l b body=some r→I r:=by
 intro l
 induction l with
 |nil=>intro b r hI h;simp at h;exact h▸hI
 |cons a l g =>
  intro b r hI h;rw[List.forIn_cons]at h
  cases f:body a b with
  |none=>rw[f]at h;simp at h
  |some s =>
   have e:=hb a b s hI f;rw[f]at h
   cases s with
   |done b'=>simp at h;exact h▸e
   |yield b'=>exact g b' r e (by simpa using h)
theorem IE(n a:Nat)(h:1≤a):a ∣ Made.roundUp n a:=by
 unfold Made.roundUp;rw[dk (by omega)];exact Nat.dvd_mul_left _ _
variable {xs:Array Value}
theorem zp(h:xs.all (clear 7)=true):clear 8 (.agg xs)=true:=by simpa only[clear]using h
variable {info:TypeId→Option TypeInfo}
theorem IF(L:∀t i,info t=some i→pn i=true){B:Array Field}(h:Made.reckonStruct info B=some i):pn i=true:=by
 unfold Made.reckonStruct at h;simp only[dV,←ej]at h;obtain⟨r,hr,h⟩:=fB.1 h;have hI:=ID (fun b:Array Field×Nat×Nat×Nat×Nat×Bool×Bool×Option (Array Value)×String=>1≤b.2.2.2.1∧∀m,b.2.2.2.2.2.2.2.1=some m→m.all (clear 7)=true) _ (fun f b s hI g=>?_) _ _ _ ⟨dx _,fun m j=>by cases j;simp⟩ hr
 ·obtain⟨M,rc,rs,q,rl,N,O,R,T⟩:=r;simp only at hI h;have fin:∀sz,(pure (f:=Option) ({ desc:=.struct M,str:=T++(if B.isEmpty then "" else " ")++ "}",size:=rc,bytes:=Made.roundUp sz q,hasPointers:=N,align:=q,fieldAlign:=q,zero:=R.map .agg,comparable:=O,methods:=#[] }:TypeInfo))=some i→pn i=true:=by
   intro sz e
   cases e
   refine tZ.2 ⟨fun z j=>?_,IE _ _ hI.1⟩;obtain⟨m,C,rfl⟩:=eg.1 j;exact⟨zp (hI.2 m C),hI.2 m C⟩
  split at h
  ·exact fin _ h
  ·exact fin _ h
 ·obtain⟨Z,bc,bs,U,bl,bp,bq,V,br⟩:=b;obtain⟨i,W,g⟩:=fB.1 g;have A:=(tZ.1 (L _ _ W)).1;simp only at hI g ⊢;have fin:∀(D:Array Field)(E F G:Nat)(H I:Bool)(J:String)(n:Nat),s=ForInStep.yield (D,E,F,max U i.align,G,H,I,(if n > Made.mostCells then none else V.bind fun a=>i.zero.bind fun c=>pure (a++c.cells)),J)→1≤s.value.2.2.2.1∧∀m,s.value.2.2.2.2.2.2.2.1=some m→m.all (clear 7)=true:=by
   rintro D E F G H I J n rfl;refine⟨dz hI.1 (Nat.le_max_left _ _),fun m j=>?_⟩;simp only[ForInStep.value]at j;split at j
   ·cases j
   ·obtain⟨a,X,j⟩:=fB.1 j;obtain⟨c,Y,j⟩:=fB.1 j
    cases j
    rw[Array.all_append,hI.2 a X,(A c Y).2];rfl
  split at g
  ·simp at g
  ·split at g
   ·simp at g
   ·split at g
    ·simp only[Option.pure_def,dW]at g;split at g<;>exact fin _ _ _ _ _ _ _ _ (eX g).symm
    ·obtain⟨tag,_,g⟩:=fB.1 g;split at g<;>exact fin _ _ _ _ _ _ _ _ (eX g).symm
variable {d:TypeDesc}
theorem uZ{st:String}{z:Value}{c:Bool}{n:Nat}(g:clear 7 z=true)(f:clear 8 z=true)(h:8 ∣ n)(j:z.cells=#[z]):pn (Made.word d st z c n)=true :=
 tZ.2 ⟨fun m e=>by cases e;exact⟨f,by rw[j];simpa using g⟩,h⟩
theorem IG(A:∀t i,info t=some i→pn i=true)(h:Made.reckon info d=some i):pn i=true:=by
 unfold Made.reckon at h
 cases d with
 |pointer e =>
  simp only[dV]at h;obtain⟨j,g,h⟩:=fB.1 h;split at h
  ·cases h
  ·split at h
   ·cases h
   ·obtain⟨_,_,h⟩:=fB.1 h;cases h;exact uZ rfl rfl ⟨1,rfl⟩ rfl
  ·obtain⟨_,_,h⟩:=fB.1 h;cases h;exact uZ rfl rfl ⟨1,rfl⟩ rfl
 |slice e =>
  simp only[dV]at h;obtain⟨j,g,h⟩:=fB.1 h;obtain⟨_,_,h⟩:=fB.1 h;cases h;exact uZ rfl rfl ⟨3,rfl⟩ rfl
 |map k e =>
  simp only[dV]at h;obtain⟨j,g,h⟩:=fB.1 h;obtain⟨_,_,h⟩:=fB.1 h;obtain⟨_,_,h⟩:=fB.1 h;obtain⟨_,_,h⟩:=fB.1 h;cases h;exact uZ rfl rfl ⟨1,rfl⟩ rfl
 |chan dir e =>
  simp only[dV]at h;obtain⟨j,g,h⟩:=fB.1 h;obtain⟨_,_,h⟩:=fB.1 h;cases h;exact uZ rfl rfl ⟨1,rfl⟩ rfl
 |func ps rs v =>
  simp only[dV]at h;obtain⟨j,g,h⟩:=fB.1 h;cases h;exact uZ rfl rfl ⟨1,rfl⟩ rfl
 |array n e =>
  simp only[dV]at h;obtain⟨j,g,h⟩:=fB.1 h;obtain⟨_,_,h⟩:=fB.1 h
  cases h
  have q:=tZ.1 (A _ _ g);refine tZ.2 ⟨fun z m=>?_,Nat.dvd_trans q.2 (Nat.dvd_mul_left _ _)⟩;simp only at m;split at m
  ·cases m
  ·split at m
   ·cases m;exact⟨zp (by simp),by simp[Value.cells]⟩
   ·obtain⟨y,C,rfl⟩:=eg.1 m;have B:=(q.1 y C).2;have f:(Array.replicate n y.cells).flatten.all (clear 7)=true:=by
     rw[dv]at B ⊢;intro x hx;obtain⟨xs,r,hx⟩:=Array.mem_flatten.1 hx;rw[Array.mem_replicate]at r;rw[r.2]at hx;exact B x hx
    exact⟨zp f,f⟩
 |struct D=>exact IF A h
 |_=>cases h
theorem IH(T:Tables)(e:∀i∈T.types,pn i=true):∀(f:Nat)(t:TypeId)(i:TypeInfo),Made.infoAt T f t=some i→pn i=true:=by
 intro f
 induction f with
 |zero=>intro t i h;cases h
 |succ f g =>
  intro t i h;simp only[Made.infoAt]at h;split at h
  ·exact e i (dw h)
  ·obtain⟨d,_,h⟩:=fB.1 h;exact IG g h
theorem B3(P:Program)(f:P.types.all pn=true)(t:TypeId)(i:TypeInfo)(h:P.info? t=some i):pn i=true:=by
 have e:∀i∈P.types,pn i=true:=dv.1 f;unfold Tables.info? at h;split at h
 ·exact e i (dw h)
 ·exact IH _ e _ t i h
theorem B4[Scope](P:Program)(g:P.types.all pn=true)(hb:P.globals.size≤Scope.base)(m:∀t,Scope.cells t=P.cellsOf t)(j:((P.info? 0).map fun i=>(i.methods.find? (·.name == "")).isNone)=some true)(f:∀t d e,P.underlying t=some (.chan d e)→Scope.chans t=true):ki P :=
 ⟨fun t i z h n=>((tZ.1 (B3 P g t i h)).1 z n).1,hb,m,fun t i h=>(tZ.1 (B3 P g t i h)).2,f,fun i q=>by rw[q]at j;simpa using j⟩
def jX [Scope] (P:Program) (f:FuncId):Bool :=
 match P.funcs[f]? with
 |some fn=>!(fn.name == "runtime.NumGoroutine")&&(match fn.body with|some c=>pC P c|none=>false)
 |none=>false
theorem B5[Scope](P:Program)(l:List FuncId)(m:∀f,Scope.ok f=true→f∈l)(h:l.all (jX P)=true):lu P:=by
 have g:=ek.1 h;refine { body:=fun f j=>?_,code:=fun f fn c j e hb=>?_ }
 ·have:=g f (m f j);unfold jX at this
  cases e:P.funcs[f]? with
  |none=>rw[e]at this;cases this
  |some fn =>
   rw[e]at this;simp only[eh,Bool.not_eq_true']at this;refine⟨fn,rfl,this.1,?_⟩
   cases hb:fn.body with
   |none=>rw[hb]at this;cases this.2
   |some c=>rfl
 ·have:=g f (m f j);unfold jX at this;rw[e]at this;simp only[hb,eh]at this;exact this.2
def nU (ρ:jR):Prop:=∀b p,ρ b=some p→p=⟨b,none⟩∨∃ty,p=⟨b,some ⟨0,0,ty⟩⟩
theorem nU.block{ρ:jR}(h:nU ρ){b:Nat}{p:Place}(e:ρ b=some p):p.block=b:=by
 rcases h b p e with rfl|⟨_,rfl⟩<;>rfl
variable {ys:Array Value}
theorem ox(h:xs.size=ys.size){i:Nat}(e:xs[i]?=some v):∃v',ys[i]?=some v':=by
 have:=(dp.1 e).1;exact⟨_,dq (by omega)⟩
theorem sQ(g:xs.size=ys.size)(h:∀(i:Nat) v v',xs[i]?=some v→ys[i]?=some v'→v'=v):ys=xs:=by
 apply dJ;intro i;rcases fC i xs.size with f|f
 ·have e:i<ys.size:=by omega
  rw[dq f,dq e,h i _ _ (dq f) (dq e)]
 ·rw[fD f,fD (by omega)]
section
variable [Scope]
open Classical in
noncomputable def nV (S:Nat→Prop):jR:=fun b=>if S b then some ⟨b,none⟩ else none
theorem xI{S:Nat→Prop}{b:Nat}(h:S b):nV S b=some ⟨b,none⟩:=by unfold nV;rw[dj h]
theorem B6{S:Nat→Prop}{b:Nat}{p:Place}(h:nV S b=some p):S b∧p=⟨b,none⟩:=by
 unfold nV at h;split at h
 ·rename_i e;cases h;exact⟨e,rfl⟩
 ·cases h
theorem nU.addr{ρ:jR}(h:nU ρ){a a':Addr}(k:AR ρ a a'):a'=a:=by
 obtain⟨_,p,hp,e,f,g⟩:=k;obtain⟨b',o',s'⟩:=a';obtain⟨b,o,s⟩:=a;rcases h _ _ hp with rfl|⟨ty,rfl⟩
 ·simp only[Place.shift]at e f g;simp[e,f,g]
 ·simp only[Place.shift]at e f g;simp[e,f,g]
def sure:Value→Bool
 | .bool _ | .int .. | .string _ | .pointer _ | .slice none _ _ | .nilFunc | .nilIface=>true
 | .slice (some _) l c=>!(l == 0&&c == 0)
 | .tuple xs=>xs.size == 0
 |_=>false
theorem zq{ρ:jR}(g:nU ρ){v v':Value}(e:sure v=true)(h:VR ρ v v'):v'=v:=by
 cases h with
 |bool b=>rfl
 |int k n=>rfl
 |string s=>rfl
 |oL=>rfl
 |ptr f=>rw[g.addr f]
 |lW l c=>rfl
 |slice l c f=>rw[g.addr f]
 |nilFunc=>rfl
 |nilIface=>rfl
 | @tuple xs ys j m =>
  have:xs.size=0:=by simpa[sure]using e
  obtain rfl:xs=#[]:=fA this;obtain rfl:ys=#[]:=fA (by rw[←j];rfl);rfl
 |mN _ _=>simp[sure]at e
 |hole _ _=>simp[sure]at e
 |oM _=>simp[sure]at e
 |_=>simp[sure]at e
theorem HR.B7{ρ:jR}{w w':World}(h:HR ρ w w')(f:nU ρ){a:Addr}{p:Place}(hp:ρ a.block=some p){v:Value}(g:sure v=true)(hb:Scope.base≤a.block)(e:w.cell? a=some v):w'.cell? a=some v:=by
 have j:AR ρ a a:=⟨hb,p,hp,(f.block hp).symm,by
  rcases f _ _ hp with rfl|⟨ty,rfl⟩<;>simp[Place.shift],rfl⟩
 obtain⟨v',m,n,_⟩:=h.cell j e;rw[m,zq f g n]
end
section
variable {SW SM:Scope}
theorem vJ{B ρ:jR}(g:SW.sync=false)(C:nU ρ)(D:∀y pl,B y=some pl→ρ pl.block=some ⟨pl.block,none⟩){v v' m:Value}(h:@VR SW B v v'):@VR SM ρ v' m→m=v':=by
 induction h generalizing m with
 |bool b=>intro k;cases k;rfl
 |int k n=>intro k;cases k;rfl
 |string s=>intro k;cases k;rfl
 |oL=>intro k;cases k;rfl
 |ptr E=>intro k;cases k with|ptr hb=>rw[@nU.addr SM _ C _ _ hb]
 |lW l c=>intro k;cases k;rfl
 |slice l c E =>
  intro k
  cases k with
  |slice _ _ hb=>rw[@nU.addr SM _ C _ _ hb]
  |mN _ z =>
   obtain⟨b,x,z⟩:=z;obtain⟨_,p,hp,e,_⟩:=E;rw[e,D _ _ hp]at z
   cases z
 |qk=>intro k;cases k;rfl
 |map hr=>intro k;cases k with|map hb=>rw[D _ _ hr]at hb;cases hb;rfl
 |qG=>intro k;cases k;rfl
 |func J q _ F _ f A =>
  intro k
  cases k with
  |func _ g2 r G H =>
   rw[sQ g2 fun i v v' a b=>by
    obtain⟨x,hx⟩:=ox q.symm a;exact f i x v hx a (r i v v' a b),sQ G fun i v v' a b=>by
    obtain⟨x,hx⟩:=ox F.symm a;exact A i x v hx a (H i v v' a b)]
 |nilFunc=>intro k;cases k;rfl
 |iface _ I=>intro k;cases k with|iface hb=>rw[I hb]
 |nilIface=>intro k;cases k;rfl
 |agg q _ f =>
  intro k
  cases k with
  |agg g2 r =>
   rw[sQ g2 fun i v v' a b=>by
    obtain⟨x,hx⟩:=ox q.symm a;exact f i x v hx a (r i v v' a b)]
 |tuple q _ f =>
  intro k
  cases k with
  |tuple g2 r =>
   rw[sQ g2 fun i v v' a b=>by
    obtain⟨x,hx⟩:=ox q.symm a;exact f i x v hx a (r i v v' a b)]
 |mN j _=>rw[g]at j;cases j
 |hole j _=>rw[g]at j;cases j
 |oM j=>rw[g]at j;cases j
theorem II{E ρ:jR}(f:SW.sync=false)(q:nU ρ)(B:∀y pl,E y=some pl→ρ pl.block=some ⟨pl.block,none⟩){o o' j:Obj}(h:@OR SW E o o')(k:@OR SM ρ o' j):j=o':=by
 cases h with
 | @cells c C e fr F =>
  cases k with
  |cells r =>
   rw[sQ (@jW.size SM _ _ _ r) fun i v v' a b=>by
    obtain⟨x,hx⟩:=ox (@jW.size SW _ _ _ F).symm a;exact vJ f q B (@jW.get SW _ _ _ F i x v hx a) (@jW.get SM _ _ _ r i v v' a b)]
 | @map es ES clk I r =>
  cases k with
  | @map _ g _ G D =>
   have:g=ES:=by
    apply dJ;intro i;rcases fC i ES.size with m|m
    ·have n:i<g.size:=by omega
     obtain⟨a,b,c⟩:=D i _ _ (dq m) (dq n);obtain⟨H,b0,_⟩:=r i _ _ (dq (show i<es.size by omega)) (dq m);rw[dq m,dq n];have z:=vJ f q B H a;have A:=vJ f q B b0 b;generalize ES[i]=x at z A c;generalize g[i]=y at z A c;obtain⟨k1,v1,b1⟩:=x;obtain⟨k2,v2,b2⟩:=y;simp only at z A c;rw[z,A,c]
    ·rw[fD m,fD (by omega)]
   rw[this]
 |number J=>cases k with|number hb=>rw[@nU.addr SM _ q _ _ hb]
end
open Classical in
noncomputable def patch (S:Nat→Prop) (u w:World):World:={ w with heap:=(Array.range w.heap.size).map fun i=>if S i then(u.heap[i]?).getD default else(w.heap[i]?).getD default }
theorem B8(S:Nat→Prop)(u w:World):(patch S u w).heap.size=w.heap.size:=by simp[patch]
variable {S:Nat→Prop} {u:World} {b:Nat}
theorem IJ(h:S b)(hb:b<w.heap.size)(hu:b<u.heap.size):(patch S u w).heap[b]?=u.heap[b]?:=by
 simp[patch,hb,h,hu]
theorem IK(h:¬S b):(patch S u w).heap[b]?=w.heap[b]?:=by
 by_cases hb:b<w.heap.size
 ·simp[patch,hb,h]
 ·simp[patch,hb]
end Go.Proofs.YtjnkcibpkkjniaaGreat.j7
namespace Go.Proofs.YtjnkcibpkkjniaaGreat.kj
section
open Go.Conc Go.ConcN
structure PT (Sh Shun:Loc→Prop) (Own Rd:Nat→Loc→Prop) (K:Nat→Prop) (c:Nat) (t:Trace):Prop where
 sh:∀i a,touchAt t i=some a→Sh a.loc→a.kind≠.plain∧(a.kind=.said→Knows t c i)
 own:∀k,K k→∀l,l.isMemory=true→Own k l→Perm t k l
 rd:∀k,K k→∀l,l.isMemory=true→Rd k l→PermW t k l
 free:∀l,l.isMemory=true→¬Sh l→¬Shun l→(∀k,K k→¬Own k l∧¬Rd k l)→Perm t 0 l
 mine:∀l,l.isMemory=true→¬Sh l→¬Shun l→(∀k,K k→¬Own k l)→PermW t 0 l
 nr:∀said,¬Race said t
 over:∀i g,t.g? i=some g→g≠0→t.counts i→K g∨∃j,t.g? j=some 0∧HappensBefore t i j
 old:∀(i:Nat) op x,t[i]?=some op→op.g≠0→¬K op.g→op.act.touch? = some x→x.loc.isMemory=true→Knows t 0 i∨(Shun x.loc∧x.kind=.atomic)
structure Apart (Sh Shun:Loc→Prop) (Own Rd:Nat→Loc→Prop) (K:Nat→Prop):Prop where
 own:∀k k' l,K k→K k'→Own k l→Own k' l→k=k'
 ownRd:∀k k' l,K k→K k'→Own k l→¬Rd k' l
 ownSh:∀k l,K k→Own k l→¬Sh l∧¬Shun l
 rdSh:∀k l,K k→Rd k l→¬Sh l∧¬Shun l
 zero:¬K 0
 xJ:∀l,Sh l→l.isMemory=true
section
variable (Sh Shun:Loc→Prop) (Own Rd:Nat→Loc→Prop) (K:Nat→Prop) (c:Nat)
def Ok0 (op:MemOp):Prop :=
 op.g=0∧∀x,op.act.touch? = some x→x.loc.isMemory=true→(Sh x.loc∧x.kind≠.plain∧(x.kind=.said→c=0)) ∨
  (¬Sh x.loc∧¬Shun x.loc∧(∀k,K k→¬Own k x.loc)∧(x.write=true→∀k,K k→¬Rd k x.loc))
def IL (k:Nat) (op:MemOp):Prop :=
 op.g=k∧∀x,op.act.touch? = some x→x.loc.isMemory=true→(Sh x.loc∧x.kind≠.plain∧(x.kind=.said→c=k))∨Own k x.loc∨(Rd k x.loc∧x.write=false)
end
section
variable {Sh Shun:Loc→Prop} {Own Rd:Nat→Loc→Prop} {K:Nat→Prop} {c:Nat} {t u:Trace}
theorem xK(h:∀i g,t.g? i=some g→g≠0→t.counts i→K g∨∃j,t.g? j=some 0∧HappensBefore t i j)(hu:∀op∈u,op.g=0∨K op.g∨op.act.touch? = none):∀i g,(t++u).g? i=some g→g≠0→(t++u).counts i→K g∨∃j,(t++u).g? j=some 0∧HappensBefore (t++u) i j:=by
 intro i g C e F;obtain⟨x,hx,hm⟩:=F;obtain⟨op,f,m⟩:=fE hx;rcases fF f with⟨D,E⟩|⟨_,n⟩
 ·rcases h i g (by simpa[Trace.g?,getElem?_append_old D]using C) e ((counts_old D).1 ⟨x,hx,hm⟩)with G|⟨j,A,hb⟩
  ·exact .inl G
  ·have B:j<t.size:=by
    unfold Trace.g? at A;obtain⟨z,H,_⟩:=eg.1 A;exact fG H
   exact .inr ⟨j,by simpa[Trace.g?,getElem?_append_old B]using A,hb_app u hb⟩
 ·have q:op.g=g:=by simpa[Trace.g?,f]using C
  rcases hu op n with r|r|r
  ·exact absurd (q.symm.trans r) e
  ·exact .inl (q▸r)
  ·rw[r]at m;cases m
theorem PT.app0(A:Apart Sh Shun Own Rd K)(h:PT Sh Shun Own Rd K c t)(hu:∀op∈u,Ok0 Sh Shun Own Rd K c op):PT Sh Shun Own Rd K c (t++u):=by
 refine⟨fun i a r g=>?_,fun k j l hm m=>(h.own k j l hm m).app fun op f b hb e=>?_,fun k j l hm m=>(h.rd k j l hm m).app fun op f b hb e hw=>?_,
  fun l hm g hS m=>(h.free l hm g hS m).app fun op f _ _ _=>(hu op f).1,fun l hm g hS m=>(h.mine l hm g hS m).app fun op f _ _ _ _=>(hu op f).1,fun said=>?_,?_,fun i op x N O j hx hm=>?_⟩
 ·obtain⟨x,hx,z⟩:=fE r;rcases fF hx with⟨N,F⟩|⟨_,B⟩
  ·have:=h.sh i a (by rw[touchAt_of F];exact z) g;exact⟨this.1,fun e=>(this.2 e).app u⟩
  ·rcases(hu x B).2 a z (A.xJ _ g)with⟨_,C,G⟩|⟨C,_⟩
   ·refine⟨C,fun e=>?_⟩;have:=knows_own hx;rw[(hu x B).1]at this;rw[G e];exact this
   ·exact absurd g C
 ·rcases(hu op f).2 b hb (e▸hm)with⟨g,_⟩|⟨_,_,H,_⟩
  ·exact absurd (e▸g) (A.ownSh k l j m).1
  ·exact absurd (e▸m) (H k j)
 ·rcases(hu op f).2 b hb (e▸hm)with⟨g,_⟩|⟨_,_,_,H⟩
  ·exact absurd (e▸g) (A.rdSh k l j m).1
  ·exact absurd (e▸m) (H hw k j)
 ·refine fH (h.nr said) (fun op f=>(hu op f).1) (fun i a r op f b hb R=>?_);obtain⟨q,I,T,n⟩:=R;rcases(hu op f).2 b hb (q▸I)with⟨g,C,G⟩|⟨g,hS,D,J⟩
  ·have:=h.sh i a r (q▸g);rcases n with n|n|⟨_,n,U⟩
   ·exact absurd n this.1
   ·exact absurd n C
   ·have:=this.2 n;rw[G U]at this;exact this
  ·cases E:b.write with
   |true=>exact h.free b.loc (q▸I) g hS (fun k j=>⟨D k j,J E k j⟩) i a r q
   |false=>exact h.mine b.loc (q▸I) g hS D i a r q (T.resolve_right (by simp[E]))
 ·exact xK h.over fun op f=>.inl (hu op f).1
 ·rcases fF N with⟨_,L⟩|⟨_,M⟩
  ·exact(h.old i op x L O j hx hm).imp (·.app u) id
  ·exact absurd (hu op M).1 O
variable {k:Nat}
theorem PT.B9(A:Apart Sh Shun Own Rd K)(h:PT Sh Shun Own Rd K c t)(kk:K k)(hu:∀op∈u,IL Sh Own Rd c k op):PT Sh Shun Own Rd K c (t++u):=by
 have U:k≠0:=fun e=>A.zero (e▸kk)
 refine⟨fun i a C g=>?_,fun k' m l hm j=>(h.own k' m l hm j).app fun op f b hb e=>?_,fun k' m l hm j=>(h.rd k' m l hm j).app fun op f b hb e hw=>?_,
  fun l hm g hS j=>(h.free l hm g hS j).app fun op f b hb e=>?_,fun l hm g hS j=>(h.mine l hm g hS j).app fun op f b hb e hw=>?_,fun said=>?_,?_,fun i op x M N m hx hm=>?_⟩
 ·obtain⟨x,hx,D⟩:=fE C;rcases fF hx with⟨M,F⟩|⟨_,E⟩
  ·have:=h.sh i a (by rw[touchAt_of F];exact D) g;exact⟨this.1,fun e=>(this.2 e).app u⟩
  ·rcases(hu x E).2 a D (A.xJ _ g)with⟨_,q,G⟩|q|⟨q,_⟩
   ·refine⟨q,fun e=>?_⟩;have:=knows_own hx;rw[(hu x E).1]at this;rw[G e];exact this
   ·exact absurd g (A.ownSh k _ kk q).1
   ·exact absurd g (A.rdSh k _ kk q).1
 ·rcases(hu op f).2 b hb (e▸hm)with⟨g,_⟩|n|⟨hr,_⟩
  ·exact absurd (e▸g) (A.ownSh k' l m j).1
  ·rw[(hu op f).1];exact A.own k k' l kk m (e▸n) j
  ·exact absurd (e▸hr) (A.ownRd k' k l m kk j)
 ·rcases(hu op f).2 b hb (e▸hm)with⟨g,_⟩|n|⟨_,hr⟩
  ·exact absurd (e▸g) (A.rdSh k' l m j).1
  ·exact absurd j (A.ownRd k k' l kk m (e▸n))
  ·rw[hr]at hw;cases hw
 ·rcases(hu op f).2 b hb (e▸hm)with⟨r,_⟩|n|⟨hr,_⟩
  ·exact absurd (e▸r) g
  ·exact absurd (e▸n) (j k kk).1
  ·exact absurd (e▸hr) (j k kk).2
 ·rcases(hu op f).2 b hb (e▸hm)with⟨r,_⟩|n|⟨_,hr⟩
  ·exact absurd (e▸r) g
  ·exact absurd (e▸n) (j k kk)
  ·rw[hr]at hw;cases hw
 ·refine fH (h.nr said) (fun op f=>(hu op f).1) (fun i a C op f b hb O=>?_);obtain⟨B,H,R,z⟩:=O;rcases(hu op f).2 b hb (B▸H)with⟨g,q,G⟩|n|⟨hr,I⟩
  ·have:=h.sh i a C (B▸g);rcases z with z|z|⟨_,z,T⟩
   ·exact absurd z this.1
   ·exact absurd z q
   ·have:=this.2 z;rw[G T]at this;exact this
  ·exact h.own k kk b.loc (B▸H) n i a C B
  ·exact h.rd k kk b.loc (B▸H) hr i a C B (R.resolve_right (by simp[I]))
 ·exact xK h.over fun op f=>.inr (.inl ((hu op f).1▸kk))
 ·rcases fF M with⟨_,J⟩|⟨_,L⟩
  ·exact(h.old i op x J N m hx hm).imp (·.app u) id
  ·exact absurd ((hu op L).1▸kk) m
theorem PT.appMute(h:PT Sh Shun Own Rd K c t){g:Nat}(hu:∀op∈u,op.g=g)(C:∀op∈u,op.act.touch? = none):PT Sh Shun Own Rd K c (t++u):=by
 have no:∀{op b},op∈u→op.act.touch? = some b→False:=fun f hb=>by rw[C _ f]at hb;cases hb
 refine⟨fun i a D m=>?_,fun k' n l hm j=>(h.own k' n l hm j).app fun op f b hb e=>(no f hb).elim,fun k' n l hm j=>(h.rd k' n l hm j).app fun op f b hb e hw=>(no f hb).elim,
  fun l hm m hS j=>(h.free l hm m hS j).app fun op f b hb e=>(no f hb).elim,fun l hm m hS j=>(h.mine l hm m hS j).app fun op f b hb e hw=>(no f hb).elim,fun said=>fH (h.nr said) hu (fun i a D op f b hb G=>(no f hb).elim),?_,fun i op x E F n hx hm=>?_⟩
 ·obtain⟨x,hx,q⟩:=fE D;rcases fF hx with⟨E,r⟩|⟨_,z⟩
  ·have:=h.sh i a (by rw[touchAt_of r];exact q) m;exact⟨this.1,fun e=>(this.2 e).app u⟩
  ·exact(no z q).elim
 ·exact xK h.over fun op f=>.inr (.inr (C op f))
 ·rcases fF E with⟨_,A⟩|⟨_,B⟩
  ·exact(h.old i op x A F n hx hm).imp (·.app u) id
  ·exact(no B hx).elim
variable {vK:Nat→Loc→Prop}
theorem PT.grow(h:PT Sh Shun Own Rd K c t)(hm:∀k l,K k→Own k l→vK k l)(z:∀k l,K k→vK k l→Own k l∨∀i a,touchAt t i=some a→a.loc≠l):PT Sh Shun vK Rd K c t:=by
 refine⟨h.sh,fun k f l g j i a r e=>?_,h.rd,fun l g n hS m=>h.free l g n hS fun k f=>⟨fun j=>(m k f).1 (hm k l f j),(m k f).2⟩,fun l g n hS m=>h.mine l g n hS fun k f j=>m k f (hm k l f j),h.nr,h.over,h.old⟩;rcases z k l f j with q|q
 ·exact h.own k f l g q i a r e
 ·exact absurd e (q i a r)
theorem PT.congr{Rd':Nat→Loc→Prop}(h:PT Sh Shun Own Rd K c t)(f:∀k,K k→vK k=Own k)(hr:∀k,K k→Rd' k=Rd k):PT Sh Shun vK Rd' K c t :=
 ⟨h.sh,fun k e=>by rw[f k e];exact h.own k e,fun k e=>by rw[hr k e];exact h.rd k e,fun l g j hS m=>h.free l g j hS fun k e=>by rw[←f k e,←hr k e];exact m k e,
  fun l g j hS m=>h.mine l g j hS fun k e=>by rw[←f k e];exact m k e,h.nr,h.over,h.old⟩
theorem PT.fork(A:Apart Sh Shun Own Rd K)(h:PT Sh Shun Own Rd K c t)(X:k≠0)(Y:¬K k){x y:MemOp}(hx:x.g=0∧x.act=.go k)(B:y.g=k∧y.act=.start)(I:Deaf t 0=0)(q:Deaf t k=0)(R:∀l,l.isMemory=true→Own k l→¬Sh l∧¬Shun l∧∀k',K k'→¬Own k' l∧¬Rd k' l)(hr:∀l,l.isMemory=true→Rd k l→¬Sh l∧¬Shun l∧∀k',K k'→¬Own k' l){c':Nat}(T:c'=c∨(c=0∧c'=k)):PT Sh Shun Own Rd (fun i=>K i∨i=k) c' (t++#[x,y]):=by
 have m:∀op∈#[x,y],∀b,op.act.touch? = some b→False:=by
  intro op f b hb;simp only[fI,fJ,fK,fL]at f;rcases f with rfl|rfl
  ·rw[hx.2]at hb;cases hb
  ·rw[B.2]at hb;cases hb
 have old:∀{i:Nat}{a:Touch},touchAt (t++#[x,y]) i=some a→touchAt t i=some a:=by
  intro i a r;obtain⟨z,U,C⟩:=fE r;rcases fF U with⟨_,J⟩|⟨_,L⟩
  ·rw[touchAt_of J];exact C
  ·exact(m z L a C).elim
 refine⟨fun i a r D=>?_,fun k' j l hm n=>?_,fun k' j l hm n=>?_,
  fun l hm D hS n=>(h.free l hm D hS fun k' j=>n k' (.inl j)).app fun op f b hb _=>(m op f b hb).elim,fun l hm D hS n=>(h.mine l hm D hS fun k' j=>n k' (.inl j)).app fun op f b hb _ _=>(m op f b hb).elim,fun said=>?_,?_,fun i op O V W j E hm=>?_⟩
 ·have:=h.sh i a (old r) D;refine⟨this.1,fun e=>?_⟩;rcases T with rfl|⟨rfl,rfl⟩
  ·exact(this.2 e).app _
  ·exact fork_knows hx B I q (this.2 e)
 ·rcases j with j|rfl
  ·exact(h.own k' j l hm n).app fun op f b hb _=>(m op f b hb).elim
  ·obtain⟨F,G,H⟩:=R l hm n;exact fun i a r e=>fork_knows hx B I q (h.free l hm F G H i a (old r) e)
 ·rcases j with j|rfl
  ·exact(h.rd k' j l hm n).app fun op f b hb _ _=>(m op f b hb).elim
  ·obtain⟨F,G,H⟩:=hr l hm n;exact fun i a r e hw=>fork_knows hx B I q (h.mine l hm F G H i a (old r) e hw)
 ·have e:t++#[x,y]=(t++#[x])++#[y]:=by apply Array.ext';simp
  rw[e];refine fH (g:=k) (fH (g:=0) (h.nr said) (fun op f=>by simp at f;rw[f];exact hx.1) (fun i a _ op f b hb _=>(m op (by simp at f ⊢;exact .inl f) b hb).elim))
   (fun op f=>by simp at f;rw[f];exact B.1) (fun i a _ op f b hb _=>(m op (by simp at f ⊢;exact .inr f) b hb).elim)
 ·refine xK (fun i g F G H=>(h.over i g F G H).imp .inl id) fun op f=>.inr (.inr ?_)
  cases hb:op.act.touch? with
  |none=>rfl
  |some b=>exact(m op f b hb).elim
 ·rcases fF V with⟨_,M⟩|⟨_,N⟩
  ·exact(h.old i op O M W (fun e=>j (.inl e)) E hm).imp (·.app _) id
  ·exact(m op N O E).elim
theorem PT.start{B:Nat}(h:Past Shun B t)(n:∀i a,touchAt t i=some a→¬Sh a.loc):PT Sh Shun Own Rd (fun _=>False) c t:=by
 have m:∀l,l.isMemory=true→¬Shun l→Perm t 0 l:=fun l hm hS i a f e=>(h.known i a f (e▸hm)).resolve_right fun x=>hS (e▸x.1)
 exact⟨fun i a f hx=>absurd hx (n i a f),fun k j=>j.elim,fun k j=>j.elim,fun l hm _ hS _=>m l hm hS,fun l hm _ hS _=>.of (m l hm hS),h.clean,fun i g q r z=>.inr (h.over i g q r z),
  fun i op x A C _ hx hm=>h.known i x (by rw[touchAt_of A];exact hx) hm⟩
theorem PT.past{B:Nat}(h:PT Sh Shun Own Rd K c t)(hd:Deaf t 0=0)(A:∀op∈t,op.act.low B)(C:∀(i:Nat) op x,t[i]?=some op→op.g≠0→K op.g→op.act.touch? = some x→x.loc.isMemory=true→Knows t 0 i∨(Sh x.loc∧x.kind=.atomic))(D:∀i g,t.g? i=some g→K g→t.counts i→∃j,t.g? j=some 0∧HappensBefore t i j):Past (fun l=>Shun l∨Sh l) B t:=by
 refine⟨h.nr,fun i a E hm=>?_,fun i g r m e=>?_,hd,A⟩
 ·obtain⟨x,hx,f⟩:=fE E
  by_cases n:x.g=0
  ·have:=knows_own hx;rw[n]at this;exact .inl this
  ·by_cases z:K x.g
   ·exact(C i x a hx n z f hm).imp id fun y=>⟨.inr y.1,y.2⟩
   ·exact(h.old i x a hx n z f hm).imp id fun y=>⟨.inl y.1,y.2⟩
 ·rcases h.over i g r m e with q|q
  ·exact D i g r q e
  ·exact q
end
end
end Go.Proofs.YtjnkcibpkkjniaaGreat.kj
