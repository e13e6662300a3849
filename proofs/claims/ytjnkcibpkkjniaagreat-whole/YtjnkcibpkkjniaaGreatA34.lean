import Derived.Test.YtjnkcibpkkjniaaGreatA00
import Derived.Test.YtjnkcibpkkjniaaGreatA14
set_option linter.all false
set_option maxHeartbeats 2000000
set_option maxRecDepth 20000
namespace Go.Proofs.YtjnkcibpkkjniaaGreat.kj
section
open Go Go.Conc Go.RowKit Go.Proofs.YtjnkcibpkkjniaaGreat.j7
theorem GX.SJ{cs:List Frame}{Q:Frame→List Frame→World→Prop}{b:Frame}{a:Act}{ops:Array Oper}{i:Nat}{l:List Nat}{k:List Item}{xs:List Frame}{w:World}{o:Oper}(p:ops[i]?=some o)(hw:Region.wanted o (yielded ops a.tmps)=true){x y z u:Operand}{d:Array TypeId}(f:o.op=.call { callee:=.value (.func 14),args:=#[x,y,z,u],argTypes:=d })(c:(#[x,y,z,u]:Array Operand).all (@lg jT)=true){v0 v1 v2 v3:Value}(g:a.eval x=v0)(j:a.eval y=v1)(m:a.eval z=v2)(n:a.eval u=v3)(h:GX cs Q ((base 14).at { tmps:=#[v0,v1,v2,v3]++Array.replicate 79 undef,defers:=[] } [.code (Tryz.f14.body.getD .skip)]) (b.at a (.inRegion ops (i::l)::k)::xs) w)(m0:kT v0=false:=by rfl)(q:kT v1=false:=by rfl)(m2:kT v2=false:=by rfl)(r:kT v3=false:=by rfl):GX cs Q (b.at a (.inRegion ops (i::l)::k)) xs w:=by
 have hma:mP #[x,y,z,u] a.eval=true:=by simp[mP,g,j,m,n,m0,q,m2,r]
 refine GX.vH (hma:=hma) p hw f c Tryz.func14 rfl rfl ?_;have e:(#[x,y,z,u]:Array Operand).map a.eval=#[v0,v1,v2,v3]:=by simp[g,j,m,n]
 rw[e];exact h
end
end Go.Proofs.YtjnkcibpkkjniaaGreat.kj
