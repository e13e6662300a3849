import Derived.Test.YtjnkcibpkkjniaaGreatA00
import Derived.Test.YtjnkcibpkkjniaaGreatA10
set_option linter.all false
set_option maxHeartbeats 1600000
set_option maxRecDepth 20000
namespace Go.Proofs.YtjnkcibpkkjniaaGreat
section
open Go Go.RowKit
theorem zb:∃i z,vk 43 i z 3 32∧∀u∈z.cells.toList,Pl u:=by
 obtain⟨i,z,h⟩:=SF;refine⟨i,z,h,?_⟩;have a:((Tryz.prog.info? 43).bind fun i=>i.zero.map (·.cells))=some #[.int .i64 0,.int .i64 0,.string ⟨#[]⟩]:=by kernel_rfl
 rw[h.info]at a;simp only[ed,h.zero,dM,dW]at a;rw[a];intro u hu;simp at hu;rcases hu with rfl|rfl
 ·exact Pl.int _ _
 ·exact Pl.string _
end
end Go.Proofs.YtjnkcibpkkjniaaGreat
