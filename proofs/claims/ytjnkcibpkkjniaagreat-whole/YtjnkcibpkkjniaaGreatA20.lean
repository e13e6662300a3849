import Derived.Test.YtjnkcibpkkjniaaGreatA00
import Derived.Test.YtjnkcibpkkjniaaGreatA19
set_option linter.all false
set_option maxHeartbeats 1600000
set_option maxRecDepth 20000
namespace Go.Proofs.YtjnkcibpkkjniaaGreat
section
open Go Go.RowKit
theorem DZ(b o c:Nat)(w:World):(convert 86 9 (.slice (some ⟨b,o,none⟩) 0 c)).run Tryz.prog w=.ok (.string (strOfNums [])) w :=
 iC w 86 5 Tryz.underlying86 Tryz.underlying5 b o 0 c [] rfl (fun i a=>absurd a (g8 i)) 9 Tryz.underlying9
end
end Go.Proofs.YtjnkcibpkkjniaaGreat
