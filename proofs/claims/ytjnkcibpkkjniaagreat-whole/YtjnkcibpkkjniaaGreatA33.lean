import Derived.Test.YtjnkcibpkkjniaaGreatA00
import Derived.Test.YtjnkcibpkkjniaaGreatA32
set_option linter.all false
set_option maxRecDepth 20000
namespace Go.Proofs.YtjnkcibpkkjniaaGreat.kj
section
open Go Go.Conc Go.RowKit Go.Proofs.YtjnkcibpkkjniaaGreat.j7
variable {w:World}
theorem A5{w':World}(h:∀b,b<w.heap.size→w'.heap[b]?=w.heap[b]?):w.heap.size≤w'.heap.size:=by
 refine Nat.le_of_not_lt fun a=>?_
 have c:=h _ a;rw[dq a,fD (dx _)]at c
 cases c
theorem SH{cs:List Frame}{Q:Frame→List Frame→World→Prop}{c:Frame}{j:List Frame}{o:Frame}{ac:Act}{ops:Array Oper}{i:Nat}{l:List Nat}{kk:List Item}(d:c=o.at ac (.inRegion ops (i::l)::kk))(k:∀w' sp,w.heap.size≤w'.heap.size→(∀b,b<w.heap.size→w'.heap[b]?=w.heap[b]?)→GX cs Q (c.finish (.pointer (some ⟨sp,0,none⟩))) j w'):GX cs Q ((base 14).at { tmps:=#[.int .i64 1,.int .i64 9,.int .i64 1,.int .i64 0]++Array.replicate 79 undef,defers:=[] } [.code (Tryz.f14.body.getD .skip)]) (c::j) w:=by
 refine Su fun a w1 sp I J K p q r s t u hS e i0 i1 f=>?_
 refine Sv p q r s t u hS e i0 i1 fun a w2 nb nc b1 b2 x y z A B C D E g h=>?_
 refine SG b1 b2 x y z A B C D E g fun a w3 d1 d2 d3 d4 d5 d6 hB=>?_
 have hold:∀b,b<w.heap.size→w3.heap[b]?=w.heap[b]?:=fun b hb=>by
  obtain⟨F,m⟩:=f b hb;have n:=h b F;have G:b<w1.heap.size:=(dp.1 (m.trans (dq hb))).1;have H:b<w2.heap.size:=(dp.1 (n.trans (dq G))).1;exact(hB.block b H).trans (n.trans m)
 exact SF d d1 d2 d3 d4 d5 d6 (k w3 sp (A5 hold) hold)
end
end Go.Proofs.YtjnkcibpkkjniaaGreat.kj
