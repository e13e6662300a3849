import Derived.Test.YtjnkcibpkkjniaaGreatA31
set_option linter.unusedVariables false
set_option linter.unusedSimpArgs false
set_option linter.unusedSectionVars false
namespace Go.Proofs.YtjnkcibpkkjniaaGreat.Pool
open Go Go.Conc Go.RowKit Go.Proofs.YtjnkcibpkkjniaaGreat.Sim
set_option maxRecDepth 20000
theorem Stnd.keep {w w':World} {sp xb xc:Nat} {Z:List Value} {now au id:Int} {p:Pz} {st hold heard spoke:Int} {pa:Option Addr} {pl pc:Nat} (h:Stnd w sp xb xc Z now au id p st hold heard spoke pa pl pc) (k:∀ b,b < w.heap.size→w'.heap[b]? = w.heap[b]?):Stnd w' sp xb xc Z now au id p st hold heard spoke pa pl pc:=by
 refine ⟨(k sp (Array.getElem?_eq_some_iff.1 h.hsp).1).trans h.hsp,h.ss.keep fun b hb=>k b ?_,h.ne,h.nm⟩
 rcases hb with rfl | hb
 ·exact (Array.getElem?_eq_some_iff.1 h.ss.blk).1
 ·obtain ⟨cur,ty,fr,q,_⟩:=(h.ss.rows b hb).2
  exact (Array.getElem?_eq_some_iff.1 q).1
theorem met_gx {cs:List Frame} {Q:Frame→List Frame→World→Prop} {c:Frame} {x2:List Frame} {bc:Frame} {ac:Act} {ops:Array Oper} {i:Nat} {l:List Nat} {kk:List Item} (hcf:c=bc.at ac (.inRegion ops (i::l)::kk)) {w:World} {hd:Int} (h1:3≤hd) (h2:hd≤65535)
  (k:∀ w' sp xb xc Z p pa pl pc,Stnd w' sp xb xc Z 0 65000 200 p 3 hd 0 0 pa pl pc→GX cs Q (c.finish (.pointer (some ⟨sp,0,none⟩))) x2 w') :
  GX cs Q ((base 14).at { tmps:=#[.int .i64 1, .int .i64 hd, .int .i64 0, .int .i64 0]++Array.replicate 79 undef,defers:=[] } [.code (Tryz.f14.body.getD .skip)]) (c::x2) w:=by
 refine met_to h1 h2 fun a w1 sp xb xc Z p jb jc a1 a2 a3 a4 a5 a6 hS hpa hph hjb hjs i0 i1 _ _=>?_
 refine met_turn h1 h2 a1 a2 a3 a4 a5 a6 hS hpa hph hjb hjs i0 i1 fun a w2 Z' p' pa' pl' pc' nb nc b1 b2 b3 b4 b5 b6 b7 o0 o1 o2 hS2 hph2 _=>?_
 refine met_loop b1 b2 b3 b4 b5 b6 b7 o0 o1 o2 hS2 fun a w3 d1 d2 d3 d4 d5 d6 hB=>?_
 exact met_out hcf d1 d2 d3 d4 d5 d6 (k w3 sp xb xc Z' p' pa' pl' pc' (hS2.keep fun b hb=>hB.block b hb))
end Go.Proofs.YtjnkcibpkkjniaaGreat.Pool
