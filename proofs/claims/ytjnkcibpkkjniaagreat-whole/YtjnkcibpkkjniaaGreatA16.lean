import Derived.Test.YtjnkcibpkkjniaaGreatA00
import Derived.Test.YtjnkcibpkkjniaaGreatA15
set_option linter.all false
set_option maxHeartbeats 1600000
set_option maxRecDepth 20000
namespace Go.Proofs.YtjnkcibpkkjniaaGreat
section
open Go Go.RowKit
theorem On{w:World}{sb:Nat}{au id:Int}{p:Pz}{st hold heard spoke:Int}{pa:Option Addr}{pl pc:Nat}(h:w.heap[sb]?=some (.cells (j5 au id p st hold heard spoke (.slice pa pl pc)) 100 (0,0))):Calls Tryz.prog 158 #[.pointer (some ⟨sb,0,none⟩)] w fun e w'=>(∃v,e=.returned v)∧w'.heap[sb]?=some (.cells (j5 au id p 0 0 0 0 (.slice none 0 0)) 100 (0,0))∧w'.os=w.os∧w.heap.size≤w'.heap.size∧∀b,b<w.heap.size→b≠sb→w'.heap[b]?=w.heap[b]?:=by
 obtain⟨g,i,j,k,l,ia,il,ic,ea,el,ec⟩:=p;simp only[j5]at h ⊢;have m:=h;have c:sb<w.heap.size:=(dp.1 h).1;have d:=fun w=>Dl au id ⟨g,i,j,k,l,ia,il,ic,ea,el,ec⟩ w
 simp only[Pz.cells,j5]at d;have c0:=jV h 0;have c1:=jV h 1;have c2:=jV h 2;have c3:=jV h 3;have c4:=jV h 4;have n:=jV h 5;have o:=jV h 6;have q:=jV h 7;have r:=jV h 8;simp at c0 c1 c2 c3 c4 n o q r;have s:Hid (_):=m;have f:Hid (∀w,_):=d;clear h m d;go_enter Tryz.func158,Tryz.ntmps158
 go_wp2_with fail
 go_region_with (go_at_call 41;go_loud (refine(f.out _).mono ?_);go_loud (rintro e w1 ⟨rfl,hB⟩);go_loud (obtain hb:=(hB.block sb c).trans s.out);go_loud (obtain⟨F,G,H,I,J,K,L,M,N,O,t,u,x,y,P,z1,z2,Q,R,S,T,U,V,W,z,A,B,C⟩:=oD hb))
 all_goals go_wp2_with fail
 all_goals
  have a:=Om hb (.int .i64 au) (.int .u32 id) (.int .i64 g) (.int .i64 i) (.int .i64 j) (.int .i64 k) (.int .i64 l) (.slice ia il ic) (.slice ea el ec) (.int .i64 0) (.int .i64 0) (.int .i64 0) (.int .i64 0) (.slice none 0 0);have hsz:w.heap.size≤w1.heap.size:=hB.size;exact iY (v:=.tuple #[]) (by simp[results,Tryz.results158,go_sem]) rfl ⟨⟨_,rfl⟩,a.1,a.2.os.trans hB.os,by rw[a.2.size];exact hsz,fun b D E=>(a.2.Dm b E).trans (hB.block b D)⟩
end
end Go.Proofs.YtjnkcibpkkjniaaGreat
