import Derived.Test.YtjnkcibpkkjniaaGreatA00
import Derived.Test.YtjnkcibpkkjniaaGreatA20
import Derived.Deep.Cut
import Derived.Test.YtjnkcibpkkjniaaGreatA21
set_option linter.all false
set_option maxHeartbeats 1600000
set_option maxRecDepth 20000
namespace Go.Proofs.YtjnkcibpkkjniaaGreat
section
open Go Go.RowKit
open Go.Proofs.YtjnkcibpkkjniaaGreat.kj (kH lf nO)
variable {q:Option Nat}
structure oo (xs:List Int):Prop where
 bytes:Bytes xs
 ok:19≤xs.length→my (xs.take 19)=none∧(xs.length:Int)<kQ xs
theorem Ap{h:List Int}(e:my h=none):19≤kQ h∧kQ h≤4096:=by
 unfold my at e;split at e
 ·split at e
  ·cases e
  ·omega
 ·cases e
variable {xs:List Int}
theorem oo.len(h:oo xs):xs.length<4096:=by
 by_cases a:19≤xs.length
 ·obtain⟨b,e⟩:=h.ok a;have c:=(Ap b).2;rw[vk xs a]at c;omega
 ·omega
theorem oo.want(h:oo xs):0<lA xs∧lA xs≤4096:=by
 unfold lA;split
 ·omega
 ·rename_i c;obtain⟨a,e⟩:=h.ok (by omega);have b:=(Ap a).2;rw[vk xs (by omega)]at b;omega
def lN (xs d:List Int):Nat:=min (lA xs).toNat d.length
inductive Aq
 |bad (t:lS) (ys:List Int)
 |more (ys:List Int)
 |whole (k:Int) (b:List Int)
def qz (ys:List Int):Aq :=
 match(if ys.length=19 then my (ys.take 19) else none)with
 |some t=>.bad t ys
 |none=>if 0<lA ys then .more ys else .whole (lT ys) (ys.drop 19)
def nP (xs d:List Int):Aq:=qz (xs++d.take (lN xs d))
theorem O0{C:Array Value}(h:C.size=62):∃k0 k1 k2 k3 k4 k5 k6 k7 k8 k9 a b c e f g i j k m n o p r s t u x y z A B D E F G H I J K L M N O P Q R T U V W X Y Z aa ab ad ae af ag ah ai,C=#[k0,k1,k2,k3,k4,k5,k6,k7,k8,k9,a,b,c,e,f,g,i,j,k,m,n,o,p,r,s,t,u,x,y,z,A,B,D,E,F,G,H,I,J,K,L,M,N,O,P,Q,R,T,U,V,W,X,Y,Z,aa,ab,ad,ae,af,ag,ah,ai]:=by
 obtain⟨l⟩:=C
 match l,h with
 |k0::k1::k2::k3::k4::k5::k6::k7::k8::k9::a::b::c::e::f::g::i::j::k::m::n::o::p::r::s::t::u::x::y::z::A::B::D::E::F::G::H::I::J::K::L::M::N::O::P::Q::R::T::U::V::W::X::Y::Z::aa::ab::ad::ae::af::ag::ah::ai::[],_=>exact⟨_,_,_,_,_,_,_,_,_,_,_,_,_,_,_,_,_,_,_,_,_,_,_,_,_,_,_,_,_,_,_,_,_,_,_,_,_,_,_,_,_,_,_,_,_,_,_,_,_,_,_,_,_,_,_,_,_,_,_,_,_,_,rfl⟩
def D1 (q:Option Nat) (w:World) (base tb sb:Nat) (now:Int) (sv:Value) (sent:List Int) (cl ov:Bool) (S:Array Value) (r:List Int) (x:Aq) (e:Ending) (w':World):Prop :=
 kh q base tb sb w w'∧match x with
  | .bad t ys=>e=.panicked [{ v:=t.val,recovered:=false }]∧∃tw,ko q w' base tb sb now sv sent cl ov (S.setIfInBounds 13 tw) tw ys
  | .more ys=>e=.returned (.tuple #[.string (strOfNums r),.agg #[.int .i64 0,.string (strOfNums [])],.bool false])∧∃tw,ko q w' base tb sb now sv sent cl ov (S.setIfInBounds 13 tw) tw ys
  | .whole k b=>e=.returned (.tuple #[.string (strOfNums r),.agg #[.int .i64 k,.string (strOfNums b)],.bool true])∧∃tw,ko q w' base tb sb now sv sent cl ov (S.setIfInBounds 13 tw) tw []
section
variable {w:World} {base tb sb:Nat} {now:Int} {sv:Value} {sent:List Int} {cl ov:Bool} {S:Array Value} {pv:Value} {xs:List Int}
variable {d:List Int}
theorem O1 (h:ko q w base tb sb now sv sent cl ov S pv xs) (hS:S.size=14) (sP:oo xs) (hd:Bytes d) (TV:0 < d.length) (TW:d.length≤1152921504606846976)
    {W:Int} {m:Nat} (hW:lA xs=W) (hm:m=lN xs d) (hc:(m=d.length∧(d.length:Int) < W)∨(W=(m:Int)∧m≤d.length)) :
    Calls Tryz.prog 156 #[.pointer (some ⟨sb,13,none⟩), .string (strOfNums d)] w fun e w'=>D1 q w base tb sb now sv sent cl ov S (d.drop (lN xs d)) (nP xs d) e w':=by
  have HN:Hid (lU q w (w.alloc (.cells #[.int .i64 0, .string (strOfNums [])] 247)) base tb sb w.heap.size now sv sent cl ov S pv xs #[.int .i64 0, .string (strOfNums [])]):=lU.start h _
  have HS:Hid (_):=hS
  have hw:=sP.want
  have TX:=sP.len
  have TY:Hid (_):=sP
  have TZ:0 < m∧m≤d.length∧(m:Int)≤W∧m≤4096:=by rw [←hW,hm];unfold lN;omega
  have HT:Hid ((d.take m).length=m):=by show _=_;rw [iT];omega
  have HB:Hid (Bytes (d.take m)):=fun x hx=>hd x (iV hx)
  have D2:Hid (Calls Tryz.prog 166 #[.pointer (some ⟨sb,13,none⟩)] (w.alloc (.cells #[.int .i64 0, .string (strOfNums [])] 247)) fun e w'=>e=.returned (.int .i64 W)∧∃ m,w'=(w.alloc (.cells #[.int .i64 0, .string (strOfNums [])] 247)).drewN m):=by
    rw [←hW]
    by_cases hl:xs.length < 19
    · exact DC HN.out.kJ.1 HN.out.tp.own hl
    · exact DD HN.out.kJ.1 HN.out.tp.own sP.bytes (by omega) (by omega)
  have kz:=iE
  have ks:(strOfNums d).extract 0 m=strOfNums (d.take m):=by rw [p8];simp
  have T0:(strOfNums d).extract m d.length=strOfNums (d.drop m):=by
    rw [p8]
    congr 1
    exact gY (by simp)
  have kd:(m:Int)≤(d.length:Int):=by omega
  obtain ⟨i0,hi,wF,D3,D4⟩:=Di
  have O2:Hid (∀ u∈(Value.int .u8 0).cells.toList,Pl u):=fun u hu=>by simp [Value.cells] at hu;subst hu;exact Pl.int _ _
  have HI:Hid (_):=hi
  have HZ:Hid (i0.zero=some (.int .u8 0)∧i0.size=1∧i0.bytes=1):=⟨wF,D3,D4⟩
  have wG:Hid (Bytes (xs++d.take m)):=sP.bytes.app HB.out
  have Ar:Hid ((xs++d.take m).length=xs.length+m∧xs.length+m≤8192∧(19≤xs.length+m→lA (xs++d.take m)=kQ (xs++d.take m) - ((xs.length+m:Nat):Int))∧(19 < xs.length+m→((xs.length+m:Nat):Int)≤kQ (xs++d.take m))):=by
    have e:(xs++d.take m).length=xs.length+m:=by rw [iF,HT.out]
    refine ⟨e,by omega,fun wH=>?_,fun wH=>?_⟩
    · unfold lA;rw [dk (by omega),e]
    · by_cases hl:xs.length < 19
      · have:W=19 - (xs.length:Int):=by rw [←hW];unfold lA;rw [dj hl]
        omega
      · have e2:W=kQ xs - (xs.length:Int):=by rw [←hW];unfold lA;rw [dk hl]
        have e3:kQ (xs++d.take m)=kQ xs:=by
          rw [←vk (xs++d.take m) (by omega),←vk xs (by omega),List.take_append_of_le_length (by omega)]
        rw [e3]
        omega
  obtain ⟨Y,ye⟩:∃ Y,Y=xs++d.take m:=⟨_,rfl⟩
  obtain ⟨N,As⟩:∃ N,N=xs.length+m:=⟨_,rfl⟩
  have T1:0 < N:=by omega
  unfold nP
  rw [←hm]
  rw [←ye,←As] at Ar
  rw [←ye] at wG ⊢
  have D5:Hid (_):=ye
  have sw:Hid (_):=As
  clear ye As
  clear h hS sP hi wF D3 D4 hd hm hw hW
  rcases hc with ⟨rfl,T2⟩ | ⟨rfl,hle⟩
  all_goals
    go_enter Tryz.func156,Tryz.ntmps156
    go_wp2_with (go_at_call 166;go_loud (refine D2.out.mono ?_);go_loud (rintro e w1 ⟨rfl,mm,hw⟩);go_loud (have H1:Hid (lU q w w1 base tb sb w.heap.size now sv sent cl ov S pv xs #[.int .i64 0, .string (strOfNums [])]):=by rw [hw];exact HN.out.drewN mm);go_loud (obtain ⟨kJ,Au⟩:=H1.out.kJ);clear hw)
  all_goals
    go_region_law (go_loud (refine OS rfl (.tmp 17) (.tmp 20) 86 9 rfl 0 5 i0 (.int .u8 0) Tryz.underlying86 Tryz.underlying9 HI.out HZ.out.1 HZ.out.2.1 HZ.out.2.2 rfl pv xs.length (cellsOf xs) (by simp [Act.eval]) (by repeat (first | exact H1.out.tp.own | refine World.ownsRow.drew ?_)) (d.take _) (by simp [Act.eval] <;> exact ks) HB.out (by rw [HT.out];omega) (eI _) O2.out (H1.out.tp.pl) ?_);go_loud (intro v' w2 hown2 hg2 D6 D7);go_loud (obtain ⟨ao,cp,rfl,_⟩:=p6 hown2);go_loud (obtain ⟨d13,O3⟩:=lU.OY H1.out.drew hg2);go_loud (have H2:Hid (lU q w (w2.setCell ⟨sb,13,none⟩ (.slice ao (xs.length+(d.take _).length) cp)) base tb sb w.heap.size now sv sent cl ov (S.setIfInBounds 13 (.slice ao (xs.length+(d.take _).length) cp)) (.slice ao (xs.length+(d.take _).length) cp) (xs++d.take _) #[.int .i64 0, .string (strOfNums [])]):=lU.taken H1.out.drew HS.out hown2 hg2 D6 D7);clear hown2 hg2 D6 D7)
  all_goals
    rw [HT.out] at H2
    have O4:=Ar.out
    clear Ar
    rw [←sw.out,←D5.out] at H2
    rw [←sw.out]
    obtain ⟨rO,Av,wI,yf⟩:=O4
    have H3:=H2.out
    clear H2 H1 kJ Au d13 O3 D2 HN HI HZ
    obtain ⟨g,c,e,T3,D8⟩:=Aj H3.tp.own (by omega)
    rw [rO] at e
    cases e
    generalize (w2.setCell ⟨sb,13,none⟩ (.slice (some ⟨g,0,none⟩) N cp))=w3 at H3 D8 ⊢
    obtain ⟨kJ,Au⟩:=H3.kJ
    have vm:Hid (Calls Tryz.prog 166 #[.pointer (some ⟨sb,13,none⟩)] w3 fun e w'=>e=.returned (.int .i64 (lA Y))∧∃ m,w'=w3.drewN m):=by
      by_cases hl:Y.length < 19
      · exact DC kJ H3.tp.own hl
      · exact DD kJ H3.tp.own wG.out (by omega) (by omega)
    have uy:Hid (_):=H3
    clear H3 D8 D5 sw
    by_cases hN:N=19
    case' pos =>
      have hn:((N:Int) == 19)=true:=by rw [hN];rfl
      have eY:Y.take 19=Y:=gY (by omega)
      have Aw:Hid (Calls Tryz.prog 168 #[.pointer (some ⟨sb,13,none⟩)] w3 fun e w'=>e=.returned (.string (strOfNums Y))∧w'=w3):=by
        have:=Ak (xs:=Y) kJ uy.out.tp.own (by omega)
        rw [eY] at this
        exact this
      rcases uz:my Y with _ | t
      rotate_left
      · have yg:Hid (Calls Tryz.prog 167 #[.string (strOfNums Y)] w3 fun e w'=>e=.panicked [{ v:=t.val,recovered:=false }]∧w'=w3):=by
          have:=DG wG.out (rO.trans hN) w3
          rw [uz] at this
          exact this.mono fun e w' h=>⟨h.2,h.1⟩
        have tx:qz Y=.bad t Y:=by unfold qz;rw [dj (rO.trans hN),eY,uz]
        have uA:Hid (_):=tx
        clear tx uz rO Av wI yf vm
        go_wp2_with (first
          | (go_at_call 168;go_loud (refine Aw.out.mono ?_);go_loud (rintro e w4 ⟨rfl,rfl⟩))
          | (go_at_call 167;go_loud (refine yg.out.mono ?_);go_loud (rintro e w4 ⟨rfl,rfl⟩)))
        rw [uA.out]
        exact ⟨rfl,uy.out.rest,rfl,_,uy.out.tp⟩
      have yg:Hid (Calls Tryz.prog 167 #[.string (strOfNums Y)] w3 fun e w'=>(∃ v,e=.returned v)∧w'=w3):=by
        have:=DG wG.out (rO.trans hN) w3
        rw [uz] at this
        exact this.mono fun e w' h=>⟨h.2,h.1⟩
      have tx:qz Y=if 0 < lA Y then .more Y else .whole (lT Y) (Y.drop 19):=by unfold qz;rw [dj (rO.trans hN),eY,uz]
      have Ax:0≤lA Y:=by have:=(Ap uz).1;have:=wI (by omega);omega
      have uA:Hid (_):=tx
      have yh:19≤N∨0 < lA Y:=.inl (by omega)
      clear tx uz eY
      go_upto_region 5 with (first
        | (go_at_call 168;go_loud (refine Aw.out.mono ?_);go_loud (rintro e w4 ⟨rfl,rfl⟩))
        | (go_at_call 167;go_loud (refine yg.out.mono ?_);go_loud (rintro e w4 ⟨⟨v4,rfl⟩,rfl⟩)))
      clear Aw yg
    case' neg =>
      have tx:qz Y=if 0 < lA Y then .more Y else .whole (lT Y) (Y.drop 19):=by unfold qz;rw [dk (by omega)]
      have Ax:0≤lA Y:=by
        by_cases wH:N < 19
        · unfold lA;rw [dj (by omega)];omega
        · have:=wI (by omega);have:=yf (by omega);omega
      have hn:((N:Int) == 19)=false:=by simp;omega
      have uA:Hid (_):=tx
      have yh:19≤N∨0 < lA Y:=by
        by_cases wH:N < 19
        · right;unfold lA;rw [dj (by omega)];omega
        · left;omega
      clear tx
      go_upto_region 5 with fail
      clear hn
  all_goals
    clear kJ Au
    by_cases hp:0 < lA Y
    case' pos =>
      have Hc:Hid (qz Y=.more Y):=by show _=_;rw [uA.out,dj hp]
      clear uA Ax yh rO Av wI yf
      go_wp2_with (go_at_call 166;go_loud (refine vm.out.mono ?_);go_loud (rintro e w4 ⟨rfl,m4,wJ⟩);go_loud (have H4:Hid (lU q w w4 base tb sb w.heap.size now sv sent cl ov (S.setIfInBounds 13 (.slice (some ⟨g,0,none⟩) N cp)) (.slice (some ⟨g,0,none⟩) N cp) Y #[.int .i64 0, .string (strOfNums [])]):=by rw [wJ];exact uy.out.drewN m4);go_loud (have n0:=jV H4.out.m 0);go_loud (have n1:=jV H4.out.m 1);go_loud (have q0:=kK H4.out.m 0);go_loud (have q1:=kK H4.out.m 1);simp at n0 n1;clear wJ)
      have k5:=(H4.out.vl 0 (.int .i64 0)).vl 1 (.string (strOfNums []))
      clear H4 uy vm n0 n1 q0 q1
      simp only [ik,iu,iq] at k5
      have es:(⟨#[]⟩:ByteArray)=strOfNums []:=rfl
      rw [es]
      generalize ((w4.setCell ⟨w.heap.size,0,none⟩ (.int .i64 0)).setCell ⟨w.heap.size,1,none⟩ (.string (strOfNums [])))=w5 at k5 ⊢
      have n0:=jV k5.m 0
      have n1:=jV k5.m 1
      simp at n0 n1
      first
        | (refine iZ (v:=.tuple #[.string (strOfNums (d.drop m)), .agg #[.int .i64 0, .string (strOfNums [])], .bool false]) (by simp [results,Tryz.results156,go_sem,n0,n1]) rfl ?_;rw [Hc.out];exact ⟨k5.rest,rfl,_,k5.tp⟩)
        | (refine iZ (v:=.tuple #[.string ByteArray.empty, .agg #[.int .i64 0, .string (strOfNums [])], .bool false]) (by simp [results,Tryz.results156,go_sem,n0,n1]) rfl ?_;rw [Hc.out,List.drop_length];exact ⟨k5.rest,rfl,_,k5.tp⟩)
    case' neg =>
      have D9:19≤N:=yh.resolve_right hp
      have wF:lA Y=0:=by omega
      have Hc:Hid (qz Y=.whole (lT Y) (Y.drop 19)):=by show _=_;rw [uA.out,dk hp]
      rw [wF] at vm
      obtain ⟨b,hb⟩:∃ b,b=Y.drop 19:=⟨_,rfl⟩
      obtain ⟨qA,hk⟩:∃ k,k=lT Y:=⟨_,rfl⟩
      rw [←hb,←hk] at Hc
      have Ea:b.length=N - 19:=by rw [hb,iU,rO]
      have sw:Hid (19≤N∧b.length=N - 19):=⟨D9,Ea⟩
      have O5:Hid (_):=hb
      have Ay:Hid (∀ w,Calls Tryz.prog 169 #[.string (strOfNums (Y.take 19))] w fun e w'=>e=.returned (.int .i64 qA)∧w'=w):=fun w=>by
        refine Dw (Y.take 19) (fun x hx=>wG.out x (iV hx)) qA ?_ w
        rw [hk]
        unfold lT
        rw [jm (by omega),jj,jf (by omega)]
        rfl
      have vn:Hid (_):=rO
      clear uA Ax yh rO Av wI yf hp wF hb hk D9 Ea
      go_upto_region 7 with (go_at_call 166;go_loud (refine vm.out.mono ?_);go_loud (rintro e w4 ⟨rfl,m4,wJ⟩);go_loud (have H4:Hid (lU q w w4 base tb sb w.heap.size now sv sent cl ov (S.setIfInBounds 13 (.slice (some ⟨g,0,none⟩) N cp)) (.slice (some ⟨g,0,none⟩) N cp) Y #[.int .i64 0, .string (strOfNums [])]):=by rw [wJ];exact uy.out.drewN m4);clear wJ)
      have l4:=H4.out.tp.ts.lt
      have Az:∀ wx,Below w4.heap.size w4 wx→Calls Tryz.prog 168 #[.pointer (some ⟨sb,13,none⟩)] wx fun e w'=>e=.returned (.string (strOfNums (Y.take 19)))∧w'=wx:=fun wx hB=>by
        have k:=H4.out.tp.below hB
        exact Ak (xs:=Y) ((jV k.ts.s 13).trans k.kJ) k.own (by rw [vn.out];exact sw.out.1)
      have Eb:N≤cp:=by
        have:=(H4.out.tp.own).2
        rcases this with ⟨e,_⟩ | ⟨g',c',cur,e,_,_,Ec,_⟩
        · cases e
        · cases e;rw [vn.out] at Ec;exact Ec
      have AA:∀ wx,Below w4.heap.size w4 wx→(convert 86 9 (.slice (if cp=19 then some ⟨g,0,none⟩ else some ⟨g,19,none⟩) (N - 19) (cp - 19))).run Tryz.prog wx=.ok (.string (strOfNums b)) wx:=fun wx hB=>by
        have k:=H4.out.tp.below hB
        obtain ⟨g',c',e',T4,O6⟩:=Aj k.own (by rw [vn.out];have:=sw.out.1;omega)
        rw [vn.out] at e'
        cases e'
        have wH:=sw.out
        by_cases Ed:cp=19
        · have O7:b=[]:=iQ (by omega)
          rw [dj Ed,O7,show N - 19=0 by omega]
          exact DZ _ _ _ _
        · rw [dk Ed]
          refine iC wx 86 5 Tryz.underlying86 Tryz.underlying5 g 19 (N - 19) (cp - 19) b wH.2 (fun i hi=>?_) 9 Tryz.underlying9
          have Ee:19+i < Y.length:=by rw [vn.out];omega
          rw [O6 (19+i) Ee]
          have h2:b[i]? = Y[19+i]?:=by rw [O5.out,jq]
          have Ef:i < b.length:=by omega
          rw [jf Ef,jf Ee] at h2
          rw [←eX h2]
          simp [List.getD,jf Ef]
      first
        | (refine nO (D:=_) (ops:=qX) (val:=om sb g N cp (Y.take 19) b qA) (fix:=[(0, .pointer (some ⟨sb,13,none⟩)),(1, .string (strOfNums d)),(5, .pointer (some ⟨w.heap.size,0,none⟩)),(7, .int .i64 (m:Int))]) (T:=62) (w0:=w4) (Post:=fun (_:Act) (w':World)=>∃ wz,Below w4.heap.size w4 wz∧w'=(wz.setCell ⟨w.heap.size,0,none⟩ (.int .i64 qA)).setCell ⟨w.heap.size,1,none⟩ (.string (strOfNums b))) (n:=10) (by kernel_rfl) DU DV DW DT
              (fun i o a wx hi ho pH uB hs K hK=>DX (by omega) H4.out.kJ.1 sw.out.1 Eb Az Ay.out AA i o a wx hi ho (pH (0, .pointer (some ⟨sb,13,none⟩)) (by simp)) uB hs K hK)
              (fun o a wx ho pH uB hs K hK=>DY H4.out.m o a wx ho (pH (5, .pointer (some ⟨w.heap.size,0,none⟩)) (by simp)) uB hs K fun v w' h=>hK v w' h) (fun a wx kG hsz pH hP=>?_) rfl rfl ?_ ?_)
        | (refine nO (D:=_) (ops:=qX) (val:=om sb g N cp (Y.take 19) b qA) (fix:=[(0, .pointer (some ⟨sb,13,none⟩)),(1, .string (strOfNums d)),(5, .pointer (some ⟨w.heap.size,0,none⟩)),(7, .int .i64 (d.length:Int))]) (T:=62) (w0:=w4) (Post:=fun (_:Act) (w':World)=>∃ wz,Below w4.heap.size w4 wz∧w'=(wz.setCell ⟨w.heap.size,0,none⟩ (.int .i64 qA)).setCell ⟨w.heap.size,1,none⟩ (.string (strOfNums b))) (n:=10) (by kernel_rfl) DU DV DW DT
              (fun i o a wx hi ho pH uB hs K hK=>DX (by omega) H4.out.kJ.1 sw.out.1 Eb Az Ay.out AA i o a wx hi ho (pH (0, .pointer (some ⟨sb,13,none⟩)) (by simp)) uB hs K hK)
              (fun o a wx ho pH uB hs K hK=>DY H4.out.m o a wx ho (pH (5, .pointer (some ⟨w.heap.size,0,none⟩)) (by simp)) uB hs K fun v w' h=>hK v w' h) (fun a wx kG hsz pH hP=>?_) rfl rfl ?_ ?_)
      rotate_left
      · intro x hx
        simp at hx
        rcases hx with rfl | rfl | rfl | rfl <;> rfl
      · exact ⟨rfl,rfl,rfl,dx _,fun _ _=>rfl⟩
      obtain ⟨wz,yi,rfl⟩:=hP
      have f0:a.tmps[0]? = some (.pointer (some ⟨sb,13,none⟩)):=pH (0, .pointer (some ⟨sb,13,none⟩)) (by simp)
      have f1:a.tmps[1]? = some (.string (strOfNums d)):=pH (1, .string (strOfNums d)) (by simp)
      have f5:a.tmps[5]? = some (.pointer (some ⟨w.heap.size,0,none⟩)):=pH (5, .pointer (some ⟨w.heap.size,0,none⟩)) (by simp)
      have f7:=pH (7,_) (by simp;rfl)
      obtain ⟨tm,df⟩:=a
      simp only at kG hsz f0 f1 f5 f7
      subst kG
      obtain ⟨k0,k1,k2,k3,k4,k5,k6,k7,k8,k9,T5,T6,T7,T8,T9,Ua,Ub,Uc,Ud,Ue,Uf,Ug,Uh,Ui,Uj,Uk,Ul,Um,Un,Uo,Up,Uq,Ur,Us,Ut,Uu,Uv,Uw,Ux,Uy,Uz,UA,UB,UC,UD,UE,UF,UG,UH,UI,UJ,UK,UL,UM,UN,UO,UP,UQ,UR,US,UT,UU,rfl⟩:=O0 hsz
      simp only [fR,gx,fS,dR] at f0 f1 f5 f7
      subst f0 f1 f5 f7
      have Eg:Hid (lU q w wz base tb sb w.heap.size now sv sent cl ov (S.setIfInBounds 13 (.slice (some ⟨g,0,none⟩) N cp)) (.slice (some ⟨g,0,none⟩) N cp) Y #[.int .i64 0, .string (strOfNums [])]):=⟨H4.out.tp.below yi,(yi.block _ (dp.1 H4.out.m).1).trans H4.out.m,H4.out.rest.trans (kh.below yi l4.2.2),H4.out.hr,H4.out.mf,H4.out.ux⟩
      have k5:=(Eg.out.vl 0 (.int .i64 qA)).vl 1 (.string (strOfNums b))
      clear H4 Eg Az AA yi vm Ay uy pH
      simp only [ik,iu,iq] at k5
      generalize ((wz.setCell ⟨w.heap.size,0,none⟩ (.int .i64 qA)).setCell ⟨w.heap.size,1,none⟩ (.string (strOfNums b)))=w5 at k5 ⊢
      obtain ⟨O8,O9⟩:=k5.kJ
      have n0:=jV k5.m 0
      have n1:=jV k5.m 1
      have q0:=kK k5.m 0
      have q1:=kK k5.m 1
      simp at n0 n1
      have K5:Hid (_):=k5
      clear k5
      go_wp2_with fail
      have k6:=K5.out.OX (by rw [gG];exact HS.out) (g:=g) (c:=cp) (by rw [vn.out])
      rw [Array.setIfInBounds_setIfInBounds] at k6
      clear K5 n0 n1 q0 q1 O8 O9
      generalize (w5.setCell ⟨sb,13,none⟩ (.slice (some ⟨g,0,none⟩) 0 cp))=w6 at k6 ⊢
      have n0:=jV k6.m 0
      have n1:=jV k6.m 1
      have q0:=kK k6.m 0
      have q1:=kK k6.m 1
      simp at n0 n1
      have K6:Hid (_):=k6
      clear k6
      go_region
      all_goals
        have k7:=((K6.out.vl 0 (.int .i64 qA)).vl 1 (.string (strOfNums b))).drew
        clear K6 n0 n1 q0 q1
        simp only [ik,iu,iq] at k7
        generalize (((w6.setCell ⟨w.heap.size,0,none⟩ (.int .i64 qA)).setCell ⟨w.heap.size,1,none⟩ (.string (strOfNums b)))).drew=w7 at k7 ⊢
        have n0:=jV k7.m 0
        have n1:=jV k7.m 1
        simp at n0 n1
        go_wp2_with fail
        first
          | (refine iZ (v:=.tuple #[.string (strOfNums (d.drop m)), .agg #[.int .i64 qA, .string (strOfNums b)], .bool true]) (by simp [results,Tryz.results156,go_sem,n0,n1]) rfl ?_;rw [Hc.out];exact ⟨k7.rest,rfl,_,k7.tp⟩)
          | (refine iZ (v:=.tuple #[.string ByteArray.empty, .agg #[.int .i64 qA, .string (strOfNums b)], .bool true]) (by simp [results,Tryz.results156,go_sem,n0,n1]) rfl ?_;rw [Hc.out,List.drop_length];exact ⟨k7.rest,rfl,_,k7.tp⟩)
theorem Pa(h:ko q w base tb sb now sv sent cl ov S pv xs)(hS:S.size=14)(a:oo xs)(hd:Bytes d)(b:0<d.length)(c:d.length≤1152921504606846976):Calls Tryz.prog 156 #[.pointer (some ⟨sb,13,none⟩),.string (strOfNums d)] w fun e w'=>D1 q w base tb sb now sv sent cl ov S (d.drop (lN xs d)) (nP xs d) e w':=by
 refine O1 h hS a hd b c rfl rfl ?_;have:=a.want;unfold lN;omega
end
end
end Go.Proofs.YtjnkcibpkkjniaaGreat
