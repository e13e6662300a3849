import Derived.Test.YtjnkcibpkkjniaaGreatA00
import Derived.Test.YtjnkcibpkkjniaaGreatA08
import Derived.Deep.Cut
set_option linter.all false
set_option maxHeartbeats 4000000
set_option maxRecDepth 100000
namespace Go.Proofs.YtjnkcibpkkjniaaGreat
section
open Go Go.RowKit
open Go.Proofs.YtjnkcibpkkjniaaGreat.kN (lh lO oL)
variable {q:Option Nat}
structure nw (xs:List Int):Prop where
 bytes:Bytes xs
 ok:19≤xs.length→m9 (xs.take 19)=none∧(xs.length:Int)<lr xs
theorem Bf{h:List Int}(e:m9 h=none):19≤lr h∧lr h≤4096:=by
 unfold m9 at e;split at e
 ·split at e
  ·cases e
  ·omega
 ·cases e
variable {xs:List Int}
theorem nw.len(h:nw xs):xs.length<4096:=by
 by_cases a:19≤xs.length
 ·obtain⟨c,f⟩:=h.ok a;have e:=(Bf c).2;rw[tZ xs a]at e;omega
 ·omega
theorem nw.want(h:nw xs):0<lg xs∧lg xs≤4096:=by
 unfold lg;split
 ·omega
 ·rename_i e;obtain⟨a,f⟩:=h.ok (by omega);have c:=(Bf a).2;rw[tZ xs (by omega)]at c;omega
def kU (xs d:List Int):Nat:=min (lg xs).toNat d.length
inductive Bg
 |bad (t:mN) (ys:List Int)
 |more (ys:List Int)
 |whole (k:Int) (b:List Int)
def qM (ys:List Int):Bg :=
 match(if ys.length=19 then m9 (ys.take 19) else none)with
 |some t=>.bad t ys
 |none=>if 0<lg ys then .more ys else .whole (mF ys) (ys.drop 19)
def my (xs d:List Int):Bg:=qM (xs++d.take (kU xs d))
theorem Q9{C:Array Value}(h:C.size=62):∃k0 k1 k2 k3 k4 k5 k6 k7 k8 k9 a c e f g i j m o r u x y z E F G I J K L M N R U V W X Y Z aa ab ad ae af ag ah ai aj ak al am an ao ap aq ar av aw ax ay az,C=#[k0,k1,k2,k3,k4,k5,k6,k7,k8,k9,a,c,e,f,g,i,j,m,o,r,u,x,y,z,E,F,G,I,J,K,L,M,N,R,U,V,W,X,Y,Z,aa,ab,ad,ae,af,ag,ah,ai,aj,ak,al,am,an,ao,ap,aq,ar,av,aw,ax,ay,az]:=by
 obtain⟨l⟩:=C
 match l,h with
 |k0::k1::k2::k3::k4::k5::k6::k7::k8::k9::a::c::e::f::g::i::j::m::o::r::u::x::y::z::E::F::G::I::J::K::L::M::N::R::U::V::W::X::Y::Z::aa::ab::ad::ae::af::ag::ah::ai::aj::ak::al::am::an::ao::ap::aq::ar::av::aw::ax::ay::az::[],_=>exact⟨_,_,_,_,_,_,_,_,_,_,_,_,_,_,_,_,_,_,_,_,_,_,_,_,_,_,_,_,_,_,_,_,_,_,_,_,_,_,_,_,_,_,_,_,_,_,_,_,_,_,_,_,_,_,_,_,_,_,_,_,_,_,rfl⟩
def E6 (q:Option Nat) (w:World) (base tb sb:Nat) (now:Int) (sv:Value) (sent:List Int) (cl ov:Bool) (S:Array Value) (r:List Int) (x:Bg) (e:Ending) (w':World):Prop :=
 kC q base tb sb w w'∧match x with
  | .bad t ys=>e=.panicked [{ v:=t.val,recovered:=false }]∧∃ua,kH q w' base tb sb now sv sent cl ov (S.setIfInBounds 13 ua) ua ys
  | .more ys=>e=.returned (.tuple #[.string (strOfNums r),.agg #[.int .i64 0,.string (strOfNums [])],.bool false])∧∃ua,kH q w' base tb sb now sv sent cl ov (S.setIfInBounds 13 ua) ua ys
  | .whole k b=>e=.returned (.tuple #[.string (strOfNums r),.agg #[.int .i64 k,.string (strOfNums b)],.bool true])∧∃ua,kH q w' base tb sb now sv sent cl ov (S.setIfInBounds 13 ua) ua []
section
variable {w:World} {base tb sb:Nat} {now:Int} {sv:Value} {sent:List Int} {cl ov:Bool} {S:Array Value} {pv:Value} {xs:List Int}
variable {d:List Int}
theorem Ra (h:kH q w base tb sb now sv sent cl ov S pv xs) (hS:S.size=14) (tK:nw xs) (hd:Bytes d) (UZ:0 < d.length) (U0:d.length≤1152921504606846976)
    {W:Int} {m:Nat} (hW:lg xs=W) (hm:m=kU xs d) (hc:(m=d.length∧(d.length:Int) < W)∨(W=(m:Int)∧m≤d.length)) :
    Calls Tryz.prog 156 #[.pointer (some ⟨sb,13,none⟩), .string (strOfNums d)] w fun e w'=>E6 q w base tb sb now sv sent cl ov S (d.drop (kU xs d)) (my xs d) e w':=by
  have HN:Hid (mG q w (w.alloc (.cells #[.int .i64 0, .string (strOfNums [])] 247)) base tb sb w.heap.size now sv sent cl ov S pv xs #[.int .i64 0, .string (strOfNums [])]):=mG.start h _
  have HS:Hid (_):=hS
  have hw:=tK.want
  have U1:=tK.len
  have U2:Hid (_):=tK
  have U3:0 < m∧m≤d.length∧(m:Int)≤W∧m≤4096:=by rw [←hW,hm];unfold kU;omega
  have HT:Hid ((d.take m).length=m):=by show _=_;rw [jw];omega
  have HB:Hid (Bytes (d.take m)):=fun x hx=>hd x (jy hx)
  have E7:Hid (Calls Tryz.prog 166 #[.pointer (some ⟨sb,13,none⟩)] (w.alloc (.cells #[.int .i64 0, .string (strOfNums [])] 247)) fun e w'=>e=.returned (.int .i64 W)∧∃ m,w'=(w.alloc (.cells #[.int .i64 0, .string (strOfNums [])] 247)).drewN m):=by
    rw [←hW]
    by_cases hl:xs.length < 19
    · exact EO HN.out.lf.1 HN.out.tp.own hl
    · exact EP HN.out.lf.1 HN.out.tp.own tK.bytes (by omega) (by omega)
  have kz:=jf
  have ks:(strOfNums d).extract 0 m=strOfNums (d.take m):=by rw [rh];simp
  have U4:(strOfNums d).extract m d.length=strOfNums (d.drop m):=by
    rw [rh]
    congr 1
    exact ig (by simp)
  have kd:(m:Int)≤(d.length:Int):=by omega
  obtain ⟨i0,hi,xC,E8,E9⟩:=Ep
  have Rb:Hid (∀ u∈(Value.int .u8 0).cells.toList,Pl u):=fun u hu=>by simp [Value.cells] at hu;subst hu;exact Pl.int _ _
  have HI:Hid (_):=hi
  have HZ:Hid (i0.zero=some (.int .u8 0)∧i0.size=1∧i0.bytes=1):=⟨xC,E8,E9⟩
  have xD:Hid (Bytes (xs++d.take m)):=tK.bytes.app HB.out
  have Bh:Hid ((xs++d.take m).length=xs.length+m∧xs.length+m≤8192∧(19≤xs.length+m→lg (xs++d.take m)=lr (xs++d.take m) - ((xs.length+m:Nat):Int))∧(19 < xs.length+m→((xs.length+m:Nat):Int)≤lr (xs++d.take m))):=by
    have e:(xs++d.take m).length=xs.length+m:=by rw [jh,HT.out]
    refine ⟨e,by omega,fun xE=>?_,fun xE=>?_⟩
    · unfold lg;rw [dt (by omega),e]
    · by_cases hl:xs.length < 19
      · have:W=19 - (xs.length:Int):=by rw [←hW];unfold lg;rw [dr hl]
        omega
      · have e2:W=lr xs - (xs.length:Int):=by rw [←hW];unfold lg;rw [dt hl]
        have e3:lr (xs++d.take m)=lr xs:=by
          rw [←tZ (xs++d.take m) (by omega),←tZ xs (by omega),jM (by omega)]
        rw [e3]
        omega
  obtain ⟨Y,yQ⟩:∃ Y,Y=xs++d.take m:=⟨_,rfl⟩
  obtain ⟨N,Bi⟩:∃ N,N=xs.length+m:=⟨_,rfl⟩
  have U5:0 < N:=by omega
  unfold my
  rw [←hm]
  rw [←yQ,←Bi] at Bh
  rw [←yQ] at xD ⊢
  have Fa:Hid (_):=yQ
  have tq:Hid (_):=Bi
  clear yQ Bi
  clear h hS tK hi xC E8 E9 hd hm hw hW
  rcases hc with ⟨rfl,U6⟩ | ⟨rfl,hle⟩
  all_goals
    go_enter Tryz.func156,Tryz.ntmps156
    go_wp2_with (go_at_call 166;go_loud (refine E7.out.mono ?_);go_loud (rintro e w1 ⟨rfl,mm,hw⟩);go_loud (have H1:Hid (mG q w w1 base tb sb w.heap.size now sv sent cl ov S pv xs #[.int .i64 0, .string (strOfNums [])]):=by rw [hw];exact HN.out.drewN mm);go_loud (obtain ⟨lf,Bj⟩:=H1.out.lf);clear hw)
  all_goals
    go_region_law (go_loud (refine Q2 rfl (.tmp 17) (.tmp 20) 86 9 rfl 0 5 i0 (.int .u8 0) Tryz.underlying86 Tryz.underlying9 HI.out HZ.out.1 HZ.out.2.1 HZ.out.2.2 rfl pv xs.length (cellsOf xs) (by simp [Act.eval]) (by repeat (first | exact H1.out.tp.own | refine World.ownsRow.drew ?_)) (d.take _) (by simp [Act.eval] <;> exact ks) HB.out (by rw [HT.out];omega) (eP _) Rb.out (H1.out.tp.pl) ?_);go_loud (intro v' w2 hown2 hg2 Fb Fc);go_loud (obtain ⟨ao,cp,rfl,_⟩:=mV hown2);go_loud (obtain ⟨d13,Rc⟩:=mG.Q7 H1.out.drew hg2);go_loud (have H2:Hid (mG q w (w2.setCell ⟨sb,13,none⟩ (.slice ao (xs.length+(d.take _).length) cp)) base tb sb w.heap.size now sv sent cl ov (S.setIfInBounds 13 (.slice ao (xs.length+(d.take _).length) cp)) (.slice ao (xs.length+(d.take _).length) cp) (xs++d.take _) #[.int .i64 0, .string (strOfNums [])]):=mG.taken H1.out.drew HS.out hown2 hg2 Fb Fc);clear hown2 hg2 Fb Fc)
  all_goals
    rw [HT.out] at H2
    have Re:=Bh.out
    clear Bh
    rw [←tq.out,←Fa.out] at H2
    rw [←tq.out]
    obtain ⟨sO,Bl,xF,yR⟩:=Re
    have H3:=H2.out
    clear H2 H1 lf Bj d13 Rc E7 HN HI HZ
    obtain ⟨g,c,e,U7,Fe⟩:=Bc H3.tp.own (by omega)
    rw [sO] at e
    cases e
    generalize (w2.setCell ⟨sb,13,none⟩ (.slice (some ⟨g,0,none⟩) N cp))=w3 at H3 Fe ⊢
    obtain ⟨lf,Bj⟩:=H3.lf
    have wb:Hid (Calls Tryz.prog 166 #[.pointer (some ⟨sb,13,none⟩)] w3 fun e w'=>e=.returned (.int .i64 (lg Y))∧∃ m,w'=w3.drewN m):=by
      by_cases hl:Y.length < 19
      · exact EO lf H3.tp.own hl
      · exact EP lf H3.tp.own xD.out (by omega) (by omega)
    have u9:Hid (_):=H3
    clear H3 Fe Fa tq
    by_cases hN:N=19
    case' pos =>
      have hn:((N:Int) == 19)=true:=by rw [hN];rfl
      have eY:Y.take 19=Y:=ig (by omega)
      have Bm:Hid (Calls Tryz.prog 168 #[.pointer (some ⟨sb,13,none⟩)] w3 fun e w'=>e=.returned (.string (strOfNums Y))∧w'=w3):=by
        have:=Bd (xs:=Y) lf u9.out.tp.own (by omega)
        rw [eY] at this
        exact this
      rcases vd:m9 Y with _ | t
      rotate_left
      · have yS:Hid (Calls Tryz.prog 167 #[.string (strOfNums Y)] w3 fun e w'=>e=.panicked [{ v:=t.val,recovered:=false }]∧w'=w3):=by
          have:=ET xD.out (sO.trans hN) w3
          rw [vd] at this
          exact this.mono fun e w' h=>⟨h.2,h.1⟩
        have ub:qM Y=.bad t Y:=by unfold qM;rw [dr (sO.trans hN),eY,vd]
        have ve:Hid (_):=ub
        clear ub vd sO Bl xF yR wb
        go_wp2_with (first
          | (go_at_call 168;go_loud (refine Bm.out.mono ?_);go_loud (rintro e w4 ⟨rfl,rfl⟩))
          | (go_at_call 167;go_loud (refine yS.out.mono ?_);go_loud (rintro e w4 ⟨rfl,rfl⟩)))
        rw [ve.out]
        exact ⟨rfl,u9.out.rest,rfl,_,u9.out.tp⟩
      have yS:Hid (Calls Tryz.prog 167 #[.string (strOfNums Y)] w3 fun e w'=>(∃ v,e=.returned v)∧w'=w3):=by
        have:=ET xD.out (sO.trans hN) w3
        rw [vd] at this
        exact this.mono fun e w' h=>⟨h.2,h.1⟩
      have ub:qM Y=if 0 < lg Y then .more Y else .whole (mF Y) (Y.drop 19):=by unfold qM;rw [dr (sO.trans hN),eY,vd]
      have Bn:0≤lg Y:=by have:=(Bf vd).1;have:=xF (by omega);omega
      have ve:Hid (_):=ub
      have yT:19≤N∨0 < lg Y:=.inl (by omega)
      clear ub vd eY
      go_upto_region 5 with (first
        | (go_at_call 168;go_loud (refine Bm.out.mono ?_);go_loud (rintro e w4 ⟨rfl,rfl⟩))
        | (go_at_call 167;go_loud (refine yS.out.mono ?_);go_loud (rintro e w4 ⟨⟨v4,rfl⟩,rfl⟩)))
      clear Bm yS
    case' neg =>
      have ub:qM Y=if 0 < lg Y then .more Y else .whole (mF Y) (Y.drop 19):=by unfold qM;rw [dt (by omega)]
      have Bn:0≤lg Y:=by
        by_cases xE:N < 19
        · unfold lg;rw [dr (by omega)];omega
        · have:=xF (by omega);have:=yR (by omega);omega
      have hn:((N:Int) == 19)=false:=by simp;omega
      have ve:Hid (_):=ub
      have yT:19≤N∨0 < lg Y:=by
        by_cases xE:N < 19
        · right;unfold lg;rw [dr (by omega)];omega
        · left;omega
      clear ub
      go_upto_region 5 with fail
      clear hn
  all_goals
    clear lf Bj
    by_cases hp:0 < lg Y
    case' pos =>
      have Hc:Hid (qM Y=.more Y):=by show _=_;rw [ve.out,dr hp]
      clear ve Bn yT sO Bl xF yR
      go_wp2_with (go_at_call 166;go_loud (refine wb.out.mono ?_);go_loud (rintro e w4 ⟨rfl,m4,xG⟩);go_loud (have H4:Hid (mG q w w4 base tb sb w.heap.size now sv sent cl ov (S.setIfInBounds 13 (.slice (some ⟨g,0,none⟩) N cp)) (.slice (some ⟨g,0,none⟩) N cp) Y #[.int .i64 0, .string (strOfNums [])]):=by rw [xG];exact u9.out.drewN m4);go_loud (have n0:=kh H4.out.m 0);go_loud (have n1:=kh H4.out.m 1);go_loud (have q0:=lj H4.out.m 0);go_loud (have q1:=lj H4.out.m 1);simp at n0 n1;clear xG)
      have k5:=(H4.out.wa 0 (.int .i64 0)).wa 1 (.string (strOfNums []))
      clear H4 u9 wb n0 n1 q0 q1
      simp only [iz,iB,iA] at k5
      have es:(⟨#[]⟩:ByteArray)=strOfNums []:=rfl
      rw [es]
      generalize ((w4.setCell ⟨w.heap.size,0,none⟩ (.int .i64 0)).setCell ⟨w.heap.size,1,none⟩ (.string (strOfNums [])))=w5 at k5 ⊢
      have n0:=kh k5.m 0
      have n1:=kh k5.m 1
      simp at n0 n1
      first
        | (refine iQ (v:=.tuple #[.string (strOfNums (d.drop m)), .agg #[.int .i64 0, .string (strOfNums [])], .bool false]) (by simp [results,Tryz.results156,go_sem,n0,n1]) rfl ?_;rw [Hc.out];exact ⟨k5.rest,rfl,_,k5.tp⟩)
        | (refine iQ (v:=.tuple #[.string ByteArray.empty, .agg #[.int .i64 0, .string (strOfNums [])], .bool false]) (by simp [results,Tryz.results156,go_sem,n0,n1]) rfl ?_;rw [Hc.out,jN];exact ⟨k5.rest,rfl,_,k5.tp⟩)
    case' neg =>
      have Ff:19≤N:=yT.resolve_right hp
      have xC:lg Y=0:=by omega
      have Hc:Hid (qM Y=.whole (mF Y) (Y.drop 19)):=by show _=_;rw [ve.out,dt hp]
      rw [xC] at wb
      obtain ⟨b,hb⟩:∃ b,b=Y.drop 19:=⟨_,rfl⟩
      obtain ⟨rj,hk⟩:∃ k,k=mF Y:=⟨_,rfl⟩
      rw [←hb,←hk] at Hc
      have Fg:b.length=N - 19:=by rw [hb,jx,sO]
      have tq:Hid (19≤N∧b.length=N - 19):=⟨Ff,Fg⟩
      have Rf:Hid (_):=hb
      have Bo:Hid (∀ w,Calls Tryz.prog 169 #[.string (strOfNums (Y.take 19))] w fun e w'=>e=.returned (.int .i64 rj)∧w'=w):=fun w=>by
        refine EL (Y.take 19) (fun x hx=>xD.out x (jy hx)) rj ?_ w
        rw [hk]
        unfold mF
        rw [jF (by omega),jK,jH (by omega)]
        rfl
      have wc:Hid (_):=sO
      clear ve Bn yT sO Bl xF yR hp xC hb hk Ff Fg
      go_upto_region 7 with (go_at_call 166;go_loud (refine wb.out.mono ?_);go_loud (rintro e w4 ⟨rfl,m4,xG⟩);go_loud (have H4:Hid (mG q w w4 base tb sb w.heap.size now sv sent cl ov (S.setIfInBounds 13 (.slice (some ⟨g,0,none⟩) N cp)) (.slice (some ⟨g,0,none⟩) N cp) Y #[.int .i64 0, .string (strOfNums [])]):=by rw [xG];exact u9.out.drewN m4);clear xG)
      have l4:=H4.out.tp.ts.lt
      have Bp:∀ wx,Below w4.heap.size w4 wx→Calls Tryz.prog 168 #[.pointer (some ⟨sb,13,none⟩)] wx fun e w'=>e=.returned (.string (strOfNums (Y.take 19)))∧w'=wx:=fun wx hB=>by
        have k:=H4.out.tp.below hB
        exact Bd (xs:=Y) ((kh k.ts.s 13).trans k.lf) k.own (by rw [wc.out];exact tq.out.1)
      have Fh:N≤cp:=by
        have:=(H4.out.tp.own).2
        rcases this with ⟨e,_⟩ | ⟨g',c',cur,e,_,_,Fi,_⟩
        · cases e
        · cases e;rw [wc.out] at Fi;exact Fi
      have Bq:∀ wx,Below w4.heap.size w4 wx→(convert 86 9 (.slice (if cp=19 then some ⟨g,0,none⟩ else some ⟨g,19,none⟩) (N - 19) (cp - 19))).run Tryz.prog wx=.ok (.string (strOfNums b)) wx:=fun wx hB=>by
        have k:=H4.out.tp.below hB
        obtain ⟨g',c',e',U8,Rg⟩:=Bc k.own (by rw [wc.out];have:=tq.out.1;omega)
        rw [wc.out] at e'
        cases e'
        have xE:=tq.out
        by_cases Fj:cp=19
        · have Rh:b=[]:=js (by omega)
          rw [dr Fj,Rh,show N - 19=0 by omega]
          exact E5 _ _ _ _
        · rw [dt Fj]
          refine jg wx 86 5 Tryz.underlying86 Tryz.underlying5 g 19 (N - 19) (cp - 19) b xE.2 (fun i hi=>?_) 9 Tryz.underlying9
          have Fl:19+i < Y.length:=by rw [wc.out];omega
          rw [Rg (19+i) Fl]
          have h2:b[i]? = Y[19+i]?:=by rw [Rf.out,jG]
          have Fo:i < b.length:=by omega
          rw [jH Fo,jH Fl] at h2
          rw [←ff h2]
          simp [List.getD,jH Fo]
      first
        | (refine oL (D:=_) (ops:=rP) (val:=qe sb g N cp (Y.take 19) b rj) (fix:=[(0, .pointer (some ⟨sb,13,none⟩)),(1, .string (strOfNums d)),(5, .pointer (some ⟨w.heap.size,0,none⟩)),(7, .int .i64 (m:Int))]) (T:=62) (w0:=w4) (Post:=fun (_:Act) (w':World)=>∃ wz,Below w4.heap.size w4 wz∧w'=(wz.setCell ⟨w.heap.size,0,none⟩ (.int .i64 rj)).setCell ⟨w.heap.size,1,none⟩ (.string (strOfNums b))) (n:=10) (by kernel_rfl) E0 E1 E2 EZ
              (fun i o a wx hi ho qf vf hs K hK=>E3 (by omega) H4.out.lf.1 tq.out.1 Fh Bp Bo.out Bq i o a wx hi ho (qf (0, .pointer (some ⟨sb,13,none⟩)) (by simp)) vf hs K hK)
              (fun o a wx ho qf vf hs K hK=>E4 H4.out.m o a wx ho (qf (5, .pointer (some ⟨w.heap.size,0,none⟩)) (by simp)) vf hs K fun v w' h=>hK v w' h) (fun a wx kW hsz qf hP=>?_) rfl rfl ?_ ?_)
        | (refine oL (D:=_) (ops:=rP) (val:=qe sb g N cp (Y.take 19) b rj) (fix:=[(0, .pointer (some ⟨sb,13,none⟩)),(1, .string (strOfNums d)),(5, .pointer (some ⟨w.heap.size,0,none⟩)),(7, .int .i64 (d.length:Int))]) (T:=62) (w0:=w4) (Post:=fun (_:Act) (w':World)=>∃ wz,Below w4.heap.size w4 wz∧w'=(wz.setCell ⟨w.heap.size,0,none⟩ (.int .i64 rj)).setCell ⟨w.heap.size,1,none⟩ (.string (strOfNums b))) (n:=10) (by kernel_rfl) E0 E1 E2 EZ
              (fun i o a wx hi ho qf vf hs K hK=>E3 (by omega) H4.out.lf.1 tq.out.1 Fh Bp Bo.out Bq i o a wx hi ho (qf (0, .pointer (some ⟨sb,13,none⟩)) (by simp)) vf hs K hK)
              (fun o a wx ho qf vf hs K hK=>E4 H4.out.m o a wx ho (qf (5, .pointer (some ⟨w.heap.size,0,none⟩)) (by simp)) vf hs K fun v w' h=>hK v w' h) (fun a wx kW hsz qf hP=>?_) rfl rfl ?_ ?_)
      rotate_left
      · intro x hx
        simp at hx
        rcases hx with rfl | rfl | rfl | rfl <;> rfl
      · exact ⟨rfl,rfl,rfl,dD _,fun _ _=>rfl⟩
      obtain ⟨wz,yU,rfl⟩:=hP
      have f0:a.tmps[0]? = some (.pointer (some ⟨sb,13,none⟩)):=qf (0, .pointer (some ⟨sb,13,none⟩)) (by simp)
      have f1:a.tmps[1]? = some (.string (strOfNums d)):=qf (1, .string (strOfNums d)) (by simp)
      have f5:a.tmps[5]? = some (.pointer (some ⟨w.heap.size,0,none⟩)):=qf (5, .pointer (some ⟨w.heap.size,0,none⟩)) (by simp)
      have f7:=qf (7,_) (by simp;rfl)
      obtain ⟨tm,df⟩:=a
      simp only at kW hsz f0 f1 f5 f7
      subst kW
      obtain ⟨k0,k1,k2,k3,k4,k5,k6,k7,k8,k9,U9,Va,Vb,Vd,Ve,Vf,Vg,Vh,Vi,Vj,Vk,Vl,Vm,Vn,Vo,Vp,Vq,Vr,Vs,Vt,Vu,Vv,Vw,Vx,Vy,Vz,VA,VB,VC,VD,VE,VG,VH,VI,VJ,VK,VL,VM,VN,VO,VP,VQ,VS,VT,VU,VV,VW,VX,VY,VZ,V1,V2,rfl⟩:=Q9 hsz
      simp only [fV,gB,fW,dW] at f0 f1 f5 f7
      subst f0 f1 f5 f7
      have Fp:Hid (mG q w wz base tb sb w.heap.size now sv sent cl ov (S.setIfInBounds 13 (.slice (some ⟨g,0,none⟩) N cp)) (.slice (some ⟨g,0,none⟩) N cp) Y #[.int .i64 0, .string (strOfNums [])]):=⟨H4.out.tp.below yU,(yU.block _ (dv.1 H4.out.m).1).trans H4.out.m,H4.out.rest.trans (kC.below yU l4.2.2),H4.out.hr,H4.out.mS,H4.out.u7⟩
      have k5:=(Fp.out.wa 0 (.int .i64 rj)).wa 1 (.string (strOfNums b))
      clear H4 Fp Bp Bq yU wb Bo u9 qf
      simp only [iz,iB,iA] at k5
      generalize ((wz.setCell ⟨w.heap.size,0,none⟩ (.int .i64 rj)).setCell ⟨w.heap.size,1,none⟩ (.string (strOfNums b)))=w5 at k5 ⊢
      obtain ⟨Ri,Rj⟩:=k5.lf
      have n0:=kh k5.m 0
      have n1:=kh k5.m 1
      have q0:=lj k5.m 0
      have q1:=lj k5.m 1
      simp at n0 n1
      have K5:Hid (_):=k5
      clear k5
      go_wp2_with fail
      have k6:=K5.out.Q6 (by rw [gK];exact HS.out) (g:=g) (c:=cp) (by rw [wc.out])
      rw [Array.setIfInBounds_setIfInBounds] at k6
      clear K5 n0 n1 q0 q1 Ri Rj
      generalize (w5.setCell ⟨sb,13,none⟩ (.slice (some ⟨g,0,none⟩) 0 cp))=w6 at k6 ⊢
      have n0:=kh k6.m 0
      have n1:=kh k6.m 1
      have q0:=lj k6.m 0
      have q1:=lj k6.m 1
      simp at n0 n1
      have K6:Hid (_):=k6
      clear k6
      go_region
      all_goals
        have k7:=((K6.out.wa 0 (.int .i64 rj)).wa 1 (.string (strOfNums b))).drew
        clear K6 n0 n1 q0 q1
        simp only [iz,iB,iA] at k7
        generalize (((w6.setCell ⟨w.heap.size,0,none⟩ (.int .i64 rj)).setCell ⟨w.heap.size,1,none⟩ (.string (strOfNums b)))).drew=w7 at k7 ⊢
        have n0:=kh k7.m 0
        have n1:=kh k7.m 1
        simp at n0 n1
        go_wp2_with fail
        first
          | (refine iQ (v:=.tuple #[.string (strOfNums (d.drop m)), .agg #[.int .i64 rj, .string (strOfNums b)], .bool true]) (by simp [results,Tryz.results156,go_sem,n0,n1]) rfl ?_;rw [Hc.out];exact ⟨k7.rest,rfl,_,k7.tp⟩)
          | (refine iQ (v:=.tuple #[.string ByteArray.empty, .agg #[.int .i64 rj, .string (strOfNums b)], .bool true]) (by simp [results,Tryz.results156,go_sem,n0,n1]) rfl ?_;rw [Hc.out,jN];exact ⟨k7.rest,rfl,_,k7.tp⟩)
theorem Rk(h:kH q w base tb sb now sv sent cl ov S pv xs)(hS:S.size=14)(a:nw xs)(hd:Bytes d)(c:0<d.length)(f:d.length≤1152921504606846976):Calls Tryz.prog 156 #[.pointer (some ⟨sb,13,none⟩),.string (strOfNums d)] w fun e w'=>E6 q w base tb sb now sv sent cl ov S (d.drop (kU xs d)) (my xs d) e w':=by
 refine Ra h hS a hd c f rfl rfl ?_;have:=a.want;unfold kU;omega
end
end
section
open Go Go.RowKit
open Go.Proofs.YtjnkcibpkkjniaaGreat.kN (lh lO oL)
def ox (b:List Int) (A:Int):Option mN :=
 if b.getD 0 0≠4 then some ⟨2,1,ly 4⟩
 else if mM ((b.drop 1).take 2)≠A then some ⟨2,2,[]⟩
 else if mM ((b.drop 3).take 2)≠0∧mM ((b.drop 3).take 2)<3 then some ⟨2,6,[]⟩
 else if mM ((b.drop 5).take 4)=0 then some ⟨2,3,[]⟩
 else if b.getD 9 0≠0∨10<b.length then some ⟨2,4,[]⟩
 else none
def pB (w:World) (b:List Int) (A:Int) (e:Ending) (w':World):Prop :=
 Below w.heap.size w w'∧match ox b A with
  |some t=>e=.panicked [{ v:=t.val,recovered:=false }]
  |none=>e=.returned (.agg #[.int .i64 (mM ((b.drop 1).take 2)),.int .i64 (mM ((b.drop 3).take 2)),.int .u32 (mM ((b.drop 5).take 4))])
variable {b:List Int}
theorem Rm{Q:Exit→Act→World→Prop}{r u x:List Int}{n1 n2 n3:Int}{w0:World}(hlen:10≤b.length)(s1:(strOfNums b).extract 1 3=strOfNums r)(s2:(strOfNums b).extract 3 5=strOfNums u)(J:(strOfNums b).extract 5 9=strOfNums x)(w1:IntKind.i64.wrap n1=n1)(w2:IntKind.i64.wrap n2=n2)(L:∀xs:List Int,(strOfNums xs).size=xs.length)(z:∀w,Calls Tryz.prog 178 #[.string (strOfNums r)] w fun e w'=>e=.returned (.int .u32 n1)∧w'=w)(C:∀w,Calls Tryz.prog 178 #[.string (strOfNums u)] w fun e w'=>e=.returned (.int .u32 n2)∧w'=w)(E:∀w,Calls Tryz.prog 178 #[.string (strOfNums x)] w fun e w'=>e=.returned (.int .u32 n3)∧w'=w)(i:Nat)(o:Oper)(a:Act)(w:World)(M:i<13)(F:sN[i]?=some o)(h:a.tmps[0]?=some (Value.string (strOfNums b)))(c:∀(j:Nat)(o':Oper)(d:Nat),sN[j]?=some o'→o'.dst=some d→(∃e∈o.after,e.on=j∧Region.binds .any e=true)→∃v,a.tmps[d]?=some v∧pP b r u x n1 n2 n3 w0.heap.size j v w)(I:Below w0.heap.size w0 w)(K:Act→World→Prop)(g:∀v w',pP b r u x n1 n2 n3 w0.heap.size i v w'→Below w.heap.size w w'→K (a.put o.dst v) w'):o.wp Tryz.prog a w K Q:=by
 have f0:=h;have N:(3:Int)≤(b.length:Int):=by omega
 have R:(5:Int)≤(b.length:Int):=by omega
 have U:(9:Int)≤(b.length:Int):=by omega
 clear hlen;clear h;have z:Hid (∀w,_):=z;have C:Hid (∀w,_):=C;have E:Hid (∀w,_):=E;obtain rfl|rfl|rfl|rfl|rfl|rfl|rfl|rfl|rfl|rfl|rfl|rfl|rfl:i=0∨i=1∨i=2∨i=3∨i=4∨i=5∨i=6∨i=7∨i=8∨i=9∨i=10∨i=11∨i=12:=by omega
 all_goals
  simp only[sN,Tryz.f173]at F;simp only[fV,gB,fW,dW]at F;subst F
 all_goals try
  first
  |(unfold Oper.wp execOp;simp only[Act.eval,dA,f0,eE];go_simp;exact g _ _ rfl (iJ _ _))
  |(obtain⟨y,m,f⟩:=c _ _ _ (by rfl) (by rfl) ⟨_,⟨List.Mem.head _⟩,rfl,rfl⟩;simp only[pP]at f;subst f;unfold Oper.wp execOp;simp only[Act.eval,dA,m,eE];go_simp;exact g _ _ rfl (iJ _ _))
 ·obtain⟨y,m,f⟩:=c 1 _ _ rfl rfl ⟨⟨1,.data⟩,by simp,rfl,rfl⟩;simp only[pP]at f
  try subst f
  unfold Oper.wp execOp;simp only[];go_simp;refine(z.out w).mono ?_;rintro e w1 ⟨rfl,rfl⟩;exact g _ _ rfl (iJ _ _)
 ·obtain⟨y,m,f⟩:=c 5 _ _ rfl rfl ⟨⟨5,.data⟩,by simp,rfl,rfl⟩;simp only[pP]at f
  try subst f
  unfold Oper.wp execOp;simp only[];go_simp;refine(C.out w).mono ?_;rintro e w1 ⟨rfl,rfl⟩;exact g _ _ rfl (iJ _ _)
 ·obtain⟨y,m,f⟩:=c 9 _ _ rfl rfl ⟨⟨9,.data⟩,by simp,rfl,rfl⟩;simp only[pP]at f
  try subst f
  unfold Oper.wp execOp;simp only[];go_simp;refine(E.out w).mono ?_;rintro e w1 ⟨rfl,rfl⟩;exact g _ _ rfl (iJ _ _)
 ·obtain⟨y,m,f⟩:=c 3 _ _ rfl rfl ⟨⟨3,.data⟩,by simp,rfl,rfl⟩;simp only[pP]at f
  try subst f
  obtain⟨V,W,G⟩:=c 7 _ _ rfl rfl ⟨⟨7,.data⟩,by simp,rfl,rfl⟩;simp only[pP]at G
  try subst G
  obtain⟨X,Y,p2⟩:=c 10 _ _ rfl rfl ⟨⟨10,.data⟩,by simp,rfl,rfl⟩;simp only[pP]at p2
  try subst p2
  unfold Oper.wp execOp;simp only[Act.eval,dA];go_simp;exact g _ _ rfl (iJ _ _)
 ·unfold Oper.wp execOp;go_simp;exact g _ _ ⟨w.heap.size,rfl,I.size,jL w _⟩ ji
theorem Rn(hb:Bytes b)(hlen:10≤b.length)(A:Int)(w:World):Calls Tryz.prog 173 #[.string (strOfNums b),.int .i64 A] w fun e w'=>pB w b A e w':=by
 obtain⟨x1,e1⟩:∃x,(b.drop 1).take 2=x:=⟨_,rfl⟩;obtain⟨x2,e2⟩:∃x,(b.drop 3).take 2=x:=⟨_,rfl⟩;obtain⟨x3,e3⟩:∃x,(b.drop 5).take 4=x:=⟨_,rfl⟩;obtain⟨n1,m1⟩:∃n,mM x1=n:=⟨_,rfl⟩;obtain⟨n2,m2⟩:∃n,mM x2=n:=⟨_,rfl⟩;obtain⟨n3,m3⟩:∃n,mM x3=n:=⟨_,rfl⟩;obtain⟨v0,Y⟩:∃v,b[0]?=some v:=⟨_,jH (by omega)⟩;obtain⟨J,Z⟩:∃v,b[9]?=some v:=⟨_,jH (by omega)⟩;have g0:b.getD 0 0=v0:=by rw[jK,Y];rfl
 have g9:b.getD 9 0=J:=by rw[jK,Z];rfl
 have r:Hid (∀e w',pB w b A e w'↔(Below w.heap.size w w'∧match ox b A with
  |some t=>e=.panicked [{ v:=t.val,recovered:=false }]
  |none=>e=.returned (.agg #[.int .i64 n1,.int .i64 n2,.int .u32 n3]))):=fun e w'=>by unfold pB;rw[e1,e2,e3,m1,m2,m3]
 have u:Hid (ox b A=if v0≠4 then some ⟨2,1,ly 4⟩ else if n1≠A then some ⟨2,2,[]⟩ else if n2≠0∧n2<3 then some ⟨2,6,[]⟩ else if n3=0 then some ⟨2,3,[]⟩ else if J≠0∨10<b.length then some ⟨2,4,[]⟩ else none):=by
  show _=_;unfold ox;rw[g0,g9,e1,e2,e3,m1,m2,m3]
 clear g0 g9;have aa:Bytes x1:=fun x h=>by rw[←e1]at h;exact hb x (jz (jy h))
 have ab:Bytes x2:=fun x h=>by rw[←e2]at h;exact hb x (jz (jy h))
 have ae:Bytes x3:=fun x h=>by rw[←e3]at h;exact hb x (jz (jy h))
 have af:x1.length=2:=by rw[←e1];simp;omega
 have ag:x2.length=2:=by rw[←e2];simp;omega
 have aj:x3.length=4:=by rw[←e3];simp;omega
 have C1:∀w,Calls Tryz.prog 178 #[.string (strOfNums x1)] w fun e w'=>e=.returned (.int .u32 n1)∧w'=w:=fun w=>by rw[←m1];exact yP _ aa (by omega) w
 have C2:∀w,Calls Tryz.prog 178 #[.string (strOfNums x2)] w fun e w'=>e=.returned (.int .u32 n2)∧w'=w:=fun w=>by rw[←m2];exact yP _ ab (by omega) w
 have C3:∀w,Calls Tryz.prog 178 #[.string (strOfNums x3)] w fun e w'=>e=.returned (.int .u32 n3)∧w'=w:=fun w=>by rw[←m3];exact yP _ ae (by omega) w
 have kz:=jf;have s1:(strOfNums b).extract 1 3=strOfNums x1:=by rw[←e1];exact rh b 1 3
 have s2:(strOfNums b).extract 3 5=strOfNums x2:=by rw[←e2];exact rh b 3 5
 have s3:(strOfNums b).extract 5 9=strOfNums x3:=by rw[←e3];exact rh b 5 9
 have g1:=vZ aa;have g2:=vZ ab;rw[af,m1]at g1;rw[ag,m2]at g2;have w1:IntKind.i64.wrap n1=n1:=by rw[iC];omega
 have w2:IntKind.i64.wrap n2=n2:=by rw[iC];omega
 have ah:Hid (∀(w0:World)(Q:Exit→Act→World→Prop),_):=fun(w0:World) (Q:Exit→Act→World→Prop)=>Rm (Q:=Q) (w0:=w0) hlen s1 s2 s3 w1 w2 kz C1 C2 C3
 have q0:∀h:0<(strOfNums b).size,(((strOfNums b)[0]'h).toNat:Int)=v0:=fun h=>vY hb Y h
 have q9:∀h:9<(strOfNums b).size,(((strOfNums b)[9]'h).toNat:Int)=J:=fun h=>vY hb Z h
 have z0:0<(strOfNums b).size:=by rw[kz];omega
 have z9:9<(strOfNums b).size:=by rw[kz];omega
 have U:Hid (∀w,Calls Tryz.prog 164 #[.int .i64 4] w fun e w'=>e=.returned (.string (strOfNums (ly 4)))∧Below w.heap.size w w'):=fun w=>AZ 4 w
 have HR:Hid (_):=Be;have es:(⟨#[]⟩:ByteArray)=strOfNums []:=rfl;clear C1 C2 C3 s1 s2 s3 w1 w2 g1 g2 aa ab ae e1 e2 e3 m1 m2 m3 af ag aj Y Z;go_enter Tryz.func173,Tryz.ntmps173
 go_wp2_with fail
 refine oL (ops:=sN) (val:=pP b x1 x2 x3 n1 n2 n3 (w.alloc (.cells #[.int .i64 0,.int .i64 0,.int .u32 0] 245)).heap.size) (fix:=[(0,.string (strOfNums b)),(1,.int .i64 A),(4,.pointer (some ⟨w.heap.size,0,none⟩))]) (T:=56) (w0:=w.alloc (.cells #[.int .i64 0,.int .i64 0,.int .u32 0] 245)) (Post:=EU n1 n2 n3 (w.alloc (.cells #[.int .i64 0,.int .i64 0,.int .u32 0] 245)).heap.size (w.alloc (.cells #[.int .i64 0,.int .i64 0,.int .u32 0] 245))) (n:=13) (by kernel_rfl) QW QX QY QV
  (fun i o a w1 hi ho G L hs K hK=>ah.out _ _ i o a w1 hi ho (G (0,.string (strOfNums b)) (by simp)) L hs K hK) (fun o a w1 ho G L hs K hK=>QZ o a w1 ho L hs K hK) (fun a w1 kW hsz G hP=>?_) rfl rfl ?_ ?_
 ·have f0:a.tmps[0]?=some (.string (strOfNums b)):=G (0,.string (strOfNums b)) (by simp);obtain⟨bb,h5,p1,p2,hB⟩:=hP;have f1:a.tmps[1]?=some (.int .i64 A):=G (1,.int .i64 A) (by simp);have f4:a.tmps[4]?=some (.pointer (some ⟨w.heap.size,0,none⟩)):=G (4,.pointer (some ⟨w.heap.size,0,none⟩)) (by simp);obtain⟨tm,df⟩:=a;simp only at kW hsz f0 f1 f4 h5;subst kW;obtain⟨k0,k1,k2,k3,k4,k5,k6,k7,k8,k9,an,ao,ap,aq,ar,av,aw,ax,ay,az,aA,aB,aC,aD,aE,aF,aG,aH,aI,aJ,aK,aL,aM,aN,aO,aP,aQ,aR,aS,aT,aU,aV,aW,aX,aY,aZ,a0,a1,a2,a3,a4,a5,a6,a7,a8,a9,rfl⟩:=QU hsz;simp only[fV,gB,fW,dW]at f0 f1 f4 h5;subst f0 f1 f4 h5;have W:=(hB.block w.heap.size (by simp)).trans (jL w _);have c0:=kh p2 0;have c1:=kh p2 1;have c2:=kh p2 2;have d0:=kh W 0;have d1:=kh W 1;have d2:=kh W 2;have y0:=lj W 0;have y1:=lj W 1;have y2:=lj W 2;simp at c0 c1 c2 d0 d1 d2;have j:Below w.heap.size w w1:=jC ((iJ _ _).alloc (dD _) _) (hB.mono (by simp));have ai:Hid (_):=W;clear ah hB p2 W G
  by_cases m:v0≠4
  ·have ak:(v0 == 4)=false:=by simpa using m
   have c:ox b A=some ⟨2,1,ly 4⟩:=by rw[u.out,dr m]
   have y:Hid (∀e w',Below w.heap.size w w'→e=.panicked [{ v:=(mN.val ⟨2,1,ly 4⟩),recovered:=false }]→pB w b A e w'):=fun e w' f g=>(r.out e w').2 ⟨f,by rw[c];exact g⟩
   clear c r u m
   go_wp2_with (first
    |(go_at_call 164;go_loud (refine(U.out _).mono ?_);go_loud (rintro e w2 ⟨rfl,z⟩))
    |(go_at_call 176;go_loud (refine(HR.out ⟨2,1,ly 4⟩ _).mono ?_);go_loud (rintro e w3 ⟨rfl,rfl⟩)))
   exact⟨rfl,y.out _ _ (j.trans (z.mono j.size)) rfl⟩
  ·have ak:(v0 == 4)=true:=by simpa using m
   by_cases f:n1≠A
   ·have al:(n1 == A)=false:=by simpa using f
    have c:ox b A=some ⟨2,2,[]⟩:=by rw[u.out,dt m,dr f]
    have y:Hid (∀e w',Below w.heap.size w w'→e=.panicked [{ v:=(mN.val ⟨2,2,[]⟩),recovered:=false }]→pB w b A e w'):=fun e w' f g=>(r.out e w').2 ⟨f,by rw[c];exact g⟩
    clear c r u m f
    go_wp2_with (first
     |(go_at_call 164;go_loud (refine(U.out _).mono ?_);go_loud (rintro e w2 ⟨rfl,z⟩))
     |(go_at_call 176;go_loud (refine(HR.out ⟨2,2,[]⟩ _).mono ?_);go_loud (rintro e w3 ⟨rfl,rfl⟩)))
    exact⟨rfl,y.out _ _ j rfl⟩
   ·have al:(n1 == A)=true:=by simpa using f
    by_cases g:n2≠0∧n2<3
    ·have ad:(n2 == 0)=false:=by simpa using g.1
     have X:n2<3:=g.2;have c:ox b A=some ⟨2,6,[]⟩:=by rw[u.out,dt m,dt f,dr g]
     have y:Hid (∀e w',Below w.heap.size w w'→e=.panicked [{ v:=(mN.val ⟨2,6,[]⟩),recovered:=false }]→pB w b A e w'):=fun e w' f g=>(r.out e w').2 ⟨f,by rw[c];exact g⟩
     clear c r u m f g
     go_wp2_with (first
      |(go_at_call 164;go_loud (refine(U.out _).mono ?_);go_loud (rintro e w2 ⟨rfl,z⟩))
      |(go_at_call 176;go_loud (refine(HR.out ⟨2,6,[]⟩ _).mono ?_);go_loud (rintro e w3 ⟨rfl,rfl⟩)))
     exact⟨rfl,y.out _ _ j rfl⟩
    ·by_cases E:n3=0
     ·have am:(n3 == 0)=true:=by simpa using E
      by_cases I:n2=0
      ·have ad:(n2 == 0)=true:=by simpa using I
       have c:ox b A=some ⟨2,3,[]⟩:=by rw[u.out,dt m,dt f,dt g,dr E]
       have y:Hid (∀e w',Below w.heap.size w w'→e=.panicked [{ v:=(mN.val ⟨2,3,[]⟩),recovered:=false }]→pB w b A e w'):=fun e w' f g=>(r.out e w').2 ⟨f,by rw[c];exact g⟩
       clear c r u m f g E
       go_wp2_with (first
        |(go_at_call 164;go_loud (refine(U.out _).mono ?_);go_loud (rintro e w2 ⟨rfl,z⟩))
        |(go_at_call 176;go_loud (refine(HR.out ⟨2,3,[]⟩ _).mono ?_);go_loud (rintro e w3 ⟨rfl,rfl⟩)))
       exact⟨rfl,y.out _ _ j rfl⟩
      ·have ad:(n2 == 0)=false:=by simpa using I
       have X:¬n2<3:=fun h=>g ⟨I,h⟩
       have c:ox b A=some ⟨2,3,[]⟩:=by rw[u.out,dt m,dt f,dt g,dr E]
       have y:Hid (∀e w',Below w.heap.size w w'→e=.panicked [{ v:=(mN.val ⟨2,3,[]⟩),recovered:=false }]→pB w b A e w'):=fun e w' f g=>(r.out e w').2 ⟨f,by rw[c];exact g⟩
       clear c r u m f g E
       go_wp2_with (first
        |(go_at_call 164;go_loud (refine(U.out _).mono ?_);go_loud (rintro e w2 ⟨rfl,z⟩))
        |(go_at_call 176;go_loud (refine(HR.out ⟨2,3,[]⟩ _).mono ?_);go_loud (rintro e w3 ⟨rfl,rfl⟩)))
       exact⟨rfl,y.out _ _ j rfl⟩
     ·have am:(n3 == 0)=false:=by simpa using E
      by_cases I:n2=0
      ·subst I
       by_cases V:J≠0
       ·have F:J≠0∨10<b.length:=.inl V;have M:(J != 0)=true:=by simpa using V
        have c:ox b A=some ⟨2,4,[]⟩:=by rw[u.out,dt m,dt f,dt g,dt E,dr F]
        have y:Hid (∀e w',Below w.heap.size w w'→e=.panicked [{ v:=(mN.val ⟨2,4,[]⟩),recovered:=false }]→pB w b A e w'):=fun e w' f g=>(r.out e w').2 ⟨f,by rw[c];exact g⟩
        clear c r u m f g E F V
        go_wp2_with (first
         |(go_at_call 164;go_loud (refine(U.out _).mono ?_);go_loud (rintro e w2 ⟨rfl,z⟩))
         |(go_at_call 176;go_loud (refine(HR.out ⟨2,4,[]⟩ _).mono ?_);go_loud (rintro e w3 ⟨rfl,rfl⟩)))
        exact⟨rfl,y.out _ _ j rfl⟩
       ·have M:J=0:=by omega
        subst M
        by_cases C:10<b.length
        ·have F:(0:Int)≠0∨10<b.length:=.inr C;have N:decide ((10:Int)<(b.length:Int))=true:=by simp;omega
         have c:ox b A=some ⟨2,4,[]⟩:=by rw[u.out,dt m,dt f,dt g,dt E,dr F]
         have y:Hid (∀e w',Below w.heap.size w w'→e=.panicked [{ v:=(mN.val ⟨2,4,[]⟩),recovered:=false }]→pB w b A e w'):=fun e w' f g=>(r.out e w').2 ⟨f,by rw[c];exact g⟩
         clear c r u m f g E F C
         go_wp2_with (first
          |(go_at_call 164;go_loud (refine(U.out _).mono ?_);go_loud (rintro e w2 ⟨rfl,z⟩))
          |(go_at_call 176;go_loud (refine(HR.out ⟨2,4,[]⟩ _).mono ?_);go_loud (rintro e w3 ⟨rfl,rfl⟩)))
         exact⟨rfl,y.out _ _ j rfl⟩
        ·have F:¬((0:Int)≠0∨10<b.length):=fun h=>h.elim V C
         have N:decide ((10:Int)<(b.length:Int))=false:=by simp;omega
         have c:ox b A=none:=by rw[u.out,dt m,dt f,dt g,dt E,dt F]
         have y:Hid (∀e w',Below w.heap.size w w'→e=.returned (.agg #[.int .i64 n1,.int .i64 0,.int .u32 n3])→pB w b A e w'):=fun e w' f g=>(r.out e w').2 ⟨f,by rw[c];exact g⟩
         clear c r u m f g E F C
         go_wp2_with fail
         have s0:=lp ai.out 0 (.int .i64 n1);simp only[iz,iB]at s0;have s1:=lp s0 1 (.int .i64 0);simp only[iz,iB,iA]at s1;have s2:=lp s1 2 (.int .u32 n3);simp only[iz,iB,iA]at s2;have R:Below w.heap.size w (((w1.setCell ⟨w.heap.size,0,none⟩ (.int .i64 n1)).setCell ⟨w.heap.size,1,none⟩ (.int .i64 0)).setCell ⟨w.heap.size,2,none⟩ (.int .u32 n3)):=by
          refine jm (jm (jm j ?_ _) ?_ _) ?_ _<;>exact dD _
         generalize(((w1.setCell ⟨w.heap.size,0,none⟩ (.int .i64 n1)).setCell ⟨w.heap.size,1,none⟩ (.int .i64 0)).setCell ⟨w.heap.size,2,none⟩ (.int .u32 n3))=w2 at s2 R ⊢;have r0:=kh s2 0;have r1:=kh s2 1;have r2:=kh s2 2;simp at r0 r1 r2;exact iQ (v:=.agg #[.int .i64 n1,.int .i64 0,.int .u32 n3]) (by simp[results,Tryz.results173,go_sem,r0,r1,r2]) rfl (y.out _ _ R rfl)
      ·have ad:(n2 == 0)=false:=by simpa using I
       have X:¬n2<3:=fun h=>g ⟨I,h⟩
       by_cases V:J≠0
       ·have F:J≠0∨10<b.length:=.inl V;have M:(J != 0)=true:=by simpa using V
        have c:ox b A=some ⟨2,4,[]⟩:=by rw[u.out,dt m,dt f,dt g,dt E,dr F]
        have y:Hid (∀e w',Below w.heap.size w w'→e=.panicked [{ v:=(mN.val ⟨2,4,[]⟩),recovered:=false }]→pB w b A e w'):=fun e w' f g=>(r.out e w').2 ⟨f,by rw[c];exact g⟩
        clear c r u m f g E F V
        go_wp2_with (first
         |(go_at_call 164;go_loud (refine(U.out _).mono ?_);go_loud (rintro e w2 ⟨rfl,z⟩))
         |(go_at_call 176;go_loud (refine(HR.out ⟨2,4,[]⟩ _).mono ?_);go_loud (rintro e w3 ⟨rfl,rfl⟩)))
        exact⟨rfl,y.out _ _ j rfl⟩
       ·have M:J=0:=by omega
        subst M
        by_cases C:10<b.length
        ·have F:(0:Int)≠0∨10<b.length:=.inr C;have N:decide ((10:Int)<(b.length:Int))=true:=by simp;omega
         have c:ox b A=some ⟨2,4,[]⟩:=by rw[u.out,dt m,dt f,dt g,dt E,dr F]
         have y:Hid (∀e w',Below w.heap.size w w'→e=.panicked [{ v:=(mN.val ⟨2,4,[]⟩),recovered:=false }]→pB w b A e w'):=fun e w' f g=>(r.out e w').2 ⟨f,by rw[c];exact g⟩
         clear c r u m f g E F C
         go_wp2_with (first
          |(go_at_call 164;go_loud (refine(U.out _).mono ?_);go_loud (rintro e w2 ⟨rfl,z⟩))
          |(go_at_call 176;go_loud (refine(HR.out ⟨2,4,[]⟩ _).mono ?_);go_loud (rintro e w3 ⟨rfl,rfl⟩)))
         exact⟨rfl,y.out _ _ j rfl⟩
        ·have F:¬((0:Int)≠0∨10<b.length):=fun h=>h.elim V C
         have N:decide ((10:Int)<(b.length:Int))=false:=by simp;omega
         have c:ox b A=none:=by rw[u.out,dt m,dt f,dt g,dt E,dt F]
         have y:Hid (∀e w',Below w.heap.size w w'→e=.returned (.agg #[.int .i64 n1,.int .i64 n2,.int .u32 n3])→pB w b A e w'):=fun e w' f g=>(r.out e w').2 ⟨f,by rw[c];exact g⟩
         clear c r u m f g E F C
         go_wp2_with fail
         have s0:=lp ai.out 0 (.int .i64 n1);simp only[iz,iB]at s0;have s1:=lp s0 1 (.int .i64 n2);simp only[iz,iB,iA]at s1;have s2:=lp s1 2 (.int .u32 n3);simp only[iz,iB,iA]at s2;have R:Below w.heap.size w (((w1.setCell ⟨w.heap.size,0,none⟩ (.int .i64 n1)).setCell ⟨w.heap.size,1,none⟩ (.int .i64 n2)).setCell ⟨w.heap.size,2,none⟩ (.int .u32 n3)):=by
          refine jm (jm (jm j ?_ _) ?_ _) ?_ _<;>exact dD _
         generalize(((w1.setCell ⟨w.heap.size,0,none⟩ (.int .i64 n1)).setCell ⟨w.heap.size,1,none⟩ (.int .i64 n2)).setCell ⟨w.heap.size,2,none⟩ (.int .u32 n3))=w2 at s2 R ⊢;have r0:=kh s2 0;have r1:=kh s2 1;have r2:=kh s2 2;simp at r0 r1 r2;exact iQ (v:=.agg #[.int .i64 n1,.int .i64 n2,.int .u32 n3]) (by simp[results,Tryz.results173,go_sem,r0,r1,r2]) rfl (y.out _ _ R rfl)
 ·intro x hx;simp at hx;rcases hx with rfl|rfl|rfl<;>rfl
 ·exact⟨rfl,rfl,rfl,dD _,fun _ _=>rfl⟩
end
section
open Go Go.RowKit
open Go.Proofs.YtjnkcibpkkjniaaGreat.kN (pw lh lO oL)
end
section
open Go Go.RowKit
open Go.Proofs.YtjnkcibpkkjniaaGreat.kN (pw lh lO oL)
variable {q:Option Nat}
def rQ (st k:Int):Bool:=if k=3 then true else if st=1 then k == 1 else if st=2 then k == 4 else(k == 2 || k == 4)
theorem yV(w:World)(sb so:Nat)(st k:Int)(h:w.cell? ⟨sb,so+9,none⟩=some (.int .i64 st)):Calls Tryz.prog 170 #[.pointer (some ⟨sb,so,none⟩),.int .i64 k] w fun e w'=>e=.returned (.bool (rQ st k))∧w'=w:=by
 have a:=h;go_enter Tryz.func170,Tryz.ntmps170
 go_wp2
 all_goals go_ret
 all_goals(refine⟨?_,rfl⟩;simp_all[rQ])
variable {w:World} {base tb sb:Nat} {now au id st hold heard spoke:Int} {sv pv:Value} {sent xs b:List Int} {cl ov:Bool} {p:Pz}
theorem Ro(h:kH q w base tb sb now sv sent cl ov (kt au id p st hold heard spoke pv) pv xs)(aa:rQ st 4=true):Calls Tryz.prog 157 #[.pointer (some ⟨tb,0,none⟩),.agg #[.int .i64 4,.string (strOfNums b)]] w fun e w'=>(∃v,e=.returned v)∧kH q w' base tb sb now sv sent cl ov (kt au id p 3 hold now spoke pv) pv xs∧kC q base tb sb w w':=by
 obtain⟨qa,qh,ql,qp,qw,ia,il,ic,ea,el,ec⟩:=p;simp only[kt]at h ⊢;have HB:Below w.heap.size w (w.alloc (.cells #[.int .i64 4,.string (strOfNums b)] 247)):=(iJ _ _).alloc (dD _) _;have F:Hid (kH q (w.alloc (.cells #[.int .i64 4,.string (strOfNums b)] 247)) base tb sb now sv sent cl ov _ pv xs):=h.below HB;have m:Hid (kC q base tb sb w (w.alloc (.cells #[.int .i64 4,.string (strOfNums b)] 247))):=kC.below HB h.ts.lt.2.2;have J:(w.alloc (.cells #[.int .i64 4,.string (strOfNums b)] 247)).heap[w.heap.size]?=some (.cells #[.int .i64 4,.string (strOfNums b)] 247 (0,0)):=jL w _;have ae:base≤w.heap.size:=h.ts.lt.2.2;clear h HB;go_enter Tryz.func157,Tryz.ntmps157
 go_wp2_with fail
 generalize(w.alloc (.cells #[.int .i64 4,.string (strOfNums b)] 247))=w1 at F m J ⊢;obtain⟨⟨c0,c1,c2,c3,c4⟩,z2,z3,z4⟩:=F.out.ts.facts;obtain⟨e0,e1,e2,e3,e4,e5,e6,e7,e8,M,o,r,u,x,N,R,U,V,W,X,Y,Z,y8,y9,c,f,g,i⟩:=oX F.out.ts.s;have y:=kh J 0;have z:=kh J 1;simp at y z;have K:Hid (∀n,Calls Tryz.prog 170 #[.pointer (some ⟨sb,0,none⟩),.int .i64 4] (w1.drewN n) fun e w'=>e=.returned (.bool true)∧w'=w1.drewN n):=fun n=>by have:=yV (w1.drewN n) sb 0 st 4 M;rw[aa]at this;exact this
 go_quiet ((go_at_call 170;exact jI (K.out _)))
 go_wp2_with fail
 have h2:=F.out.drewN nq;have C:=m.out.trans (F.out.ts.drewN nq).2.wide;have a:(w1.drewN nq).heap[w.heap.size]?=some (.cells #[.int .i64 4,.string (strOfNums b)] 247 (0,0)):=J;clear c0 c1 c2 c3 c4 z2 z3 z4 e0 e1 e2 e3 e4 e5 e6 e7 e8 M o r u x N R U V W X Y Z y8 y9 c f g i y z K F m J;generalize w1.drewN nq=w2 at h2 C a ⊢;have G:Hid (_):=h2;have L:Hid (_):=C;clear h2 C;obtain⟨⟨c0,c1,c2,c3,c4⟩,z2,z3,z4⟩:=G.out.ts.facts;obtain⟨e0,e1,e2,e3,e4,e5,e6,e7,e8,M,o,r,u,x,N,R,U,V,W,X,Y,Z,y8,y9,c,f,g,i⟩:=oX G.out.ts.s;have y:=kh a 0;have z:=kh a 1;simp at y z
 go_region
 have I:=(G.out.kX 11 (by decide) (.int .i64 now)).drew;have E:=(L.out.trans (G.out.ts.kX 11 (.int .i64 now)).2.wide).drew;have l0:=G.out.ts.lt;have j:(w2.setCell ⟨sb,11,none⟩ (.int .i64 now)).drew.heap[w.heap.size]?=some (.cells #[.int .i64 4,.string (strOfNums b)] 247 (0,0)):=(kA (by omega) 11 _).trans a;simp only[iz,iA,iB]at I;clear c0 c1 c2 c3 c4 z2 z3 z4 e0 e1 e2 e3 e4 e5 e6 e7 e8 M o r u x N R U V W X Y Z y8 y9 c f g i y z G L a;generalize(w2.setCell ⟨sb,11,none⟩ (.int .i64 now)).drew=w3 at I E j ⊢;have y:=kh j 0;have z:=kh j 1;simp at y z;have c0:=kh I.ts.t 0;obtain⟨d0,d1,d2,d3,d4,d5,d6,d7,d8,d9,d10,d11,d12,d13,N,R,U,V,W,X,Y,Z,y8,y9,c,f,g,i⟩:=oX I.ts.s;simp at c0;have H3:Hid (_):=I;have ab:Hid (_):=E;clear I E j
 go_wp2_with fail
 have h4:=H3.out.kX 9 (by decide) (.int .i64 3);have ad:=ab.out.trans (H3.out.ts.kX 9 (.int .i64 3)).2.wide;simp only[iz,iA,iB]at h4;exact jB (v:=.tuple #[]) (by simp[results,Tryz.results157,go_sem]) rfl ⟨⟨_,rfl⟩,h4,ad⟩
theorem Rp(h:kH q w base tb sb now sv sent cl ov (kt au id p st hold heard spoke pv) pv xs)(aa:rQ st 2=true):Calls Tryz.prog 157 #[.pointer (some ⟨tb,0,none⟩),.agg #[.int .i64 2,.string (strOfNums b)]] w fun e w'=>(∃v,e=.returned v)∧kH q w' base tb sb now sv sent cl ov (kt au id p st hold now spoke pv) pv xs∧kC q base tb sb w w':=by
 obtain⟨qa,qh,ql,qp,qw,ia,il,ic,ea,el,ec⟩:=p;simp only[kt]at h ⊢;have HB:Below w.heap.size w (w.alloc (.cells #[.int .i64 2,.string (strOfNums b)] 247)):=(iJ _ _).alloc (dD _) _;have F:Hid (kH q (w.alloc (.cells #[.int .i64 2,.string (strOfNums b)] 247)) base tb sb now sv sent cl ov _ pv xs):=h.below HB;have m:Hid (kC q base tb sb w (w.alloc (.cells #[.int .i64 2,.string (strOfNums b)] 247))):=kC.below HB h.ts.lt.2.2;have J:(w.alloc (.cells #[.int .i64 2,.string (strOfNums b)] 247)).heap[w.heap.size]?=some (.cells #[.int .i64 2,.string (strOfNums b)] 247 (0,0)):=jL w _;have ad:base≤w.heap.size:=h.ts.lt.2.2;clear h HB;go_enter Tryz.func157,Tryz.ntmps157
 go_wp2_with fail
 generalize(w.alloc (.cells #[.int .i64 2,.string (strOfNums b)] 247))=w1 at F m J ⊢;obtain⟨⟨c0,c1,c2,c3,c4⟩,z2,z3,z4⟩:=F.out.ts.facts;obtain⟨e0,e1,e2,e3,e4,e5,e6,e7,e8,M,o,r,u,x,N,R,U,V,W,X,Y,Z,y8,y9,c,f,g,i⟩:=oX F.out.ts.s;have y:=kh J 0;have z:=kh J 1;simp at y z;have K:Hid (∀n,Calls Tryz.prog 170 #[.pointer (some ⟨sb,0,none⟩),.int .i64 2] (w1.drewN n) fun e w'=>e=.returned (.bool true)∧w'=w1.drewN n):=fun n=>by have:=yV (w1.drewN n) sb 0 st 2 M;rw[aa]at this;exact this
 go_quiet ((go_at_call 170;exact jI (K.out _)))
 go_wp2_with fail
 have h2:=F.out.drewN nq;have C:=m.out.trans (F.out.ts.drewN nq).2.wide;have a:(w1.drewN nq).heap[w.heap.size]?=some (.cells #[.int .i64 2,.string (strOfNums b)] 247 (0,0)):=J;clear c0 c1 c2 c3 c4 z2 z3 z4 e0 e1 e2 e3 e4 e5 e6 e7 e8 M o r u x N R U V W X Y Z y8 y9 c f g i y z K F m J;generalize w1.drewN nq=w2 at h2 C a ⊢;have G:Hid (_):=h2;have L:Hid (_):=C;clear h2 C;obtain⟨⟨c0,c1,c2,c3,c4⟩,z2,z3,z4⟩:=G.out.ts.facts;obtain⟨e0,e1,e2,e3,e4,e5,e6,e7,e8,M,o,r,u,x,N,R,U,V,W,X,Y,Z,y8,y9,c,f,g,i⟩:=oX G.out.ts.s;have y:=kh a 0;have z:=kh a 1;simp at y z
 go_region
 have I:=(G.out.kX 11 (by decide) (.int .i64 now)).drew;have E:=(L.out.trans (G.out.ts.kX 11 (.int .i64 now)).2.wide).drew;have l0:=G.out.ts.lt;have j:(w2.setCell ⟨sb,11,none⟩ (.int .i64 now)).drew.heap[w.heap.size]?=some (.cells #[.int .i64 2,.string (strOfNums b)] 247 (0,0)):=(kA (by omega) 11 _).trans a;simp only[iz,iA,iB]at I;clear c0 c1 c2 c3 c4 z2 z3 z4 e0 e1 e2 e3 e4 e5 e6 e7 e8 M o r u x N R U V W X Y Z y8 y9 c f g i y z G L a;generalize(w2.setCell ⟨sb,11,none⟩ (.int .i64 now)).drew=w3 at I E j ⊢;have y:=kh j 0;have z:=kh j 1;simp at y z;have c0:=kh I.ts.t 0;obtain⟨d0,d1,d2,d3,d4,d5,d6,d7,d8,d9,d10,d11,d12,d13,N,R,U,V,W,X,Y,Z,y8,y9,c,f,g,i⟩:=oX I.ts.s;simp at c0;have H3:Hid (_):=I;have ab:Hid (_):=E;clear I E j
 go_wp2_with fail
 exact jB (v:=.tuple #[]) (by simp[results,Tryz.results157,go_sem]) rfl ⟨⟨_,rfl⟩,H3.out,ab.out⟩
theorem Rq(h:kH q w base tb sb now sv sent cl ov (kt au id p st hold heard spoke pv) pv xs)(J:∃pa pl pc,pv=.slice pa pl pc):Calls Tryz.prog 157 #[.pointer (some ⟨tb,0,none⟩),.agg #[.int .i64 3,.string (strOfNums b)]] w fun e w'=>(∃v,e=.returned v)∧TS w' base tb sb now sv sent true true (kt au id p 0 0 0 0 (.slice none 0 0))∧kC q base tb sb w w':=by
 obtain⟨qa,qh,ql,qp,qw,ia,il,ic,ea,el,ec⟩:=p;simp only[kt]at h ⊢;have HB:Below w.heap.size w (w.alloc (.cells #[.int .i64 3,.string (strOfNums b)] 247)):=(iJ _ _).alloc (dD _) _;have F:Hid (kH q (w.alloc (.cells #[.int .i64 3,.string (strOfNums b)] 247)) base tb sb now sv sent cl ov _ pv xs):=h.below HB;have m:Hid (kC q base tb sb w (w.alloc (.cells #[.int .i64 3,.string (strOfNums b)] 247))):=kC.below HB h.ts.lt.2.2;have K:(w.alloc (.cells #[.int .i64 3,.string (strOfNums b)] 247)).heap[w.heap.size]?=some (.cells #[.int .i64 3,.string (strOfNums b)] 247 (0,0)):=jL w _;have ab:base≤w.heap.size:=h.ts.lt.2.2;clear h HB;go_enter Tryz.func157,Tryz.ntmps157
 go_wp2_with fail
 generalize(w.alloc (.cells #[.int .i64 3,.string (strOfNums b)] 247))=w1 at F m K ⊢;obtain⟨⟨c0,c1,c2,c3,c4⟩,z2,z3,z4⟩:=F.out.ts.facts;obtain⟨e0,e1,e2,e3,e4,e5,e6,e7,e8,N,o,r,u,x,R,U,V,W,X,Y,Z,y7,y8,y9,c,f,g,i⟩:=oX F.out.ts.s;have y:=kh K 0;have z:=kh K 1;simp at y z;have L:Hid (∀n,Calls Tryz.prog 170 #[.pointer (some ⟨sb,0,none⟩),.int .i64 3] (w1.drewN n) fun e w'=>e=.returned (.bool true)∧w'=w1.drewN n):=fun n=>by have:=yV (w1.drewN n) sb 0 st 3 N;rw[show rQ st 3=true from rfl]at this;exact this
 go_quiet ((go_at_call 170;exact jI (L.out _)))
 go_wp2_with fail
 have h2:=F.out.drewN nq;have C:=m.out.trans (F.out.ts.drewN nq).2.wide;have a:(w1.drewN nq).heap[w.heap.size]?=some (.cells #[.int .i64 3,.string (strOfNums b)] 247 (0,0)):=K;clear c0 c1 c2 c3 c4 z2 z3 z4 e0 e1 e2 e3 e4 e5 e6 e7 e8 N o r u x R U V W X Y Z y7 y8 y9 c f g i y z L F m K;generalize w1.drewN nq=w2 at h2 C a ⊢;have G:Hid (_):=h2;have M:Hid (_):=C;clear h2 C;obtain⟨⟨c0,c1,c2,c3,c4⟩,z2,z3,z4⟩:=G.out.ts.facts;obtain⟨e0,e1,e2,e3,e4,e5,e6,e7,e8,N,o,r,u,x,R,U,V,W,X,Y,Z,y7,y8,y9,c,f,g,i⟩:=oX G.out.ts.s;have y:=kh a 0;have z:=kh a 1;simp at y z
 go_region
 have I:=(G.out.kX 11 (by decide) (.int .i64 now)).drew;have E:=(M.out.trans (G.out.ts.kX 11 (.int .i64 now)).2.wide).drew;have l0:=G.out.ts.lt;have j:(w2.setCell ⟨sb,11,none⟩ (.int .i64 now)).drew.heap[w.heap.size]?=some (.cells #[.int .i64 3,.string (strOfNums b)] 247 (0,0)):=(kA (by omega) 11 _).trans a;simp only[iz,iA,iB]at I;clear c0 c1 c2 c3 c4 z2 z3 z4 e0 e1 e2 e3 e4 e5 e6 e7 e8 N o r u x R U V W X Y Z y7 y8 y9 c f g i y z G M a;generalize(w2.setCell ⟨sb,11,none⟩ (.int .i64 now)).drew=w3 at I E j ⊢;have y:=kh j 0;have z:=kh j 1;simp at y z;have c0:=kh I.ts.t 0;obtain⟨d0,d1,d2,d3,d4,d5,d6,d7,d8,d9,d10,d11,d12,d13,R,U,V,W,X,Y,Z,y7,y8,y9,c,f,g,i⟩:=oX I.ts.s;simp at c0;have H3:Hid (_):=I;have aa:Hid (_):=E;clear I E j;have HC:Hid (Calls Tryz.prog 142 #[.pointer (some ⟨tb,0,none⟩)] w3 fun e w'=>(∃v,e=.returned v)∧TS w' base tb sb now sv sent true true (kt au id ⟨qa,qh,ql,qp,qw,ia,il,ic,ea,el,ec⟩ 0 0 0 0 (.slice none 0 0))∧Rest base tb sb w3 w'):=by
  obtain⟨pa,pl,pc,rfl⟩:=J;exact EA (p:=⟨qa,qh,ql,qp,qw,ia,il,ic,ea,el,ec⟩) (st:=st) (hold:=hold) (heard:=now) (spoke:=spoke) H3.out.ts
 clear J
 go_wp2_with (go_at_call 142;go_loud (refine HC.out.mono ?_);go_loud (rintro e w4 ⟨⟨v4,rfl⟩,k1,k2⟩))
 exact jB (v:=.tuple #[]) (by simp[results,Tryz.results157,go_sem]) rfl ⟨⟨_,rfl⟩,k1,aa.out.trans k2.wide⟩
theorem Rr(w:World):Calls Tryz.prog 171 #[] w fun e w'=>e=.panicked [{ v:=(mN.val ⟨5,0,[]⟩),recovered:=false }]∧w'=w:=by
 have HR:Hid (_):=Be;have es:(⟨#[]⟩:ByteArray)=strOfNums []:=rfl;go_enter Tryz.func171,Tryz.ntmps171
 go_wp2_with (go_at_call 176;go_loud (refine(HR.out ⟨5,0,[]⟩ _).mono ?_);go_loud (rintro e w4 ⟨rfl,rfl⟩))
 exact⟨rfl,rfl,rfl⟩
theorem Rs(h:kH q w base tb sb now sv sent cl ov (kt au id p st hold heard spoke pv) pv xs){k:Int}(f:rQ st k=false):Calls Tryz.prog 157 #[.pointer (some ⟨tb,0,none⟩),.agg #[.int .i64 k,.string (strOfNums b)]] w fun e w'=>e=.panicked [{ v:=(mN.val ⟨5,0,[]⟩),recovered:=false }]∧kH q w' base tb sb now sv sent cl ov (kt au id p st hold heard spoke pv) pv xs∧kC q base tb sb w w':=by
 obtain⟨J,K,L,M,N,ia,il,ic,ea,el,ec⟩:=p;simp only[kt]at h ⊢;have g:Below w.heap.size w (w.alloc (.cells #[.int .i64 k,.string (strOfNums b)] 247)):=(iJ _ _).alloc (dD _) _;have a:Hid (kH q (w.alloc (.cells #[.int .i64 k,.string (strOfNums b)] 247)) base tb sb now sv sent cl ov _ pv xs):=h.below g;have c:Hid (kC q base tb sb w (w.alloc (.cells #[.int .i64 k,.string (strOfNums b)] 247))):=kC.below g h.ts.lt.2.2;have i:(w.alloc (.cells #[.int .i64 k,.string (strOfNums b)] 247)).heap[w.heap.size]?=some (.cells #[.int .i64 k,.string (strOfNums b)] 247 (0,0)):=jL w _;have m:base≤w.heap.size:=h.ts.lt.2.2;clear h g;go_enter Tryz.func157,Tryz.ntmps157
 go_wp2_with fail
 generalize(w.alloc (.cells #[.int .i64 k,.string (strOfNums b)] 247))=w1 at a c i ⊢;obtain⟨⟨c0,c1,c2,c3,c4⟩,z2,R,U⟩:=a.out.ts.facts;obtain⟨V,W,X,Y,Z,e5,e6,e7,e8,o,r,u,x,y,y0,y1,y2,y3,y4,y5,y6,y7,y8,y9,z,C,E,F⟩:=oX a.out.ts.s;have G:=kh i 0;have I:=kh i 1;simp at G I;have j:Hid (∀n,Calls Tryz.prog 170 #[.pointer (some ⟨sb,0,none⟩),.int .i64 k] (w1.drewN n) fun e w'=>e=.returned (.bool false)∧w'=w1.drewN n):=fun n=>by have:=yV (w1.drewN n) sb 0 st k o;rw[f]at this;exact this
 go_quiet ((go_at_call 170;exact jI (j.out _)))
 have HR:Hid (_):=Rr
 go_wp2_with (go_at_call 171;go_loud (refine(HR.out _).mono ?_);go_loud (rintro e w4 ⟨rfl,rfl⟩))
 exact⟨rfl,rfl,a.out.drewN nq,c.out.trans (a.out.ts.drewN nq).2.wide⟩
end
end Go.Proofs.YtjnkcibpkkjniaaGreat
namespace Go.Proofs.YtjnkcibpkkjniaaGreat.kN
section
open Go Go.RowKit
section
variable {P:Program} {ops:Array Oper} {Q:Exit→Act→World→Prop} {val:Nat→Value→World→Prop} {fix:List (Nat×Value)} {T:Nat} {w0:World} {Post:Act→World→Prop} {n:Nat} {D:List Deferred}
theorem xH{id:Nat}{a:Act}{w:World}(hm:P.follows .mixedOrders=true)(m:lh ops (fix.map (·.1)) T=true)(G:lO ops=true)(hn:ops.size=n+1)(z:∀w w' j u,Below w.heap.size w w'→val j u w→val j u w')(Y:∀(i:Nat)(o:Oper)(a:Act)(w:World),a.defers=D→i<n→ops[i]?=some o→(∀x∈fix,a.tmps[x.1]?=some x.2)→(∀(j:Nat)(o':Oper)(d:Nat),ops[j]?=some o'→o'.dst=some d→(∃e∈o.after,e.on=j∧Region.binds .any e=true)→∃v,a.tmps[d]?=some v∧val j v w)→Below w0.heap.size w0 w →
   ∀K:Act→World→Prop,(∀v w',val i v w'→Below w.heap.size w w'→K (a.put o.dst v) w')→o.wp P a w K Q)(C:∀(o:Oper)(a:Act)(w:World),a.defers=D→ops[n]?=some o→(∀x∈fix,a.tmps[x.1]?=some x.2)→(∀(j:Nat)(o':Oper)(d:Nat),ops[j]?=some o'→o'.dst=some d→(∃e∈o.after,e.on=j∧Region.binds .any e=true)→∃v,a.tmps[d]?=some v∧val j v w)→Below w0.heap.size w0 w →
   ∀K:Act→World→Prop,(∀v w',Post (a.put o.dst v) w'→K (a.put o.dst v) w')→o.wp P a w K Q)(I:∀(a:Act)(w:World),a.defers=D→a.tmps.size=T→(∀x∈fix,a.tmps[x.1]?=some x.2)→Post a w→Q .normal a w)(hd:a.defers=D)(hs:a.tmps.size=T)(hf:∀x∈fix,a.tmps[x.1]?=some x.2)(h0:Below w0.heap.size w0 { w with drawn:=w.drawn+1 }):(Code.region id ops true).wp P Q a w:=by
 have key:∀(fuel:Nat)(listed:Array Bool)(a:Act)(w:World),nu D ops val fix T listed a w→listed.getD n false=false→Below w0.heap.size w0 w→mY ops listed≤fuel→wpAny P .any ops Q fuel listed a w:=by
  intro fuel
  induction fuel with
  |zero =>
   intro listed a w c f hB hu;have g:=uI (ops:=ops) (listed:=listed) (by omega);have:=g n (by omega);rw[f]at this
   cases this
  |succ fuel ih =>
   intro listed a w c f hB hu;refine⟨fun J=>?_,fun i L=>?_⟩
   ·have:=uJ m c.kR J n (by omega);rw[f]at this
    cases this
   obtain⟨M,o,r,_⟩:=gh.1 L;have y:i<ops.size:=(dv.1 r).1;have N:listed.getD i false=false:=by
    have hsz:i<listed.size:=by rw[c.kR];exact y
    rw[dA,dw hsz]at M ⊢;simpa using M
   unfold wpOp;rw[r];have hg:=(tM m r).2.2;have hw:Region.wanted o (yielded ops a.tmps)=true:=by simp[Region.wanted,hg]
   simp only[hw,dn]
   by_cases R:i=n
   ·subst R;refine .inl (C o a w c.defers r c.fix (fun j o' d E hd he=>c.dep r L E hd he) hB _ fun v w' hP=>?_);have h:nu D ops (fun _ _ _=>True) fix T (listed.setIfInBounds i true) (a.put o.dst v) w' :=
     nu.put (val:=fun _ _ _=>True) (w:=w) m ⟨c.defers,c.size,c.fix,fun j o' d F h2 U=>by obtain⟨v,k1,_⟩:=c.val j o' d F h2 U;exact⟨v,k1,trivial⟩,c.kR,c.qC⟩ r L trivial (fun _ _ _ _=>trivial)
    have g:=h.all G hn (by rw[mX _ _ _ (by rw[c.kR];exact y)];simp);have hQ:=I _ _ h.defers h.size h.fix hP;have V:Region.ready .any ops (listed.setIfInBounds i true)=[]:=by
     cases hr:Region.ready .any ops (listed.setIfInBounds i true)with
     |nil=>rfl
     |cons x xs =>
      have hx:x∈Region.ready .any ops (listed.setIfInBounds i true):=by rw[hr];simp
      obtain⟨F,o2,Z,_⟩:=gh.1 hx;have W:x<ops.size:=(dv.1 Z).1;have U:=g x W;have aa:x<(listed.setIfInBounds i true).size:=by rw[h.kR];exact W
      rw[dA,dw aa]at F U;simp only[eE]at F U;rw[U]at F
      cases F
    cases fuel with
    |zero=>exact⟨V,hQ⟩
    |succ fuel=>exact⟨fun _=>hQ,fun j E=>by rw[V]at E;cases E⟩
   ·refine .inl (Y i o a w c.defers (by omega) r c.fix (fun j o' d E hd he=>c.dep r L E hd he) hB _ fun v w' hv X=>?_);have:=rz y c.kR N;refine ih _ _ _ (c.put m r L hv fun j u _=>z _ _ j u X) ?_ (hB.trans (X.mono hB.size)) (by omega);rw[mX _ _ _ (by rw[c.kR];exact y),dt (fun e=>R e.symm)];exact f
 refine iH hm (key ops.size _ a _ ⟨hd,hs,hf,fun i o d _ f=>?_,by simp,fun i o _ f=>?_⟩ ?_ h0 ?_)
 ·simp[dA,dz]at f;split at f<;>simp at f
 ·simp[dA,dz]at f;split at f<;>simp at f
 ·simp[dA,dz];split<;>simp
 ·unfold mY;exact dE (gj _ _) (by simp)
end
end
end Go.Proofs.YtjnkcibpkkjniaaGreat.kN
namespace Go.Proofs.YtjnkcibpkkjniaaGreat
section
open Go Go.RowKit
open Go.Proofs.YtjnkcibpkkjniaaGreat.kN (pw lh lO xH)
variable {q:Option Nat}
def sP (tb sb mb:Nat) (b:List Int) (n1:Int):Nat→Value→World→Prop
 |0,v,_=>v=.pointer (some ⟨tb,0,none⟩)
 |1,v,_=>v=.pointer (some ⟨mb,1,none⟩)
 |2,v,_=>v=.string (strOfNums b)
 |3,v,_=>v=.pointer (some ⟨tb,0,none⟩)
 |4,v,_=>v=.pointer (some ⟨tb,0,none⟩)
 |5,v,_=>v=.pointer (some ⟨tb,0,none⟩)
 |6,v,_=>v=.pointer (some ⟨sb,0,none⟩)
 |7,v,_=>v=.pointer (some ⟨sb,0,none⟩)
 |8,v,_=>v=.pointer (some ⟨sb,2,none⟩)
 |9,v,_=>v=.pointer (some ⟨sb,2,none⟩)
 |10,v,_=>v=.int .i64 n1
 |11,_,_=>False
 |_,_,_=>True
variable {tb sb mb:Nat} {b:List Int} {n1:Int}
theorem Rt(w w':World)(j:Nat)(u:Value)(hB:Below w.heap.size w w')(h:sP tb sb mb b n1 j u w):sP tb sb mb b n1 j u w':=by
 unfold sP at h ⊢;split at h<;>exact h
theorem Ru{Q:Exit→Act→World→Prop}{w0:World}(m:tb<w0.heap.size)(r:sb<w0.heap.size)(u:mb<w0.heap.size)(ct:w0.cell? ⟨tb,0,none⟩=some (.pointer (some ⟨sb,0,none⟩)))(cs:w0.cell? ⟨sb,2,none⟩=some (.int .i64 n1))(z:w0.cell? ⟨mb,1,none⟩=some (.string (strOfNums b)))(t:mN)(f:∀w,Calls Tryz.prog 173 #[.string (strOfNums b),.int .i64 n1] w fun e w'=>e=.panicked [{ v:=t.val,recovered:=false }]∧Below w.heap.size w w')(x:∀a w',a.defers=[]→Below w0.heap.size w0 w'→Q (.panic [{ v:=t.val,recovered:=false }]) a w')(i:Nat)(o:Oper)(a:Act)(w:World)(kW:a.defers=[])(I:i<12)(y:pQ[i]?=some o)(f0:a.tmps[0]?=some (.pointer (some ⟨tb,0,none⟩)))(f3:a.tmps[3]?=some (.pointer (some ⟨mb,0,none⟩)))(c:∀(j:Nat)(o':Oper)(d:Nat),pQ[j]?=some o'→o'.dst=some d→(∃e∈o.after,e.on=j∧Region.binds .any e=true)→∃v,a.tmps[d]?=some v∧sP tb sb mb b n1 j v w)(g:Below w0.heap.size w0 w)(K:Act→World→Prop)(C:∀v w',sP tb sb mb b n1 i v w'→Below w.heap.size w w'→K (a.put o.dst v) w'):o.wp Tryz.prog a w K Q:=by
 have J:=(g.cell (p:=⟨tb,0,none⟩) m).trans ct;have L:=(g.cell (p:=⟨sb,2,none⟩) r).trans cs;have M:=(g.cell (p:=⟨mb,1,none⟩) u).trans z;clear ct cs z;have f:Hid (∀w,_):=f;replace kW:Hid (a.defers=[]):=kW;obtain rfl|rfl|rfl|rfl|rfl|rfl|rfl|rfl|rfl|rfl|rfl|rfl:i=0∨i=1∨i=2∨i=3∨i=4∨i=5∨i=6∨i=7∨i=8∨i=9∨i=10∨i=11:=by omega
 all_goals
  simp only[pQ,Tryz.f157,opsOf,ed]at y;simp[]at y;subst y
 all_goals try
  first
  |(unfold Oper.wp execOp;simp only[Act.eval,dA,f0,f3,eE];go_simp;exact C _ _ rfl (iJ _ _))
  |(obtain⟨G,E,h⟩:=c _ _ _ (by rfl) (by rfl) ⟨_,⟨List.Mem.head _⟩,rfl,rfl⟩;simp only[sP]at h;subst h;unfold Oper.wp execOp;simp only[Act.eval,dA,E,eE];go_simp;exact C _ _ rfl (iJ _ _))
 ·obtain⟨G,E,h⟩:=c 2 _ _ rfl rfl ⟨⟨2,.data⟩,by simp,rfl,rfl⟩;simp only[sP]at h
  try subst h
  obtain⟨N,R,F⟩:=c 10 _ _ rfl rfl ⟨⟨10,.data⟩,by simp,rfl,rfl⟩;simp only[sP]at F
  try subst F
  unfold Oper.wp execOp;simp only[];go_simp;refine(f.out w).mono ?_;rintro e w1 ⟨rfl,hB⟩;exact x _ _ kW.out (g.trans (hB.mono g.size))
theorem Rv{w:World}{base:Nat}{now:Int}{sv:Value}{sent:List Int}{cl ov:Bool}{au id:Int}{p:Pz}{hold heard spoke:Int}{pv:Value}{xs:List Int}(h:kH q w base tb sb now sv sent cl ov (kt au id p 1 hold heard spoke pv) pv xs)(t:mN)(j:∀w,Calls Tryz.prog 173 #[.string (strOfNums b),.int .i64 p.au] w fun e w'=>e=.panicked [{ v:=t.val,recovered:=false }]∧Below w.heap.size w w'):Calls Tryz.prog 157 #[.pointer (some ⟨tb,0,none⟩),.agg #[.int .i64 1,.string (strOfNums b)]] w fun e w'=>e=.panicked [{ v:=t.val,recovered:=false }]∧kH q w' base tb sb now sv sent cl ov (kt au id p 1 hold now spoke pv) pv xs∧kC q base tb sb w w':=by
 obtain⟨qa,qh,ql,qp,qw,ia,il,ic,ea,el,ec⟩:=p;simp only[kt]at h j ⊢;have HB:Below w.heap.size w (w.alloc (.cells #[.int .i64 1,.string (strOfNums b)] 247)):=(iJ _ _).alloc (dD _) _;have R:Hid (kH q (w.alloc (.cells #[.int .i64 1,.string (strOfNums b)] 247)) base tb sb now sv sent cl ov _ pv xs):=h.below HB;have u:Hid (kC q base tb sb w (w.alloc (.cells #[.int .i64 1,.string (strOfNums b)] 247))):=kC.below HB h.ts.lt.2.2;have X:(w.alloc (.cells #[.int .i64 1,.string (strOfNums b)] 247)).heap[w.heap.size]?=some (.cells #[.int .i64 1,.string (strOfNums b)] 247 (0,0)):=jL w _;have ag:base≤w.heap.size:=h.ts.lt.2.2;clear h HB;replace j:Hid (∀w,_):=j;go_enter Tryz.func157,Tryz.ntmps157
 go_wp2_with fail
 generalize(w.alloc (.cells #[.int .i64 1,.string (strOfNums b)] 247))=w1 at R u X ⊢;obtain⟨⟨c0,c1,c2,c3,c4⟩,z2,z3,z4⟩:=R.out.ts.facts;obtain⟨e0,e1,U,e3,e4,e5,e6,e7,e8,e9,y,z,C,E,y0,y1,y2,y3,y4,y5,y6,y7,y8,y9,F,G,I,J⟩:=oX R.out.ts.s;have L:=kh X 0;have r:=kh X 1;simp at L r;have Y:Hid (∀n,Calls Tryz.prog 170 #[.pointer (some ⟨sb,0,none⟩),.int .i64 1] (w1.drewN n) fun e w'=>e=.returned (.bool true)∧w'=w1.drewN n):=fun n=>EV _ sb 0 e9
 go_quiet ((go_at_call 170;exact jI (Y.out _)))
 go_wp2_with fail
 have h2:=R.out.drewN nq;have M:=u.out.trans (R.out.ts.drewN nq).2.wide;have c:(w1.drewN nq).heap[w.heap.size]?=some (.cells #[.int .i64 1,.string (strOfNums b)] 247 (0,0)):=X;clear c0 c1 c2 c3 c4 z2 z3 z4 e0 e1 U e3 e4 e5 e6 e7 e8 e9 y z C E y0 y1 y2 y3 y4 y5 y6 y7 y8 y9 F G I J L r Y R u X;generalize w1.drewN nq=w2 at h2 M c ⊢;have V:Hid (_):=h2;have Z:Hid (_):=M;clear h2 M;obtain⟨⟨c0,c1,c2,c3,c4⟩,z2,z3,z4⟩:=V.out.ts.facts;obtain⟨e0,e1,U,e3,e4,e5,e6,e7,e8,e9,y,z,C,E,y0,y1,y2,y3,y4,y5,y6,y7,y8,y9,F,G,I,J⟩:=oX V.out.ts.s;have L:=kh c 0;have r:=kh c 1;simp at L r
 go_region
 have W:=(V.out.kX 11 (by decide) (.int .i64 now)).drew;have N:=(Z.out.trans (V.out.ts.kX 11 (.int .i64 now)).2.wide).drew;have l0:=V.out.ts.lt;have f:(w2.setCell ⟨sb,11,none⟩ (.int .i64 now)).drew.heap[w.heap.size]?=some (.cells #[.int .i64 1,.string (strOfNums b)] 247 (0,0)):=(kA (by omega) 11 _).trans c;simp only[iz,iA,iB]at W;clear c0 c1 c2 c3 c4 z2 z3 z4 e0 e1 U e3 e4 e5 e6 e7 e8 e9 y z C E y0 y1 y2 y3 y4 y5 y6 y7 y8 y9 F G I J L r V Z c;generalize(w2.setCell ⟨sb,11,none⟩ (.int .i64 now)).drew=w3 at W N f ⊢;have L:=kh f 0;have r:=kh f 1;simp at L r;have c0:=kh W.ts.t 0;have U:=kh W.ts.s 2;simp at c0 U;have aa:w.heap.size<w3.heap.size:=(dv.1 f).1;have H3:Hid (_):=W;have ab:Hid (_):=N;clear W N f
 go_wp2_with fail
 have ad:=H3.out.ts.lt;have ae:tb<w3.heap.size:=by omega
 have af:sb<w3.heap.size:=by omega
 refine xH (D:=[]) (ops:=pQ) (val:=sP tb sb w.heap.size b qa) (fix:=[(0,.pointer (some ⟨tb,0,none⟩)),(3,.pointer (some ⟨w.heap.size,0,none⟩))]) (T:=52) (w0:=w3) (Post:=fun _ w'=>False) (n:=12) (by kernel_rfl) EW EX EY Rt
  (fun i o a w1 kW hi ho m g hs K hK=>Ru ae af aa c0 U r t j.out (fun a w' hd hB=>?_) i o a w1 kW hi ho (m (0,.pointer (some ⟨tb,0,none⟩)) (by simp)) (m (3,.pointer (some ⟨w.heap.size,0,none⟩)) (by simp)) g hs K hK)
  (fun o a w1 _ ho m g hs K hK=>?_) (fun a w1 kW hsz m hP=>hP.elim) rfl rfl ?_ ?_
 ·exact⟨hd,rfl,H3.out.below hB,ab.out.trans (kC.below hB ad.2.2)⟩
 ·simp only[pQ,Tryz.f157,opsOf,ed]at ho;simp[]at ho;subst ho;obtain⟨u0,h0,p0⟩:=g 11 _ _ rfl rfl ⟨⟨11,.data⟩,by simp,rfl,rfl⟩;simp only[sP]at p0
 ·intro x hx;simp at hx;rcases hx with rfl|rfl<;>rfl
 ·exact⟨rfl,rfl,rfl,dD _,fun _ _=>rfl⟩
end
section
open Go Go.RowKit
variable {q:Option Nat}
structure SV where
 st:Int
 hold:Int
 heard:Int
 spoke:Int
 part:List Int
inductive FR
 |go (s:SV) (add:List Int)
 |shut (add:List Int)
 |bad (t:mN) (add:List Int)
def mr (A hd now:Int) (s:SV) (k:Int) (b:List Int):FR :=
 if rQ s.st k=false then .bad ⟨5,0,[]⟩ []
 else if k=1 then match ox b A with
  |some t=>.bad t []
  |none=>.go { s with st:=2,hold:=tn hd (mM ((b.drop 3).take 2)),heard:=now,spoke:=now } (ld 4 [])
 else if k=4 then .go { s with st:=3,heard:=now } []
 else if k=3 then .shut []
 else .go { s with heard:=now } []
def lB (A hd now:Int):Nat→SV→List Int→List Int→FR
 |0,s,acc,_=>.go s acc
 |n+1,s,acc,d =>
  if d=[] then .go s acc else
  match my s.part d with
  | .bad t _=>.bad t acc
  | .more ys=>lB A hd now n { s with part:=ys } acc (d.drop (kU s.part d))
  | .whole k b=>match mr A hd now { s with part:=[] } k b with
   | .bad t _=>.bad t acc
   | .shut _=>.shut acc
   | .go s' add=>lB A hd now n s' (acc++add) (d.drop (kU s.part d))
theorem pR(A hd now:Int)(n:Nat)(s:SV)(acc:List Int):lB A hd now n s acc []=.go s acc:=by
 cases n<;>simp[lB]
def mz (q:Option Nat) (w:World) (base tb sb:Nat) (now:Int) (sv:Value) (sent:List Int) (cl ov:Bool) (au id:Int) (p:Pz) (s:SV) (pv:Value):Prop :=
 kH q w base tb sb now sv sent cl ov (kt au id p s.st s.hold s.heard s.spoke pv) pv s.part
def FQ (q:Option Nat) (w:World) (base tb sb:Nat) (now:Int) (sent:List Int) (au id:Int) (p:Pz) (r:FR) (e:Ending) (w':World):Prop :=
 kC q base tb sb w w'∧match r with
  | .go s add=>(∃v,e=.returned v)∧∃sv pv,mz q w' base tb sb now sv (sent++add) false false au id p s pv
  | .shut add=>(∃v,e=.returned v)∧∃sv,TS w' base tb sb now sv (sent++add) true true (kt au id p 0 0 0 0 (.slice none 0 0))
  | .bad t add=>e=.panicked [{ v:=t.val,recovered:=false }]∧∃sv s pv,mz q w' base tb sb now sv (sent++add) false false au id p s pv
section
variable {w:World} {base tb sb:Nat} {now:Int} {sv:Value} {sent:List Int} {au id:Int} {p:Pz} {s:SV} {pv:Value}
theorem mz.slice{cl ov:Bool}(h:mz q w base tb sb now sv sent cl ov au id p s pv):∃pa pl pc,pv=.slice pa pl pc:=by
 obtain⟨ao,c,e,_⟩:=mV h.own;exact⟨ao,_,c,e⟩
theorem Rw(h:mz q w base tb sb now sv sent false false au id p s pv)(z:sent.length≤50000){k:Int}{b:List Int}(E:1≤k∧k≤4)(hb:Bytes b)(o:k=1→10≤b.length):Calls Tryz.prog 157 #[.pointer (some ⟨tb,0,none⟩),.agg #[.int .i64 k,.string (strOfNums b)]] w fun e w'=>FQ q w base tb sb now sent au id p (mr p.au p.hold now s k b) e w':=by
 obtain⟨st,hold,heard,spoke,part⟩:=s;have r:=h.slice;unfold mz at h;simp only at h
 cases hB:rQ st k
 ·refine(Rs h hB).mono ?_;rintro e w' ⟨rfl,a,c⟩;refine⟨c,?_⟩;simp only[mr,hB,dn];exact⟨by first|trivial|rfl,sv,⟨st,hold,heard,spoke,part⟩,pv,by unfold mz;rw[ij];exact a⟩
 ·by_cases m:k=1
  ·subst m;have u:st=1:=by
    unfold rQ at hB;simp at hB;exact hB
   subst u;have j:=fun w=>Rn hb (o rfl) p.au w
   cases f:ox b p.au with
   |some t =>
    refine(Rv h t (b:=b) fun w=>(j w).mono fun e w' g=>?_).mono ?_
    ·unfold pB at g;rw[f]at g;exact⟨g.2,g.1⟩
    ·rintro e w' ⟨rfl,a,c⟩;refine⟨c,?_⟩;simp only[mr,hB,f,dn,jO,dp];exact⟨by first|trivial|rfl,sv,⟨1,hold,now,spoke,part⟩,pv,by unfold mz;rw[ij];exact a⟩
   |none =>
    have C:mM ((b.drop 1).take 2)=p.au:=by
     unfold ox at f;split at f
     ·cases f
     ·split at f
      ·cases f
      ·rename_i h;exact Decidable.not_not.1 h
    refine(Q8 h z (b:=b) (n2:=mM ((b.drop 3).take 2)) (n3:=mM ((b.drop 5).take 4)) (fun w=>(j w).mono fun e w' g=>?_)).mono ?_
    ·unfold pB at g;rw[f,C]at g;exact⟨g.2,g.1⟩
    ·rintro e w' ⟨i,sv',a,c⟩;refine⟨c,?_⟩;simp only[mr,hB,f,dn,jO,dp];exact⟨i,sv',pv,a⟩
  ·by_cases x:k=4
   ·subst x;refine(Ro h (b:=b) hB).mono ?_;rintro e w' ⟨i,a,c⟩;refine⟨c,?_⟩;simp only[mr,hB,dn,jO,dp,m];exact⟨i,sv,pv,by unfold mz;rw[ij];exact a⟩
   ·by_cases y:k=3
    ·subst y;refine(Rq h (b:=b) r).mono ?_;rintro e w' ⟨i,a,c⟩;refine⟨c,?_⟩;simp only[mr,hB,dn,jO,dp,m,x];exact⟨i,sv,by rw[ij];exact a⟩
    ·obtain rfl:k=2:=by omega
     refine(Rp h (b:=b) hB).mono ?_;rintro e w' ⟨i,a,c⟩;refine⟨c,?_⟩;simp only[mr,hB,jO,dp,m,x,y];exact⟨i,sv,pv,by unfold mz;rw[ij];exact a⟩
end
end
section
open Go Go.RowKit
theorem Fq{xs:List Int}(h:0<xs.length):(strOfNums xs).toList.isEmpty=false:=by
 rw[jJ]
 cases xs with
 |nil=>exact absurd h (jd _)
 |cons x xs=>rfl
theorem Fs:(strOfNums []).toList.isEmpty=true:=by rw[jJ];rfl
theorem Rx{w:World}{base tb sb:Nat}{now:Int}{sv:Value}{sent:List Int}{cl ov:Bool}{au id:Int}{p:Pz}{hold heard spoke:Int}{pv:Value}(h:TS w base tb sb now sv sent cl ov (kt au id p 0 hold heard spoke pv))(s:ByteArray):Calls Tryz.prog 148 #[.pointer (some ⟨tb,0,none⟩),.string s] w fun e w'=>(∃v,e=.returned v)∧w'=w:=by
 obtain⟨c,f,g,i,j,ia,il,ic,ea,el,ec⟩:=p;simp only[kt]at h;obtain⟨⟨c0,c1,c2,c3,c4⟩,z2,m,o⟩:=h.facts;have a:=kh h.s 9;simp at a;clear h;go_enter Tryz.func148,Tryz.ntmps148
 go_wp2_with fail
 exact iQ (v:=.tuple #[]) (by simp[results,Tryz.results148,go_sem]) rfl ⟨⟨_,rfl⟩,rfl⟩
end
section
open Go Go.RowKit
variable {q:Option Nat}
variable {xs d:List Int}
theorem xI(h:nw xs)(hd:0<d.length):0<kU xs d∧kU xs d≤d.length∧(kU xs d:Int)≤lg xs:=by
 have:=h.want;unfold kU;omega
theorem Br(h:nw xs)(hd:Bytes d)(a:0<d.length):let ys:=xs++d.take (kU xs d)
  Bytes ys∧(19<ys.length→m9 (ys.take 19)=none)∧ys.length=xs.length+kU xs d:=by
 intro ys;obtain⟨g,i,j⟩:=xI h a;have c:ys.length=xs.length+kU xs d:=by
  show(xs++d.take (kU xs d)).length=_;rw[jh,jw];omega
 refine⟨h.bytes.app fun x hx=>hd x (jy hx),fun f=>?_,c⟩
 by_cases hx:xs.length<19
 ·have:lg xs=19-(xs.length:Int):=by unfold lg;rw[dr hx]
  omega
 ·have e:ys.take 19=xs.take 19:=jM (by omega);rw[e];exact(h.ok (by omega)).1
variable {ys:List Int}
theorem vg(h:nw xs)(hd:Bytes d)(a:0<d.length)(e:my xs d=.more ys):nw ys:=by
 obtain⟨k1,k2,g⟩:=Br h hd a;unfold my qM at e;generalize xs++d.take (kU xs d)=j at e k1 k2 g;split at e
 ·cases e
 ·rename_i f;split at e
  ·rename_i hp
   cases e
   refine⟨k1,fun i=>?_⟩;have hw:lg ys=lr ys-(ys.length:Int):=by unfold lg;rw[dt (by omega)]
   refine⟨?_,by omega⟩
   by_cases c:ys.length=19
   ·rw[dr c]at f;exact f
   ·exact k2 (by omega)
  ·cases e
theorem Ry{h:List Int}(e:m9 h=none):1≤mF h∧mF h≤4∧u6 (mF h) (lr h)=true:=by
 unfold m9 at e;split at e
 ·split at e
  ·cases e
  ·split at e
   ·cases e
   ·split at e
    ·rename_i hm;exact⟨by omega,by omega,hm⟩
    ·cases e
 ·cases e
theorem Rz(h:19≤ys.length):mF (ys.take 19)=mF ys:=by
 unfold mF;rw[jK,jK,jF (by omega)]
variable {b:List Int} {k:Int}
theorem Bs(h:nw xs)(hd:Bytes d)(f:0<d.length)(e:my xs d=.whole k b):(1≤k∧k≤4)∧Bytes b∧(k=1→10≤b.length):=by
 obtain⟨k1,k2,o⟩:=Br h hd f;unfold my qM at e;generalize xs++d.take (kU xs d)=ys at e k1 k2 o;split at e
 ·cases e
 ·rename_i i;split at e
  ·cases e
  ·rename_i hp;have a:19≤ys.length:=by
    by_cases r:ys.length<19
    ·have:lg ys=19-(ys.length:Int):=by unfold lg;rw[dr r]
     omega
    ·omega
   have hw:lg ys=lr ys-(ys.length:Int):=by unfold lg;rw[dt (by omega)]
   have hb:m9 (ys.take 19)=none:=by
    by_cases g:ys.length=19
    ·rw[dr g]at i;exact i
    ·exact k2 (by omega)
   obtain⟨j,m,c⟩:=Ry hb;rw[Rz a]at j m c;rw[tZ ys a]at c
   cases e
   refine⟨⟨j,m⟩,fun x hx=>k1 x (jz hx),fun u=>?_⟩;rw[u]at c;simp[u6]at c;rw[jx];omega
variable {A hd now:Int} {n:Nat} {s:SV} {acc:List Int} {t:mN}
theorem rm(a:d≠[])(h:my s.part d=.bad t ys):lB A hd now (n+1) s acc d=.bad t acc:=by
 rw[lB,dt a,h]
theorem qg(a:d≠[])(h:my s.part d=.more ys):lB A hd now (n+1) s acc d=lB A hd now n { s with part:=ys } acc (d.drop (kU s.part d)):=by
 rw[lB,dt a,h]
variable {l:List Int}
theorem rn(a:d≠[])(h:my s.part d=.whole k b)(c:mr A hd now { s with part:=[] } k b=.bad t l):lB A hd now (n+1) s acc d=.bad t acc:=by
 rw[lB,dt a,h];simp only[c]
theorem rp(a:d≠[])(h:my s.part d=.whole k b)(c:mr A hd now { s with part:=[] } k b=.shut l):lB A hd now (n+1) s acc d=.shut acc:=by
 rw[lB,dt a,h];simp only[c]
variable {s':SV} {add:List Int}
theorem rq(a:d≠[])(h:my s.part d=.whole k b)(c:mr A hd now { s with part:=[] } k b=.go s' add):lB A hd now (n+1) s acc d=lB A hd now n s' (acc++add) (d.drop (kU s.part d)):=by
 rw[lB,dt a,h];simp only[c]
theorem yW(h:mr A hd now s k b=.go s' add):s'.part=s.part∧((s.st=1∧s'.st≠1∧add.length=19)∨add=[])∧(s'.st=1→s.st=1∧add=[]):=by
 unfold mr at h;split at h
 ·cases h
 ·rename_i hb;split at h
  ·rename_i f;subst f;have c:s.st=1:=by
    cases a:rQ s.st 1
    ·exact absurd a hb
    ·unfold rQ at a;simp at a;exact a
   split at h
   ·cases h
   ·cases h;exact⟨rfl,.inl ⟨c,by simp,by decide⟩,fun e=>by simp at e⟩
  ·split at h
   ·cases h;exact⟨rfl,.inr rfl,fun e=>by simp at e⟩
   ·split at h
    ·cases h
    ·cases h;exact⟨rfl,.inr rfl,fun e=>⟨e,rfl⟩⟩
theorem RA(h:mr A hd now s k b=.shut l):l=[]:=by
 unfold mr at h;split at h
 ·cases h
 ·split at h
  ·split at h<;>cases h
  ·split at h
   ·cases h
   ·split at h<;>cases h;rfl
theorem RD(h:mr A hd now s k b=.bad t l):l=[]:=by
 unfold mr at h;split at h
 ·cases h;rfl
 ·split at h
  ·split at h<;>cases h;rfl
  ·split at h
   ·cases h
   ·split at h<;>cases h
theorem we:nw []:=⟨Bytes.nil,fun h=>by simp at h⟩
section
variable {w:World} {base tb sb:Nat} {now:Int} {sv:Value} {sent:List Int} {au id:Int} {p:Pz} {s:SV} {pv:Value}
def Ft (q:Option Nat) (w:World) (base tb sb:Nat) (now:Int) (sent:List Int) (au id:Int) (p:Pz) (n0:Nat) (s0:SV) (d0:List Int) (v:Value) (wr:World):Prop :=
  ∃ d,v=.string (strOfNums d)∧Bytes d∧d.length≤1152921504606846976∧kC q base tb sb w wr ∧
    ((∃ n s acc sv pv,d.length≤n∧mz q wr base tb sb now sv (sent++acc) false false au id p s pv∧nw s.part∧acc.length≤19∧(s.st=1→acc=[])∧lB p.au p.hold now n0 s0 [] d0=lB p.au p.hold now n s acc d) ∨
     (∃ acc sv,TS wr base tb sb now sv (sent++acc) true true (kt au id p 0 0 0 0 (.slice none 0 0))∧lB p.au p.hold now n0 s0 [] d0=.shut acc))
theorem RE(h:mz q w base tb sb now sv sent false false au id p s pv)(ai:s.st≠0)(L:nw s.part)(hl:sent.length≤40000){d:List Int}(hd:Bytes d)(aj:d.length≤1152921504606846976):Calls Tryz.prog 148 #[.pointer (some ⟨tb,0,none⟩),.string (strOfNums d)] w fun e w'=>FQ q w base tb sb now sent au id p (lB p.au p.hold now d.length s [] d) e w':=by
 have aa:Hid (Ft q w base tb sb now sent au id p d.length s d (.string (strOfNums d)) w):=⟨d,rfl,hd,aj,kC.refl q _ _ _ _,.inl ⟨d.length,s,[],sv,pv,dD _,by rw[ij];exact h,L,by simp,fun _=>rfl,rfl⟩⟩;have Hl:Hid (_):=hl;have hT:=h.ts;obtain⟨⟨c0,c1,c2,c3,c4⟩,z2,z3,z4⟩:=hT.facts;have b9:=kh hT.s 9;simp[kt]at b9;have ak:(s.st == 0)=false:=by simpa using ai
 clear h hT L hl hd aj ai;go_enter Tryz.func148,Tryz.ntmps148
 go_wp2_with fail
 clear c0 c1 c2 c3 c4 z2 z3 z4 b9 ak
 go_loopw [1] (fun v wr=>Ft q w base tb sb now sent au id p d.length s d v wr) (fun v _=>match v with | .string x=>x.size|_=>0)
 case atStart=>exact aa.out
 case round =>
  obtain⟨d1,rfl,al,am,an,ab⟩:=hrel;have E:Hid (_):=an;have M:Hid (_):=al;have U:Hid (_):=am;clear an al am;rcases ab with⟨n,s1,acc,y,N,hn,hS,L,ha,Y,heq⟩|⟨acc,y,hT,heq⟩
  ·have HS:Hid (_):=hS;have V:Hid (_):=L;have ad:Hid (_):=Y;have Hn:Hid (d1.length≤n∧acc.length≤19):=⟨hn,ha⟩;clear hS L Y hn ha;obtain⟨⟨c0,c1,c2,c3,c4⟩,z2,z3,z4⟩:=HS.out.ts.facts
   by_cases g:d1=[]
   ·subst g;have m0:=Fs;rw[pR]at heq;have HF:Hid (_):=heq;clear heq
    go_wp2_with fail
    refine jB (v:=.tuple #[]) (by simp[results,Tryz.results148,go_sem]) rfl ?_;rw[HF.out];exact⟨E.out,⟨_,rfl⟩,y,N,HS.out⟩
   ·have f:0<d1.length:=(by cases d1 with|nil=>exact absurd rfl g|cons x xs=>simp);have m0:=Fq (xs:=d1) f;obtain⟨n,rfl⟩:∃n',n=n'+1:=⟨n-1,by have:=Hn.out.1;omega⟩;have F:=xI V.out f;have z:=Rk HS.out rfl V.out M.out f U.out;rcases a:my s1.part d1 with⟨t,ys⟩|⟨ys⟩|⟨k,b⟩
    ·rw[a]at z;rw[rm g a]at heq;have HF:Hid (_):=heq;have W:Hid (Calls Tryz.prog 156 #[.pointer (some ⟨sb,13,none⟩),.string (strOfNums d1)] wr fun e w'=>e=.panicked [{ v:=t.val,recovered:=false }]∧kC q base tb sb wr w'∧∃c,kH q w' base tb sb now y (sent++acc) false false ((kt au id p s1.st s1.hold s1.heard s1.spoke N).setIfInBounds 13 c) c ys):=z.mono fun e w' h=>⟨h.2.1,h.1,h.2.2⟩
     clear heq z a F g f
     go_wp2_with (go_at_call 156;go_loud (refine W.out.mono ?_);go_loud (rintro e w1 ⟨rfl,m,c,i⟩))
     refine⟨rfl,?_⟩;rw[HF.out];exact⟨E.out.trans m,rfl,y,{ s1 with part:=ys },c,i⟩
    ·rw[a]at z;rw[qg g a]at heq;have Z:=vg V.out M.out f a;have W:Hid (Calls Tryz.prog 156 #[.pointer (some ⟨sb,13,none⟩),.string (strOfNums d1)] wr fun e w'=>e=.returned (.tuple #[.string (strOfNums (d1.drop (kU s1.part d1))),.agg #[.int .i64 0,.string (strOfNums [])],.bool false])∧kC q base tb sb wr w'∧∃c,kH q w' base tb sb now y (sent++acc) false false ((kt au id p s1.st s1.hold s1.heard s1.spoke N).setIfInBounds 13 c) c ys):=z.mono fun e w' h=>⟨h.2.1,h.1,h.2.2⟩
     have HE:Hid (_):=heq;have ao:Hid (_):=Z;have ap:Hid (0<kU s1.part d1∧kU s1.part d1≤d1.length):=⟨F.1,F.2.1⟩;obtain⟨d2,j⟩:∃x,x=d1.drop (kU s1.part d1):=⟨_,rfl⟩;have o:Hid (d2.length<d1.length∧Bytes d2∧d2=d1.drop (kU s1.part d1)):=⟨by rw[j,jx];omega,fun x hx=>M.out x (jz (by rw[←j];exact hx)),j⟩;rw[←j]at W HE;clear heq z a F g f Z j
     go_wp2_with (go_at_call 156;go_loud (refine W.out.mono ?_);go_loud (rintro e w1 ⟨rfl,m,c,i⟩))
     have ae:Below w1.heap.size w1 (w1.alloc (.cells #[.int .i64 0,.string (strOfNums [])] 247)):=(iJ _ _).alloc (dD _) _;have C:Hid (kH q _ base tb sb now y (sent++acc) false false ((kt au id p s1.st s1.hold s1.heard s1.spoke N).setIfInBounds 13 c) c ys):=i.below ae;have G:Hid (kC q base tb sb w _):=E.out.trans (m.trans (kC.below ae i.ts.lt.2.2));clear i m ae;refine⟨⟨d2,rfl,o.out.2.1,by have:=o.out.1;have:=U.out;omega,G.out,.inl ⟨n,{ s1 with part:=ys },acc,y,c,by have:=o.out.1;have:=Hn.out.1;omega,C.out,ao.out,Hn.out.2,ad.out,HE.out⟩⟩,?_⟩;simp only[jf];exact o.out.1
    ·rw[a]at z;obtain⟨hk,hb,X⟩:=Bs V.out M.out f a;have W:Hid (Calls Tryz.prog 156 #[.pointer (some ⟨sb,13,none⟩),.string (strOfNums d1)] wr fun e w'=>e=.returned (.tuple #[.string (strOfNums (d1.drop (kU s1.part d1))),.agg #[.int .i64 k,.string (strOfNums b)],.bool true])∧kC q base tb sb wr w'∧∃c,kH q w' base tb sb now y (sent++acc) false false ((kt au id p s1.st s1.hold s1.heard s1.spoke N).setIfInBounds 13 c) c []):=z.mono fun e w' h=>⟨h.2.1,h.1,h.2.2⟩
     obtain⟨d2,j⟩:∃x,x=d1.drop (kU s1.part d1):=⟨_,rfl⟩;have o:Hid (d2.length<d1.length∧Bytes d2∧d2=d1.drop (kU s1.part d1)):=⟨by rw[j,jx];omega,fun x hx=>M.out x (jz (by rw[←j];exact hx)),j⟩;have K:Hid (∀v wx,mz q wx base tb sb now y (sent++acc) false false au id p { s1 with part:=[] } v→Calls Tryz.prog 157 #[.pointer (some ⟨tb,0,none⟩),.agg #[.int .i64 k,.string (strOfNums b)]] wx fun e w'=>FQ q wx base tb sb now (sent++acc) au id p (mr p.au p.hold now { s1 with part:=[] } k b) e w'):=fun v wx hx=>Rw hx (by have:=Hl.out;have:=Hn.out.2;rw[jh];omega) hk hb X
     rw[←j]at W;rcases u:mr p.au p.hold now { s1 with part:=[] } k b with⟨s2,add⟩|⟨add⟩|⟨t,add⟩
     ·rw[rq g a u,←j]at heq;obtain⟨q1,q2,q3⟩:=yW u;have HE:Hid (_):=heq;have HQ:Hid (nw s2.part∧(acc++add).length≤19∧(s2.st=1→acc++add=[])):=by
       refine⟨by rw[q1];exact we,?_,fun e=>?_⟩
       ·rcases q2 with⟨r1,_,r2⟩|r
        ·rw[ad.out r1,ix];omega
        ·rw[r,ij];exact Hn.out.2
       ·obtain⟨r1,r2⟩:=q3 e;rw[ad.out r1,r2];rfl
      rw[u]at K;clear heq z a F g f j hk hb X u q1 q2 q3
      go_wp2_with (first
       |(go_at_call 156;go_loud (refine W.out.mono ?_);go_loud (rintro e w1 ⟨rfl,m,c,i⟩);go_loud (have C:Hid (_):=i);go_loud (have G:Hid (_):=m);clear i m)
       |(go_at_call 157;go_loud (refine jP (K.out c _ (C.out.below ji)) ?_);go_loud (rintro e w3 ⟨I,⟨v3,rfl⟩,R,af,J⟩)))
      have ag:Hid (kC q base tb sb w w3):=E.out.trans (G.out.trans ((kC.below ji C.out.ts.lt.2.2).trans I));have ah:Hid (_):=J;clear J I
      go_wp2_with fail
      refine⟨⟨d2,rfl,o.out.2.1,by have:=o.out.1;have:=U.out;omega,ag.out,.inl ⟨n,s2,acc++add,R,af,by have:=o.out.1;have:=Hn.out.1;omega,by rw[←iF];exact ah.out,HQ.out.1,HQ.out.2.1,HQ.out.2.2,HE.out⟩⟩,?_⟩;simp only[jf];exact o.out.1
     ·rw[rp g a u]at heq;obtain rfl:=RA u;have HE:Hid (_):=heq;rw[u]at K;clear heq z a F g f j hk hb X u
      go_wp2_with (first
       |(go_at_call 156;go_loud (refine W.out.mono ?_);go_loud (rintro e w1 ⟨rfl,m,c,i⟩);go_loud (have C:Hid (_):=i);go_loud (have G:Hid (_):=m);clear i m)
       |(go_at_call 157;go_loud (refine jP (K.out c _ (C.out.below ji)) ?_);go_loud (rintro e w3 ⟨I,⟨v3,rfl⟩,R,J⟩)))
      have ag:Hid (kC q base tb sb w w3):=E.out.trans (G.out.trans ((kC.below ji C.out.ts.lt.2.2).trans I));have ah:Hid (_):=J;clear J I
      go_wp2_with fail
      refine⟨⟨d2,rfl,o.out.2.1,by have:=o.out.1;have:=U.out;omega,ag.out,.inr ⟨acc,R,by have:=ah.out;rw[ij]at this;exact this,HE.out⟩⟩,?_⟩;simp only[jf];exact o.out.1
     ·rw[rn g a u]at heq;obtain rfl:=RD u;have HE:Hid (_):=heq;rw[u]at K;clear heq z a F g f j hk hb X u
      go_wp2_with (first
       |(go_at_call 156;go_loud (refine W.out.mono ?_);go_loud (rintro e w1 ⟨rfl,m,c,i⟩);go_loud (have C:Hid (_):=i);go_loud (have G:Hid (_):=m);clear i m)
       |(go_at_call 157;go_loud (refine jP (K.out c _ (C.out.below ji)) ?_);go_loud (rintro e w3 ⟨I,rfl,R,s3,af,J⟩)))
      refine⟨rfl,?_⟩;rw[HE.out];exact⟨E.out.trans (G.out.trans ((kC.below ji C.out.ts.lt.2.2).trans I)),rfl,R,s3,af,by have:=J;rw[ij]at this;exact this⟩
  ·have HT:Hid (_):=hT;have HF:Hid (_):=heq;obtain⟨⟨c0,c1,c2,c3,c4⟩,z2,z3,z4⟩:=hT.facts;clear hT heq
   by_cases g:d1=[]
   ·subst g;have m0:=Fs
    go_wp2_with fail
    refine jB (v:=.tuple #[]) (by simp[results,Tryz.results148,go_sem]) rfl ?_;rw[HF.out];exact⟨E.out,⟨_,rfl⟩,y,HT.out⟩
   ·have m0:=Fq (xs:=d1) (by cases d1 with|nil=>exact absurd rfl g|cons x xs=>simp)
    go_wp2_with fail
    refine jB (v:=.tuple #[]) (by simp[results,Tryz.results148,go_sem]) rfl ?_;rw[HF.out];exact⟨E.out,⟨_,rfl⟩,y,HT.out⟩
end
end
section
open Go Go.RowKit
open Go.Proofs.YtjnkcibpkkjniaaGreat.kN (pw lh yE)
def oN (au hold id:Int) (bb:Nat):Nat→Value→World→Prop
 |0,v,w=>∃b c,v=.slice (some ⟨b,0,none⟩) 1 c∧b<w.heap.size∧w.cell? ⟨b,0,none⟩=some (.int .u8 4)
 |1,v,_=>v=.string (strOfNums [4])
 |2,v,_=>v=.pointer (some ⟨bb,0,none⟩)
 |3,v,_=>v=.int .i64 au
 |4,v,_=>v=.string (strOfNums (ly au))
 |5,v,_=>v=.string (strOfNums (4::ly au))
 |6,v,_=>v=.pointer (some ⟨bb,1,none⟩)
 |7,v,_=>v=.int .i64 hold
 |8,v,_=>v=.string (strOfNums (ly hold))
 |9,v,_=>v=.string (strOfNums (4::(ly au++ly hold)))
 |10,v,_=>v=.pointer (some ⟨bb,2,none⟩)
 |11,v,_=>v=.int .u32 id
 |12,v,_=>v=.string (strOfNums (px id))
 |13,v,_=>v=.string (strOfNums (4::(ly au++(ly hold++px id))))
 |14,v,_=>v=.string (strOfNums (4::(ly au++(ly hold++(px id++[0])))))
 |_,v,_=>v=.string (strOfNums (ld 1 (4::(ly au++(ly hold++(px id++[0]))))))
variable {au hold id:Int} {bb:Nat}
theorem RF{w w':World}(hB:Below w.heap.size w w'):∀j u,oN au hold id bb j u w→oN au hold id bb j u w':=by
 intro j u h;unfold oN at h ⊢;split at h<;>first|exact h|skip
 obtain⟨b,c,e,a,f⟩:=h;exact⟨b,c,e,dF a hB.size,(hB.cell (p:=⟨b,0,none⟩) a).trans f⟩
noncomputable def tu:Array Oper:=match Tryz.f155.body with
 |some (.seq _ (.seq (.region _ ops _) _))=>ops
 |some (.seq _ (.region _ ops _))=>ops
 |_=>#[]
theorem RG:lh tu [1] 19=true:=by kernel_rfl
theorem RH{Q:Exit→Act→World→Prop}{w0:World}(x:bb<w0.heap.size)(c0:w0.cell? ⟨bb,0,none⟩=some (.int .i64 au))(c1:w0.cell? ⟨bb,1,none⟩=some (.int .i64 hold))(c2:w0.cell? ⟨bb,2,none⟩=some (.int .u32 id))(i:Nat)(o:Oper)(listed:Array Bool)(a:Act)(w:World)(y:tu[i]?=some o)(hr:i∈Region.ready .any tu listed)(C:pw tu (oN au hold id bb) [(1,.pointer (some ⟨bb,0,none⟩))] 19 listed a w)(E:Below w0.heap.size w0 w)(K:Act→World→Prop)(m:∀v w',oN au hold id bb i v w'→Below w.heap.size w w'→K (a.put o.dst v) w'):o.wp Tryz.prog a w K Q:=by
 have M:i<17:=by
  have:=(dv.1 y).1;have N:tu.size=17:=by kernel_rfl
  omega
 have f1:a.tmps[1]?=some (.pointer (some ⟨bb,0,none⟩)):=C.fix (1,.pointer (some ⟨bb,0,none⟩)) (by simp);have R:=(E.cell (p:=⟨bb,0,none⟩) x).trans c0;have U:=(E.cell (p:=⟨bb,1,none⟩) x).trans c1;have V:=(E.cell (p:=⟨bb,2,none⟩) x).trans c2;have f:∀(j:Nat)(o':Oper)(d:Nat),tu[j]?=some o'→o'.dst=some d→(∃e∈o.after,e.on=j∧Region.binds .any e=true)→∃v,a.tmps[d]?=some v∧oN au hold id bb j v w:=fun j o' d L hd he=>C.dep y hr L hd he
 clear hr C;obtain rfl|rfl|rfl|rfl|rfl|rfl|rfl|rfl|rfl|rfl|rfl|rfl|rfl|rfl|rfl|rfl|rfl:i=0∨i=1∨i=2∨i=3∨i=4∨i=5∨i=6∨i=7∨i=8∨i=9∨i=10∨i=11∨i=12∨i=13∨i=14∨i=15∨i=16:=by omega
 all_goals
  simp only[tu,Tryz.f155]at y;simp only[fV,gB,fW,dW]at y;subst y
 all_goals try
  first
  |(unfold Oper.wp execOp;simp only[Act.eval,dA,f1,eE];go_simp;exact m _ _ rfl (iJ _ _))
  |(obtain⟨u,h,g⟩:=f _ _ _ (by rfl) (by rfl) ⟨_,⟨List.Mem.head _⟩,rfl,rfl⟩;simp only[oN]at g;subst g;unfold Oper.wp execOp;simp only[Act.eval,dA,h,eE];go_simp;exact m _ _ rfl (iJ _ _))
 ·unfold Oper.wp execOp;go_simp;refine m _ _ ⟨w.heap.size,1,rfl,by simp,by simp⟩ ji
 ·obtain⟨u,h,b,c,rfl,r,p2⟩:=f 0 _ _ rfl rfl ⟨⟨0,.data⟩,by simp,rfl,rfl⟩;have kc:=AY w b c 4 p2;unfold Oper.wp execOp;simp only[Act.eval,dA,h,eE];go_simp;exact m _ _ rfl (iJ _ _)
 ·obtain⟨u,h,g⟩:=f 3 _ _ rfl rfl ⟨⟨3,.data⟩,by simp,rfl,rfl⟩;simp only[oN]at g;subst g;unfold Oper.wp execOp;simp only[];go_simp;refine(AZ au w).mono ?_;rintro e w1 ⟨rfl,hB⟩;exact m _ _ rfl hB
 ·obtain⟨u,h,g⟩:=f 1 _ _ rfl rfl ⟨⟨1,.data⟩,by simp,rfl,rfl⟩;simp only[oN]at g;subst g;obtain⟨F,z,r⟩:=f 4 _ _ rfl rfl ⟨⟨4,.data⟩,by simp,rfl,rfl⟩;simp only[oN]at r;subst r;have G:=sK;have I:=jf;have k2:=rf;have J:=jj;have ka:=xB;unfold Oper.wp execOp;simp only[Act.eval,dA,h,z,eE];go_simp;exact m _ _ rfl (iJ _ _)
 ·obtain⟨u,h,g⟩:=f 7 _ _ rfl rfl ⟨⟨7,.data⟩,by simp,rfl,rfl⟩;simp only[oN]at g;subst g;unfold Oper.wp execOp;simp only[];go_simp;refine(AZ hold w).mono ?_;rintro e w1 ⟨rfl,hB⟩;exact m _ _ rfl hB
 ·obtain⟨u,h,g⟩:=f 5 _ _ rfl rfl ⟨⟨5,.data⟩,by simp,rfl,rfl⟩;simp only[oN]at g;subst g;obtain⟨F,z,r⟩:=f 8 _ _ rfl rfl ⟨⟨8,.data⟩,by simp,rfl,rfl⟩;simp only[oN]at r;subst r;have G:=sK;have I:=jf;have k2:=rf;have J:=jj;have ka:=xB;unfold Oper.wp execOp;simp only[Act.eval,dA,h,z,eE];go_simp;exact m _ _ rfl (iJ _ _)
 ·obtain⟨u,h,g⟩:=f 11 _ _ rfl rfl ⟨⟨11,.data⟩,by simp,rfl,rfl⟩;simp only[oN]at g;subst g;unfold Oper.wp execOp;simp only[];go_simp;refine(Qn id w).mono ?_;rintro e w1 ⟨rfl,hB⟩;exact m _ _ rfl hB
 ·obtain⟨u,h,g⟩:=f 9 _ _ rfl rfl ⟨⟨9,.data⟩,by simp,rfl,rfl⟩;simp only[oN]at g;subst g;obtain⟨F,z,r⟩:=f 12 _ _ rfl rfl ⟨⟨12,.data⟩,by simp,rfl,rfl⟩;simp only[oN]at r;subst r;have G:=sK;have I:=jf;have k2:=rf;have J:=jj;have ka:=xB;unfold Oper.wp execOp;simp only[Act.eval,dA,h,z,eE];go_simp;exact m _ _ rfl (iJ _ _)
 ·obtain⟨u,h,g⟩:=f 14 _ _ rfl rfl ⟨⟨14,.data⟩,by simp,rfl,rfl⟩;simp only[oN]at g;subst g;unfold Oper.wp execOp;simp only[];go_simp;refine(A2 1 _ (by simp[rf,jj]) w).mono ?_;rintro e w1 ⟨rfl,hB⟩;exact m _ _ rfl hB
theorem RI(au hold id:Int)(w:World):Calls Tryz.prog 155 #[.agg #[.int .i64 au,.int .i64 hold,.int .u32 id]] w fun e w'=>e=.returned (.string (strOfNums (ld 1 (4::(ly au++(ly hold++(px id++[0])))))))∧Below w.heap.size w w':=by
 have c:=fun(Q:Exit→Act→World→Prop)=>RH (Q:=Q) (au:=au) (hold:=hold) (id:=id) (bb:=w.heap.size) (w0:=w.alloc (.cells #[.int .i64 au,.int .i64 hold,.int .u32 id] 245)) (by simp) (by simp) (by simp) (by simp)
 have r:Hid (∀Q,_):=c;clear c;go_enter Tryz.func155,Tryz.ntmps155
 go_wp2_with fail
 refine yE (ops:=tu) (val:=oN au hold id w.heap.size) (fix:=[(1,.pointer (some ⟨w.heap.size,0,none⟩))]) (T:=19) (Sok:=fun _ w'=>Below (w.alloc (.cells #[.int .i64 au,.int .i64 hold,.int .u32 id] 245)).heap.size (w.alloc (.cells #[.int .i64 au,.int .i64 hold,.int .u32 id] 245)) w') (by kernel_rfl) RG (fun i o listed a w1 y hr h f K z=>r.out _ i o listed a w1 y hr h f K fun v w' m hB=>z v w' m (fun j u _=>RF hB j u) (f.trans (hB.mono f.size))) (fun listed a w1 h g f=>?_) rfl rfl ?_ ?_
 ·obtain⟨v,m,rfl⟩:=h.val 16 _ 2 rfl (g 16 (by rw[show tu.size=17 by kernel_rfl];decide)) rfl;have hB:Below w.heap.size w w1:=jC ((iJ _ _).alloc (dD _) _) (f.mono (by simp));obtain⟨C,E⟩:=a;have kW:=h.defers;simp only at m kW;subst kW
  go_wp2_with fail
  exact iQ (fB (t:=2) (by rfl) _ _ _) rfl ⟨by rw[dA,m];rfl,hB⟩
 ·intro x hx;simp at hx;subst hx;rfl
 ·exact⟨rfl,rfl,rfl,dD _,fun _ _=>rfl⟩
end
section
open Go Go.RowKit
open Go.Proofs.YtjnkcibpkkjniaaGreat.kN (pw lh yE mX)
def rR (tb sb:Nat) (au ph id:Int):Nat→Value→Prop
 |0,v=>v=.pointer (some ⟨tb,0,none⟩)
 |1,v=>v=.pointer (some ⟨tb,0,none⟩)
 |2,v=>v=.pointer (some ⟨tb,0,none⟩)
 |3,v=>v=.pointer (some ⟨tb,0,none⟩)
 |4,v=>v=.pointer (some ⟨sb,0,none⟩)
 |5,v=>v=.pointer (some ⟨sb,0,none⟩)
 |6,v=>v=.pointer (some ⟨sb,0,none⟩)
 |7,v=>v=.int .i64 au
 |8,v=>v=.pointer (some ⟨tb,0,none⟩)
 |9,v=>v=.pointer (some ⟨tb,0,none⟩)
 |10,v=>v=.pointer (some ⟨tb,0,none⟩)
 |11,v=>v=.pointer (some ⟨sb,0,none⟩)
 |12,v=>v=.pointer (some ⟨sb,0,none⟩)
 |13,v=>v=.pointer (some ⟨sb,2,none⟩)
 |14,v=>v=.pointer (some ⟨sb,3,none⟩)
 |15,v=>v=.int .i64 ph
 |16,v=>v=.pointer (some ⟨tb,0,none⟩)
 |17,v=>v=.pointer (some ⟨tb,0,none⟩)
 |18,v=>v=.pointer (some ⟨tb,0,none⟩)
 |19,v=>v=.pointer (some ⟨sb,0,none⟩)
 |20,v=>v=.pointer (some ⟨sb,0,none⟩)
 |21,v=>v=.pointer (some ⟨sb,1,none⟩)
 |22,v=>v=.int .u32 id
 |23,v=>v=.agg #[.int .i64 au,.int .i64 ph,.int .u32 id]
 |24,v=>v=.string (strOfNums (ld 1 (4::(ly au++(ly ph++(px id++[0]))))))
 |_,_=>True
noncomputable def uc:Array Oper:=match Tryz.f147.body with
 |some (.seq _ (.seq _ (.region _ ops _)))=>ops
 |_=>#[]
theorem RJ:lh uc [0] 66=true:=by kernel_rfl
theorem xJ:uc.size=26:=by kernel_rfl
def nS (w0:World) (base tb sb:Nat) (now:Int) (sv:Value) (sent:List Int) (cl ov:Bool) (S:Array Value) (O:List Int) (listed:Array Bool) (w:World):Prop :=
 if listed.getD 25 false=true then ∃sv',TS w base tb sb now sv' (sent++O) cl ov (S.setIfInBounds 12 (.int .i64 now))∧Rest base tb sb w0 w else TS w base tb sb now sv sent cl ov S∧Rest base tb sb w0 w
section
variable {w0 w:World} {base tb sb:Nat} {now:Int} {sv:Value} {sent:List Int} {cl ov:Bool} {S:Array Value} {O:List Int} {listed:Array Bool}
theorem nS.pre(h:nS w0 base tb sb now sv sent cl ov S O listed w)(a:listed.getD 25 false=false):TS w base tb sb now sv sent cl ov S∧Rest base tb sb w0 w:=by
 unfold nS at h;rw[dt (by rw[a];decide)]at h;exact h
theorem nS.post(h:nS w0 base tb sb now sv sent cl ov S O listed w)(a:25<listed.size){w':World}(k:∃sv',TS w' base tb sb now sv' (sent++O) cl ov (S.setIfInBounds 12 (.int .i64 now))∧Rest base tb sb w0 w'):nS w0 base tb sb now sv sent cl ov S O (listed.setIfInBounds 25 true) w':=by
 unfold nS;rw[dr (by rw[mX _ _ _ a];rfl)];exact k
theorem nS.keep(h:nS w0 base tb sb now sv sent cl ov S O listed w){i:Nat}(a:i≠25):nS w0 base tb sb now sv sent cl ov S O (listed.setIfInBounds i true) w:=by
 unfold nS at h ⊢;have e:(listed.setIfInBounds i true).getD 25 false=listed.getD 25 false:=by
  rw[dA,dA,dO a]
 rw[e];exact h
theorem nS.below(h:nS w0 base tb sb now sv sent cl ov S O listed w){i:Nat}(a:i≠25){w':World}(hB:Below w.heap.size w w'):nS w0 base tb sb now sv sent cl ov S O (listed.setIfInBounds i true) w':=by
 have k:=h.keep a;unfold nS at k ⊢;split at k
 ·rename_i e;rw[dr e];obtain⟨sv',k1,k2⟩:=k;exact⟨sv',k1.below hB,k2.trans (Rest.below hB k1.lt.2.2)⟩
 ·rename_i e;rw[dt e];exact⟨k.1.below hB,k.2.trans (Rest.below hB k.1.lt.2.2)⟩
theorem nS.cells(h:nS w0 base tb sb now sv sent cl ov S O listed w):w.cell? ⟨tb,0,none⟩=some (.pointer (some ⟨sb,0,none⟩))∧∀i,i≠12→w.cell? ⟨sb,i,none⟩=S[i]?:=by
 unfold nS at h;split at h
 ·obtain⟨sv',k1,k2⟩:=h;exact⟨kh k1.t 0,fun i a=>by rw[kh k1.s i,dO (dJ a)]⟩
 ·exact⟨kh h.1.t 0,fun i a=>kh h.1.s i⟩
end
variable {base tb sb:Nat} {now au id:Int} {sv:Value} {sent:List Int} {cl ov:Bool}
theorem RL{Q:Exit→Act→World→Prop}{w0:World}{S:Array Value}{ph:Int}(U:S[0]?=some (.int .i64 au))(s1:S[1]?=some (.int .u32 id))(V:S[3]?=some (.int .i64 ph))(hsz:S.size=14)(G:(S[12]'(by omega)).oneCell'=true)(hl:sent.length≤60000)(i:Nat)(o:Oper)(listed:Array Bool)(a:Act)(w:World)(m:uc[i]?=some o)(hr:i∈Region.ready .any uc listed)(r:pw uc (fun i v _=>rR tb sb au ph id i v) [(0,.pointer (some ⟨tb,0,none⟩))] 66 listed a w)(c:nS w0 base tb sb now sv sent cl ov S (ld 1 (4::(ly au++(ly ph++(px id++[0]))))) listed w)(K:Act→World→Prop)(x:∀v w',rR tb sb au ph id i v→nS w0 base tb sb now sv sent cl ov S (ld 1 (4::(ly au++(ly ph++(px id++[0]))))) (listed.setIfInBounds i true) w'→K (a.put o.dst v) w'):o.wp Tryz.prog a w K Q:=by
 have W:i<26:=by
  have:=(dv.1 m).1;rw[xJ]at this;exact this
 have I:Bytes (ld 1 (4::(ly au++(ly ph++(px id++[0]))))):=yN (by omega) (Bytes.cons (by omega) ((yM _).app ((yM _).app (Bytes.app (by unfold px;exact Bytes.cons (by omega) (Bytes.cons (by omega) (Bytes.cons (by omega) (Bytes.cons (by omega) Bytes.nil)))) (Bytes.cons (by omega) Bytes.nil)))));have X:(ld 1 (4::(ly au++(ly ph++(px id++[0]))))).length=29:=by rw[sL];simp[rf,jj]
 have f0:a.tmps[0]?=some (.pointer (some ⟨tb,0,none⟩)):=r.fix (0,.pointer (some ⟨tb,0,none⟩)) (by simp);obtain⟨c0,cs⟩:=c.cells;have e0:=(cs 0 (by decide)).trans U;have e1:=(cs 1 (by decide)).trans s1;have e3:=(cs 3 (by decide)).trans V;have h:25<listed.size:=by rw[r.kR,xJ];decide
 have y:listed.getD i false=false:=by
  obtain⟨z,_⟩:=gh.1 hr;have hsz:i<listed.size:=by rw[r.kR,xJ];exact W
  rw[dA,dw hsz]at z ⊢;simpa using z
 have C:i=25→listed.getD 25 false=false:=fun e=>e▸y
 have f:∀(j:Nat)(o':Oper)(d:Nat),uc[j]?=some o'→o'.dst=some d→(∃e∈o.after,e.on=j∧Region.binds .any e=true)→∃v,a.tmps[d]?=some v∧rR tb sb au ph id j v:=fun j o' d Y hd he=>r.dep m hr Y hd he
 clear hr r y cs;obtain rfl|rfl|rfl|rfl|rfl|rfl|rfl|rfl|rfl|rfl|rfl|rfl|rfl|rfl|rfl|rfl|rfl|rfl|rfl|rfl|rfl|rfl|rfl|rfl|rfl|rfl:i=0∨i=1∨i=2∨i=3∨i=4∨i=5∨i=6∨i=7∨i=8∨i=9∨i=10∨i=11∨i=12∨i=13∨i=14∨i=15∨i=16∨i=17∨i=18∨i=19∨i=20∨i=21∨i=22∨i=23∨i=24∨i=25:=by omega
 all_goals
  simp only[uc,Tryz.f147]at m;simp only[fV,gB,fW,dW]at m;subst m
 all_goals try
  first
  |(unfold Oper.wp execOp;simp only[Act.eval,dA,f0,eE];go_simp;exact x _ _ rfl (c.keep (by decide)))
  |(obtain⟨J,F,g⟩:=f _ _ _ (by rfl) (by rfl) ⟨_,⟨List.Mem.head _⟩,rfl,rfl⟩;simp only[rR]at g;subst g;unfold Oper.wp execOp;simp only[Act.eval,dA,F,eE];go_simp;exact x _ _ rfl (c.keep (by decide)))
 ·obtain⟨J,F,g⟩:=f 7 _ _ rfl rfl ⟨⟨7,.data⟩,by simp,rfl,rfl⟩;simp only[rR]at g;subst g;obtain⟨Z,h1,E⟩:=f 15 _ _ rfl rfl ⟨⟨15,.data⟩,by simp,rfl,rfl⟩;simp only[rR]at E;subst E;obtain⟨u2,h2,p2⟩:=f 22 _ _ rfl rfl ⟨⟨22,.data⟩,by simp,rfl,rfl⟩;simp only[rR]at p2;subst p2;unfold Oper.wp execOp;simp only[Act.eval,dA];go_simp;exact x _ _ rfl (c.keep (by decide))
 ·obtain⟨J,F,g⟩:=f 23 _ _ rfl rfl ⟨⟨23,.data⟩,by simp,rfl,rfl⟩;simp only[rR]at g;subst g;unfold Oper.wp execOp;simp only[];go_simp;refine(RI au ph id w).mono ?_;rintro e w1 ⟨rfl,hB⟩;exact x _ _ rfl (c.below (by decide) hB)
 ·obtain⟨J,F,g⟩:=f 0 _ _ rfl rfl ⟨⟨0,.data⟩,by simp,rfl,rfl⟩;simp only[rR]at g;subst g;obtain⟨Z,h1,E⟩:=f 24 _ _ rfl rfl ⟨⟨24,.data⟩,by simp,rfl,rfl⟩;simp only[rR]at E;subst E;unfold Oper.wp execOp;simp only[];go_simp;have R:=c.pre (C rfl);refine(A3 R.1 (u:=S[12]) (dw (by omega)) G I (by omega)).mono ?_;rintro e w1 ⟨⟨v,rfl⟩,L,M,N⟩;exact x _ _ trivial (c.post h ⟨L,M,R.2.trans N⟩)
theorem RM{w:World}{p:Pz}{hold heard spoke:Int}{pa:Option Addr}{pl pc:Nat}(h:TS w base tb sb now sv sent cl ov (kt au id p 0 hold heard spoke (.slice pa pl pc)))(hl:sent.length≤50000)(hid:0≤id):Calls Tryz.prog 147 #[.pointer (some ⟨tb,0,none⟩)] w fun e w'=>(∃v,e=.returned v)∧∃sv',TS w' base tb sb now sv' (sent++ld 1 (4::(ly au++(ly p.hold++(px id++[0]))))) cl ov (kt au id p 1 p.hold now now (.slice pa pl pc))∧Rest base tb sb w w':=by
 obtain⟨⟨c0,c1,c2,c3,c4⟩,z2,z3,z4⟩:=h.facts;obtain⟨E,f,F,G,I,ia,il,ic,ea,el,ec⟩:=p;simp only[kt]at h ⊢;obtain⟨e0,e1,e2,e3,e4,e5,e6,e7,e8,e9,J,L,M,N,y0,y1,y2,y3,y4,y5,y6,y7,y8,y9,R,U,V,W⟩:=oX h.s;have X:Hid (_):=h;have Y:=h.ne;clear h;go_enter Tryz.func147,Tryz.ntmps147
 go_wp2_with fail
 go_region
 have k1:=X.out.kX 9 (.int .i64 1);have k2:=k1.1.kX 10 (.int .i64 f);have C:=k2.1.kX 11 (.int .i64 now);have c:=C.1.drew;have u:=(k1.2.trans (k2.2.trans C.2)).drew;simp only[iz,iA,iB]at c;generalize((((w.setCell ⟨sb,9,none⟩ (.int .i64 1)).setCell ⟨sb,10,none⟩ (.int .i64 f)).setCell ⟨sb,11,none⟩ (.int .i64 now)).drew)=w1 at c u ⊢
 go_wp2_with fail
 refine yE (ops:=uc) (val:=fun i v _=>rR tb sb au f id i v) (fix:=[(0,.pointer (some ⟨tb,0,none⟩))]) (T:=66)
  (Sok:=nS w base tb sb now sv sent cl ov #[.int .i64 au,.int .u32 id,.int .i64 E,.int .i64 f,.int .i64 F,.int .i64 G,.int .i64 I,.slice ia il ic,.slice ea el ec,.int .i64 1,.int .i64 f,.int .i64 now,.int .i64 spoke,.slice pa pl pc] (ld 1 (4::(ly au++(ly f++(px id++[0]))))))
  (by kernel_rfl) RJ (fun i o listed a w2 Z hr y g K hK=>RL rfl rfl rfl rfl rfl (by omega) i o listed a w2 Z hr y g K fun v w' hv hS=>hK v w' hv (fun _ _ _ h=>h) hS) (fun listed a w2 y j g=>?_) ?_ ?_ ?_ ?_
 ·have m:=j 25 (by rw[xJ];decide);unfold nS at g;rw[dr m]at g;obtain⟨sv',r,z⟩:=g;simp only[iz,iA,iB]at r;obtain⟨tm,df⟩:=a;have kW:=y.defers;simp only at kW;subst kW
  go_wp2_with fail
  exact jB (v:=.tuple #[]) (by simp[results,Tryz.results147,go_sem]) rfl ⟨⟨_,rfl⟩,_,r,z⟩
 ·rfl
 ·rfl
 ·intro x hx;simp at hx;subst hx;rfl
 ·unfold nS;rw[dt (by simp[dA,xJ])];exact⟨⟨c.t,c.s,c.own,c.lt,c.ne⟩,⟨u.os,u.size,u.heap⟩⟩
end
section
open Go Go.RowKit
variable {w:World} {base tb sb:Nat} {now au id hold heard spoke:Int} {sv:Value} {sent:List Int} {cl ov:Bool} {p:Pz}
theorem RN(h:TS w base tb sb now sv sent cl ov (kt au id p 0 hold heard spoke (.slice none 0 0)))(g:sent.length≤50000)(hid:0≤id)(pe:Int)(s:ByteArray):Calls Tryz.prog 119 #[.pointer (some ⟨tb,0,none⟩),.agg #[.int .i64 pe,.int .i64 1,.string s]] w fun e w'=>(∃v,e=.returned v)∧∃sv',TP w' base tb sb now sv' (sent++ld 1 (4::(ly au++(ly p.hold++(px id++[0]))))) cl ov (kt au id p 1 p.hold now now (.slice none 0 0)) (.slice none 0 0) []∧Rest base tb sb w w':=by
 have i:Hid (_):=h;have j:Hid (_):=g;have m:Hid (0≤id):=hid;clear h g hid;go_enter Tryz.func119,Tryz.ntmps119
 go_wp2_with (go_at_call 147;go_loud (refine jP (RM (TS.below i.out ji) j.out m.out) ?_);go_loud (rintro e w1 ⟨⟨v,rfl⟩,a,c,f⟩))
 exact jB (v:=.tuple #[]) (by simp[results,Tryz.results119,go_sem]) rfl ⟨⟨_,rfl⟩,a,⟨c,rfl,ju _ _ _ _,(fun k o=>by cases o),lE.nil _ _⟩,(Rest.below ji i.out.lt.2.2).trans f⟩
theorem RP{pv:Value}(h:TS w base tb sb now sv sent cl ov (kt au id p 0 hold heard spoke pv))(pe:Int)(s:ByteArray):Calls Tryz.prog 119 #[.pointer (some ⟨tb,0,none⟩),.agg #[.int .i64 pe,.int .i64 2,.string s]] w fun e w'=>(∃v,e=.returned v)∧Below w.heap.size w w':=by
 have a:Hid (_):=h;clear h;go_enter Tryz.func119,Tryz.ntmps119
 go_wp2_with (go_at_call 148;go_loud (refine jP (Rx (TS.below a.out ji) _) ?_);go_loud (rintro e w1 ⟨⟨v,rfl⟩,rfl⟩))
 exact jB (v:=.tuple #[]) (by simp[results,Tryz.results119,go_sem]) rfl ⟨⟨_,rfl⟩,ji⟩
structure mA (s:SV):Prop where
 part:nw s.part
 st:0≤s.st∧s.st≤3
 idle:s.st=0→s=⟨0,0,0,0,[]⟩
 hold:0≤s.hold∧s.hold≤65535
 heard:lA s.heard
 spoke:lA s.spoke
def tw (s:SV) (sent:List Int):Prop:=(s.st=0→sent=[])∧(s.st=1→sent.length≤29)∧sent.length≤48
inductive TR
 |go (s:SV) (sent:List Int)
 |over (cl:Bool) (sent:List Int)
 |bad (t:mN) (sent:List Int)
def yX (au id hd:Int):List Int:=ld 1 (4::(ly au++(ly hd++(px id++[0]))))
def lT (A hd au id now:Int) (s:SV) (sent:List Int) (k:Int) (d:List Int):TR :=
 if k=1 then(if s.st=0 then .go ⟨1,hd,now,now,[]⟩ (sent++yX au id hd) else .go s sent)
 else if k=2 then(if s.st=0 then .go s sent else match lB A hd now d.length s [] d with
  | .go s' add=>.go s' (sent++add)
  | .shut add=>.over true (sent++add)
  | .bad t add=>.bad t (sent++add))
 else if k=3 then .over false sent
 else .go s sent
theorem RQ{a b:Int}(c:0≤a∧a≤65535)(hb:0≤b∧b≤65535):0≤tn a b∧tn a b≤65535:=by
 unfold tn;split<;>omega
variable {A hd:Int}
theorem RR{s s':SV}{k:Int}{b add:List Int}(m:mA s)(i:s.st≠0)(c:0≤hd∧hd≤65535)(a:lA now)(hb:Bytes b)(h:mr A hd now s k b=.go s' add):mA s'∧s'.st≠0:=by
 obtain⟨f,p2,p3,p4,o,j⟩:=m;unfold mr at h;split at h
 ·cases h
 ·split at h
  ·split at h
   ·cases h
   ·cases h
    refine⟨⟨f,⟨by simp,by simp⟩,fun e=>by simp at e,RQ c ?_,a,a⟩,by simp⟩;have g:Bytes ((b.drop 3).take 2):=fun x hx=>hb x (jz (jy hx))
    have:=vZ g;have r:((b.drop 3).take 2).length≤2:=by simp;omega
    have u:(256:Int) ^ ((b.drop 3).take 2).length≤256 ^ 2:=by
     have:((b.drop 3).take 2).length=0∨((b.drop 3).take 2).length=1∨((b.drop 3).take 2).length=2:=by omega
     rcases this with e|e|e<;>rw[e]<;>decide
    omega
  ·split at h
   ·cases h
    exact⟨⟨f,⟨by simp,by simp⟩,fun e=>by simp at e,p4,a,j⟩,by simp⟩
   ·split at h
    ·cases h
    ·cases h
     exact⟨⟨f,p2,fun e=>absurd e i,p4,a,j⟩,i⟩
theorem RU(y:0≤hd∧hd≤65535)(I:lA now):∀(n:Nat)(s:SV)(acc d:List Int)(s':SV)(a:List Int),mA s→s.st≠0→Bytes d→lB A hd now n s acc d=.go s' a →
  mA s'∧s'.st≠0∧((s.st=1∧s'.st≠1∧a.length=acc.length+19)∨a=acc)∧(s'.st=1→s.st=1∧a=acc):=by
 intro n
 induction n with
 |zero =>
  intro s acc d s' a f j g h;simp only[lB,FR.go.injEq]at h;obtain⟨rfl,rfl⟩:=h;exact⟨f,j,.inr rfl,fun e=>⟨e,rfl⟩⟩
 |succ n C =>
  intro s acc d s' a f j g h
  by_cases c:d=[]
  ·rw[c,pR]at h;simp only[FR.go.injEq]at h;obtain⟨rfl,rfl⟩:=h;exact⟨f,j,.inr rfl,fun e=>⟨e,rfl⟩⟩
  ·have i:0<d.length:=by cases d with|nil=>exact absurd rfl c|cons x xs=>simp
   have o:Bytes (d.drop (kU s.part d)):=fun x hx=>g x (jz hx)
   rcases m:my s.part d with⟨t,ys⟩|⟨ys⟩|⟨k,b⟩
   ·rw[rm c m]at h;cases h
   ·rw[qg c m]at h;have hp:=vg f.part g i m;exact C { s with part:=ys } acc _ s' a ⟨hp,f.st,fun e=>absurd e j,f.hold,f.heard,f.spoke⟩ j o h
   ·obtain⟨_,hb,_⟩:=Bs f.part g i m;have z:mA { s with part:=[] }:=⟨we,f.st,fun e=>absurd e j,f.hold,f.heard,f.spoke⟩;rcases r:mr A hd now { s with part:=[] } k b with⟨s2,add⟩|⟨add⟩|⟨t,add⟩
    ·rw[rq c m r]at h;obtain⟨k1,k2⟩:=RR z j y I hb r;obtain⟨V,J,E⟩:=yW r;obtain⟨r1,r2,u,F⟩:=C s2 (acc++add) _ s' a k1 k2 o h;refine⟨r1,r2,?_,fun e=>?_⟩
     ·rcases J with⟨K,G,L⟩|rfl
      ·rcases u with⟨b1,_,_⟩|rfl
       ·exact absurd b1 G
       ·refine .inl ⟨K,fun e=>?_,by rw[jh,L]⟩;exact G (F e).1
      ·rw[ij]at u;rcases u with⟨b1,b2,M⟩|u
       ·exact .inl ⟨(E b1).1,b2,M⟩
       ·exact .inr u
     ·obtain⟨N,R⟩:=F e;obtain⟨U,rfl⟩:=E N;exact⟨U,by rw[R,ij]⟩
    ·rw[rp c m r]at h;cases h
    ·rw[rn c m r]at h;cases h
end
section
open Go Go.RowKit
variable {q:Option Nat}
def TQ (q:Option Nat) (w:World) (base tb sb:Nat) (now au id:Int) (p:Pz) (r:TR) (e:Ending) (w':World):Prop :=
 kC q base tb sb w w'∧match r with
  | .go s sent=>(∃v,e=.returned v)∧∃sv pv,mz q w' base tb sb now sv sent false false au id p s pv∧(s.st=0→pv=.slice none 0 0)
  | .over cl sent=>(∃v,e=.returned v)∧∃sv,TS w' base tb sb now sv sent cl true (kt au id p 0 0 0 0 (.slice none 0 0))
  | .bad t sent=>e=.panicked [{ v:=t.val,recovered:=false }]∧∃sv s pv,mz q w' base tb sb now sv sent false false au id p s pv
theorem Fu{A hd now:Int}:∀(n:Nat)(s:SV)(acc d:List Int)(s':SV)(a:List Int),s.st≠0→lB A hd now n s acc d=.go s' a→s'.st≠0:=by
 intro n
 induction n with
 |zero =>
  intro s acc d s' a f h;simp only[lB,FR.go.injEq]at h;obtain⟨rfl,rfl⟩:=h;exact f
 |succ n i =>
  intro s acc d s' a f h
  by_cases c:d=[]
  ·rw[c,pR]at h;simp only[FR.go.injEq]at h;obtain⟨rfl,rfl⟩:=h;exact f
  ·rcases g:my s.part d with⟨t,ys⟩|⟨ys⟩|⟨k,b⟩
   ·rw[rm c g]at h;cases h
   ·rw[qg c g]at h;exact i { s with part:=ys } acc _ s' a f h
   ·rcases e:mr A hd now { s with part:=[] } k b with⟨s2,add⟩|⟨add⟩|⟨t,add⟩
    ·rw[rq c g e]at h;refine i s2 (acc++add) _ s' a ?_ h;unfold mr at e;split at e
     ·cases e
     ·split at e
      ·split at e<;>cases e
       simp
      ·split at e
       ·cases e;simp
       ·split at e<;>cases e
        exact f
    ·rw[rp c g e]at h;cases h
    ·rw[rn c g e]at h;cases h
section
variable {w:World} {base tb sb:Nat} {now:Int} {sv:Value} {sent:List Int} {au id:Int} {p:Pz} {s:SV} {pv:Value}
theorem RV{st hold heard spoke:Int}(h:TS w base tb sb now sv sent false false (kt au id p st hold heard spoke pv))(a:st≠0):Calls Tryz.prog 147 #[.pointer (some ⟨tb,0,none⟩)] w fun e w'=>(∃v,e=.returned v)∧w'=w:=by
 obtain⟨i,j,m,o,r,ia,il,ic,ea,el,ec⟩:=p;simp only[kt]at h;obtain⟨⟨c0,c1,c2,c3,c4⟩,z2,u,x⟩:=h.facts;have g:=kh h.s 9;simp at g;have c:(st != 0)=true:=by simpa using a
 have f:(st == 0)=false:=by simpa using a
 clear h a;go_enter Tryz.func147,Tryz.ntmps147
 go_wp2_with fail
 first
  |exact iQ (v:=.tuple #[]) (by simp[results,Tryz.results147,go_sem]) rfl ⟨⟨_,rfl⟩,rfl⟩
  |exact jB (v:=.tuple #[]) (by simp[results,Tryz.results147,go_sem]) rfl ⟨⟨_,rfl⟩,rfl⟩
theorem TQ.none{w':World}(h:mz q w base tb sb now sv sent false false au id p s pv)(a:s.st=0→pv=.slice none 0 0){v:Value}(hB:Below w.heap.size w w'):TQ q w base tb sb now au id p (.go s sent) (.returned v) w' :=
 ⟨kC.below hB h.ts.lt.2.2,⟨_,rfl⟩,sv,pv,kH.below h hB,a⟩
theorem RX(h:mz q w base tb sb now sv sent false false au id p s pv)(a:mA s)(c:s.st=0→pv=.slice none 0 0)(f:tw s sent)(hid:0≤id){d:List Int}(hd:Bytes d)(j:d.length≤1152921504606846976)(pe k:Int):Calls Tryz.prog 119 #[.pointer (some ⟨tb,0,none⟩),.agg #[.int .i64 pe,.int .i64 k,.string (strOfNums d)]] w fun e w'=>TQ q w base tb sb now au id p (lT p.au p.hold au id now s sent k d) e w':=by
 have K:Hid (∀v w',Below w.heap.size w w'→TQ q w base tb sb now au id p (.go s sent) (.returned v) w'):=fun v w' hB=>TQ.none h c hB
 by_cases k1:k=1
 ·subst k1
  by_cases i:s.st=0
  ·have E:=c i;have L:=a.idle i;subst L E;have hm:lT p.au p.hold au id now ⟨0,0,0,0,[]⟩ sent 1 d=.go ⟨1,p.hold,now,now,[]⟩ (sent++yX au id p.hold):=by simp[lT]
   rw[hm];refine(RN (hold:=0) (heard:=0) (spoke:=0) h.ts (by have:=f.2.2;omega) hid pe _).mono ?_;rintro e w' ⟨M,sv',N,x⟩;exact⟨x.wide,M,sv',_,TP.wide N,fun e=>by simp at e⟩
  ·have hm:lT p.au p.hold au id now s sent 1 d=.go s sent:=by simp[lT,i]
   rw[hm];have F:Hid (_):=h;have R:Hid (∀w',Below w.heap.size w w'→Calls Tryz.prog 147 #[.pointer (some ⟨tb,0,none⟩)] w' fun e o=>(∃v,e=.returned v)∧o=w'):=fun w' hB=>RV (F.out.ts.below hB) i
   clear h a c f hd j i hm;go_enter Tryz.func119,Tryz.ntmps119
   go_wp2_with (go_at_call 147;go_loud (refine jP (R.out _ ji) ?_);go_loud (rintro e w1 ⟨⟨v,rfl⟩,rfl⟩))
   exact jB (v:=.tuple #[]) (by simp[results,Tryz.results119,go_sem]) rfl (K.out _ _ ji)
 ·by_cases k2:k=2
  ·subst k2
   by_cases i:s.st=0
   ·have hm:lT p.au p.hold au id now s sent 2 d=.go s sent:=by simp[lT,i]
    rw[hm];have G:=h.ts;rw[i]at G;refine(RP G pe _).mono ?_;rintro e w' ⟨⟨v,rfl⟩,hB⟩;exact K.out v w' hB
   ·have F:Hid (_):=h;have C:Hid (∀w',Below w.heap.size w w'→Calls Tryz.prog 148 #[.pointer (some ⟨tb,0,none⟩),.string (strOfNums d)] w' fun e o=>FQ q w' base tb sb now sent au id p (lB p.au p.hold now d.length s [] d) e o):=fun w' hB=>RE (kH.below F.out hB) i a.part (by have:=f.2.2;omega) hd j
    have r:=h.ts.lt.2.2;rcases hm:lB p.au p.hold now d.length s [] d with⟨s',add⟩|⟨add⟩|⟨t,add⟩
    ·have g:lT p.au p.hold au id now s sent 2 d=.go s' (sent++add):=by simp[lT,i,hm]
     have y:s'.st≠0:=Fu _ _ _ _ _ _ i hm;rw[hm]at C;have I:Hid (_):=g;have U:Hid (_):=y;clear h a c f hd j i hm g y;go_enter Tryz.func119,Tryz.ntmps119
     go_wp2_with (go_at_call 148;go_loud (refine jP (C.out _ ji) ?_);go_loud (rintro e w1 ⟨x,⟨v,rfl⟩,u,z,m⟩))
     refine jB (v:=.tuple #[]) (by simp[results,Tryz.results119,go_sem]) rfl ?_;rw[I.out];exact⟨(kC.below ji r).trans x,⟨_,rfl⟩,u,z,m,fun e=>absurd e U.out⟩
    ·have g:lT p.au p.hold au id now s sent 2 d=.over true (sent++add):=by simp[lT,i,hm]
     rw[hm]at C;have I:Hid (_):=g;clear h a c f hd j i hm g;go_enter Tryz.func119,Tryz.ntmps119
     go_wp2_with (go_at_call 148;go_loud (refine jP (C.out _ ji) ?_);go_loud (rintro e w1 ⟨x,⟨v,rfl⟩,u,m⟩))
     refine jB (v:=.tuple #[]) (by simp[results,Tryz.results119,go_sem]) rfl ?_;rw[I.out];exact⟨(kC.below ji r).trans x,⟨_,rfl⟩,u,m⟩
    ·have g:lT p.au p.hold au id now s sent 2 d=.bad t (sent++add):=by simp[lT,i,hm]
     rw[hm]at C;have I:Hid (_):=g;clear h a c f hd j i hm g;go_enter Tryz.func119,Tryz.ntmps119
     go_wp2_with (go_at_call 148;go_loud (refine jP (C.out _ ji) ?_);go_loud (rintro e w1 ⟨x,rfl,u,s1,z,m⟩))
     refine⟨rfl,?_⟩;rw[I.out];exact⟨(kC.below ji r).trans x,rfl,u,s1,z,m⟩
  ·by_cases J:k=3
   ·subst J;have hm:lT p.au p.hold au id now s sent 3 d=.over false sent:=by simp[lT]
    rw[hm];obtain⟨pa,pl,pc,rfl⟩:=h.slice;have F:Hid (_):=h;have r:=h.ts.lt.2.2;have V:Hid (∀w',Below w.heap.size w w'→Calls Tryz.prog 149 #[.pointer (some ⟨tb,0,none⟩)] w' fun e o=>(∃v,e=.returned v)∧TS o base tb sb now sv sent false true (kt au id p 0 0 0 0 (.slice none 0 0))∧Rest base tb sb w' o):=fun w' hB=>Ez (F.out.ts.below hB)
    clear h a c f hd j hm;go_enter Tryz.func119,Tryz.ntmps119
    go_wp2_with (go_at_call 149;go_loud (refine jP (V.out _ ji) ?_);go_loud (rintro e w1 ⟨⟨v,rfl⟩,m,x⟩))
    exact jB (v:=.tuple #[]) (by simp[results,Tryz.results119,go_sem]) rfl ⟨(kC.below ji r).trans x.wide,⟨_,rfl⟩,sv,m⟩
   ·have hm:lT p.au p.hold au id now s sent k d=.go s sent:=by simp[lT,k1,k2,J]
    rw[hm];have W:(k == 1)=false:=by simpa using k1
    have X:(k == 2)=false:=by simpa using k2
    have Y:(k == 3)=false:=by simpa using J
    clear h a c f hd j hm k1 k2 J;go_enter Tryz.func119,Tryz.ntmps119
    go_wp2_with fail
    exact jB (v:=.tuple #[]) (by simp[results,Tryz.results119,go_sem]) rfl (K.out _ _ ji)
end
end
section
open Go Go.RowKit
structure vh (t:mN):Prop where
 c:0≤t.c∧t.c<256
 s:0≤t.s∧t.s<256
 d:Bytes t.d
 l:t.d.length≤100
def xK (t:mN):List Int:=ld 3 (t.c::t.s::t.d)
theorem RY(v:Value)(w:World):(Instr.typeAssert (.iface 215 v) 20 215 true).run Tryz.prog w=.ok (.tuple #[v,.bool true]) w:=by
 simp[Instr.typeAssert,gE,iu Tryz.underlying215]
variable {now au id:Int} {sent:List Int}
theorem RZ{w:World}{base tb sb bx:Nat}{sv:Value}{cl ov:Bool}{p:Pz}{st hold heard spoke:Int}{pa:Option Addr}{pl pc:Nat}(h:TS w base tb sb now sv sent cl ov (kt au id p st hold heard spoke (.slice pa pl pc)))(j:w.cell? ⟨bx,0,none⟩=some (.pointer (some ⟨tb,0,none⟩)))(t:mN)(a:vh t)(y:sent.length≤40000):CallsD Tryz.prog 116 #[.pointer (some ⟨bx,0,none⟩)] (.panicking ({ v:=t.val,recovered:=false }::[])) w fun e z w'=>e=.returned (.tuple #[])∧z=.panicking ({ v:=t.val,recovered:=true }::[])∧∃sv',TS w' base tb sb now sv' (sent++xK t) true true (kt au id p 0 0 0 0 (.slice none 0 0))∧Rest base tb sb w w':=by
 have m:=h.lt.2.2;have HR:Hid (∀w',Below w.heap.size w w'→Calls Tryz.prog 117 #[.pointer (some ⟨tb,0,none⟩),t.agg] w' fun e f=>(∃v,e=.returned v)∧∃sv',TS f base tb sb now sv' (sent++xK t) true true (kt au id p 0 0 0 0 (.slice none 0 0))∧Rest base tb sb w' f):=fun w' hB=>EB (h.below hB) a.c a.s a.d (by have:=a.l;omega)
 have C:bx<w.heap.size:=iK _ _ j;clear h a y;obtain⟨c,s,d⟩:=t;refine callsD_of_wpS Tryz.func116 rfl fun g cs hu=>?_
 apply wpS_seq;apply wpS_region;simp[wpOpsS,go_sem,recoverD,hu,Tryz.ntmps116,Exit.thenS];refine wpS_of_wp ?_;have e:(#[Value.pointer (some ⟨bx,0,none⟩)]++(Array.replicate 12 undef).setIfInBounds 3 (mN.val ⟨c,s,d⟩):Array Value)=#[.pointer (some ⟨bx,0,none⟩),undef,undef,undef,.iface 215 (.agg #[.int .u8 c,.int .u8 s,.string (strOfNums d)]),undef,undef,undef,undef,undef,undef,undef,undef]:=by rfl
 rw[e];clear e;have E:=fun F=>RY (.agg #[.int .u8 c,.int .u8 s,.string (strOfNums d)]) F
 go_wp2_with (go_at_call 117;go_loud (refine(HR.out _ ji).mono ?_);go_loud (rintro e w3 ⟨⟨v3,rfl⟩,o,r,u⟩))
 have i:(∃x,TS w3 base tb sb now x (sent++xK ⟨c,s,d⟩) true true (kt au id p 0 0 0 0 (.slice none 0 0)))∧Rest base tb sb w w3:=⟨⟨o,r⟩,(Rest.below ji m).trans u⟩
 cases g
 simp[bodyPostS,results,Tryz.results116,go_sem];exact i
variable {xs:List Int}
theorem yY(h:Bytes xs)(n:Nat):Bytes (xs.take n):=fun x hx=>h x (jy hx)
theorem vi(h:Bytes xs)(n:Nat):Bytes (xs.drop n):=fun x hx=>h x (jz hx)
variable {t:mN}
theorem R6{h:List Int}(hb:Bytes h)(e:m9 h=some t):vh t:=by
 unfold m9 at e;split at e
 ·split at e
  ·cases e
   exact⟨by simp,by simp,yY (vi hb _) _,by simp;omega⟩
  ·split at e
   ·cases e
    exact⟨by simp,by simp,yY (vi hb _) _,by simp;omega⟩
   ·split at e
    ·cases e
    ·cases e
     exact⟨by simp,by simp,yY (vi hb _) _,by simp;omega⟩
 ·cases e
  exact⟨by simp,by simp,Bytes.nil,by simp⟩
variable {b:List Int} {A:Int}
theorem R7(e:ox b A=some t):vh t:=by
 unfold ox at e;split at e
 ·cases e;exact⟨by simp,by simp,yM _,by simp[rf]⟩
 ·split at e
  ·cases e;exact⟨by simp,by simp,Bytes.nil,by simp⟩
  ·split at e
   ·cases e;exact⟨by simp,by simp,Bytes.nil,by simp⟩
   ·split at e
    ·cases e;exact⟨by simp,by simp,Bytes.nil,by simp⟩
    ·split at e
     ·cases e;exact⟨by simp,by simp,Bytes.nil,by simp⟩
     ·cases e
variable {hd k:Int} {s:SV}
theorem R8{l:List Int}(h:mr A hd now s k b=.bad t l):vh t:=by
 unfold mr at h;split at h
 ·cases h;exact⟨by simp,by simp,Bytes.nil,by simp⟩
 ·split at h
  ·split at h
   ·rename_i e;cases h;exact R7 e
   ·cases h
  ·split at h
   ·cases h
   ·split at h<;>cases h
variable {d:List Int}
theorem R9{ys:List Int}(h:nw xs)(hd:Bytes d)(a:0<d.length)(e:my xs d=.bad t ys):vh t:=by
 obtain⟨k1,k2,f⟩:=Br h hd a;unfold my qM at e;generalize xs++d.take (kU xs d)=g at e k1 k2 f;split at e
 ·rename_i c
  cases e
  split at c
  ·exact R6 (yY k1 _) c
  ·cases c
 ·split at e<;>cases e
theorem Sa:∀(n:Nat)(s:SV)(acc d:List Int),nw s.part→s.st≠0→Bytes d→(s.st=1→acc=[])→acc.length≤19→(∀t a,lB A hd now n s acc d=.bad t a→vh t∧a.length≤19)∧(∀a,lB A hd now n s acc d=.shut a→a.length≤19):=by
 intro n
 induction n with
 |zero =>
  intro s acc d hp y g u m;exact⟨fun t a h=>(by simp[lB]at h),fun a h=>by simp[lB]at h⟩
 |succ n C =>
  intro s acc d hp y g u m
  by_cases c:d=[]
  ·rw[c,pR];exact⟨fun t a h=>(by cases h),fun a h=>by cases h⟩
  ·have i:0<d.length:=by cases d with|nil=>exact absurd rfl c|cons x xs=>simp
   have o:Bytes (d.drop (kU s.part d)):=vi g _;rcases j:my s.part d with⟨t,ys⟩|⟨ys⟩|⟨k,b⟩
   ·rw[rm c j];exact⟨fun t' a h=>(by cases h;exact⟨R9 hp g i j,m⟩),fun a h=>by cases h⟩
   ·rw[qg c j];exact C { s with part:=ys } acc _ (vg hp g i j) y o u m
   ·obtain⟨I,hb,_⟩:=Bs hp g i j;rcases f:mr A hd now { s with part:=[] } k b with⟨s2,add⟩|⟨add⟩|⟨t,add⟩
    ·rw[rq c j f];obtain⟨E,F,G⟩:=yW f;have z:s2.st≠0:=by
      unfold mr at f;split at f
      ·cases f
      ·split at f
       ·split at f<;>cases f
        simp
       ·split at f
        ·cases f;simp
        ·split at f<;>cases f
         exact y
     refine C s2 (acc++add) _ (by rw[E];exact we) z o (fun e=>?_) ?_
     ·obtain⟨r1,r2⟩:=G e;rw[u r1,r2];rfl
     ·rcases F with⟨r1,_,r2⟩|r
      ·rw[u r1,ix];omega
      ·rw[r,ij];exact m
    ·rw[rp c j f];exact⟨fun t a h=>(by cases h),fun a h=>by cases h;exact m⟩
    ·rw[rn c j f];exact⟨fun t' a h=>(by cases h;exact⟨R8 f,m⟩),fun a h=>by cases h⟩
theorem xL(f:mA s)(a:tw s sent)(g:0≤hd∧hd≤65535)(i:lA now)(hb:Bytes d):(∀s' sent',lT A hd au id now s sent k d=.go s' sent'→mA s'∧tw s' sent')∧(∀t sent',lT A hd au id now s sent k d=.bad t sent'→vh t∧sent'.length≤100)∧(∀cl sent',lT A hd au id now s sent k d=.over cl sent'→sent'.length≤100):=by
 unfold lT
 by_cases k1:k=1
 ·simp only[k1,dn]
  by_cases c:s.st=0
  ·simp only[c,dn];refine⟨fun s' sent' h=>?_,fun t sent' h=>(by cases h),fun cl sent' h=>by cases h⟩
   cases h
   refine⟨⟨we,by simp,fun e=>by simp at e,g,i,i⟩,fun e=>by simp at e,fun _=>?_,?_⟩
   ·rw[a.1 c];simp[yX,sL,rf,jj]
   ·rw[a.1 c];simp[yX,sL,rf,jj]
  ·simp only[c,dp];exact⟨fun s' sent' h=>(by cases h;exact⟨f,a⟩),fun t sent' h=>(by cases h),fun cl sent' h=>by cases h⟩
 ·simp only[k1,dp]
  by_cases k2:k=2
  ·simp only[k2,dn]
   by_cases c:s.st=0
   ·simp only[c,dn];exact⟨fun s' sent' h=>(by cases h;exact⟨f,a⟩),fun t sent' h=>(by cases h),fun cl sent' h=>by cases h⟩
   ·simp only[c,dp];obtain⟨m,o⟩:=Sa (A:=A) (hd:=hd) (now:=now) d.length s [] d f.part c hb (fun _=>rfl) (by simp);have E:=a.2.2;rcases hm:lB A hd now d.length s [] d with⟨s',add⟩|⟨add⟩|⟨t,add⟩
    ·refine⟨fun s2 sent' h=>?_,fun t sent' h=>(by simp at h),fun cl sent' h=>(by simp at h)⟩;simp only[TR.go.injEq]at h;obtain⟨rfl,rfl⟩:=h;obtain⟨r1,r2,r,u⟩:=RU g i d.length s [] d _ _ f c hb hm;refine⟨r1,fun e=>absurd e r2,fun e=>?_,?_⟩
     ·obtain⟨x,y⟩:=u e;rw[y,ij];exact a.2.1 x
     ·rw[jh];rcases r with⟨z,_,C⟩|rfl
      ·have:=a.2.1 z;simp at C;omega
      ·simp;omega
    ·refine⟨fun s2 sent' h=>(by simp at h),fun t sent' h=>(by simp at h),fun cl sent' h=>?_⟩;simp only[TR.over.injEq]at h;obtain⟨_,rfl⟩:=h;have:=o _ hm;rw[jh];omega
    ·refine⟨fun s2 sent' h=>(by simp at h),fun t2 sent' h=>?_,fun cl sent' h=>(by simp at h)⟩;simp only[TR.bad.injEq]at h;obtain⟨rfl,rfl⟩:=h;obtain⟨r1,r2⟩:=m _ _ hm;refine⟨r1,?_⟩;rw[jh];omega
  ·simp only[k2,dp]
   by_cases j:k=3
   ·simp only[j,dn];exact⟨fun s' sent' h=>(by simp at h),fun t sent' h=>(by simp at h),fun cl sent' h=>by simp at h;rw[←h.2];have:=a.2.2;omega⟩
   ·simp only[j,dp];exact⟨fun s' sent' h=>(by simp at h;rw[←h.1,←h.2];exact⟨f,a⟩),fun t sent' h=>(by simp at h),fun cl sent' h=>by simp at h⟩
structure ky where
 pe:Int
 k:Int
 d:List Int
def runM (A hd au id now:Int):SV→List Int→List ky→TR
 |s,sent,[]=>.go s sent
 |s,sent,x::xs=>match lT A hd au id now s sent x.k x.d with
  | .go s' sent'=>runM A hd au id now s' sent' xs
  | .over cl sent'=>.over cl sent'
  | .bad t sent'=>.bad t sent'
def n6:SV:=⟨0,0,0,0,[]⟩
def pC:TR→SV×List Int×Bool
 | .go s sent=>(s,sent,false)
 | .over cl sent=>(n6,sent,cl)
 | .bad t sent=>(n6,sent++xK t,true)
def pS (A hd au id now:Int) (s:SV) (ins:List ky):SV×List Int×Bool :=
 if qd s.st s.hold s.heard now then(n6,ld 3 [4,0],true)
 else if py s.st s.hold s.spoke now then pC (runM A hd au id now { s with spoke:=now } (ld 4 []) ins)
 else pC (runM A hd au id now s [] ins)
theorem xM:mA n6:=⟨we,by simp[n6],fun _=>rfl,by simp[n6],by simp[n6,lA],by simp[n6,lA]⟩
theorem Fv(c:0≤hd∧hd≤65535)(i:lA now):∀(ins:List ky)(s:SV)(sent:List Int),mA s→tw s sent→(∀x∈ins,Bytes x.d)→mA (pC (runM A hd au id now s sent ins)).1∧(pC (runM A hd au id now s sent ins)).2.1.length≤1000:=by
 intro ins
 induction ins with
 |nil =>
  intro s sent e a _;exact⟨e,by have:=a.2.2;simp[runM,pC];omega⟩
 |cons x xs j =>
  intro s sent e a hb;obtain⟨m,o,r⟩:=xL (A:=A) (au:=au) (id:=id) (k:=x.k) e a c i (hb x (by simp));unfold runM;rcases f:lT A hd au id now s sent x.k x.d with⟨s',sent'⟩|⟨cl,sent'⟩|⟨t,sent'⟩
  ·obtain⟨g,h⟩:=m _ _ f;exact j s' sent' g h fun y u=>hb y (by simp[u])
  ·have:=r _ _ f;exact⟨xM,by simp[pC];omega⟩
  ·obtain⟨g,h⟩:=o _ _ f;refine⟨xM,?_⟩;have:=g.l;simp[pC,xK,sL];omega
theorem Sb(a:0≤hd∧hd≤65535)(f:lA now)(c:mA s){ins:List ky}(hb:∀x∈ins,Bytes x.d):mA (pS A hd au id now s ins).1:=by
 unfold pS;split
 ·exact xM
 ·split
  ·rename_i g;have h:s.st=2∨s.st=3:=by
    unfold py at g;simp at g;exact g.1
   refine(Fv a f ins { s with spoke:=now } (ld 4 []) ⟨c.part,c.st,fun e=>?_,c.hold,c.heard,f⟩ ⟨fun e=>?_,fun e=>?_,?_⟩ hb).1
   ·simp at e;omega
   ·simp at e;omega
   ·simp at e;omega
   ·simp[sL]
  ·exact(Fv a f ins _ _ c ⟨fun _=>rfl,fun _=>by simp,by simp⟩ hb).1
end
section
open Go.ChangeShapes Go.WideShapes Go.ChangeAt Go.RowKit Go.Deep Go.Proofs.YtjnkcibpkkjniaaGreat.kx
theorem Tryz.xy:Tryz.prog.cellsOf 43=3:=by kernel_rfl
theorem Tryz.PU:Tryz.prog.bytesOf 43=32:=by kernel_rfl
theorem Tryz.Ed:Tryz.prog.cellsOf 9=1:=by kernel_rfl
theorem Tryz.AV:Tryz.prog.cellsOf 44=1:=by kernel_rfl
theorem Tryz.PV:Tryz.prog.bytesOf 44=24:=by kernel_rfl
theorem PW(s:ByteArray):∃d,Bytes d∧strOfNums d=s∧d.length=s.size:=by
 refine⟨s.data.toList.map fun b=>(b.toNat:Int),fun x hx=>?_,?_,by rw[iW];rfl⟩
 ·obtain⟨b,_,rfl⟩:=iY.1 hx;have:=b.toNat_lt;omega
 ·obtain⟨⟨l⟩⟩:=s;simp only[strOfNums];congr 2;simp only[List.map_map]
  conv=>rhs;rw[←List.map_id l]
  apply gO;intro b hb;simp
def ky.cells (x:ky):List Value:=[.int .i64 x.pe,.int .i64 x.k,.string (strOfNums x.d)]
variable {H:Type} {w:World} {base fuel:Nat} {spare:Nat→Bool} {held:Bool} {cs:List Value}
theorem PY{enc:TypeId×Value→H}{x:DataW H×List MemPlace}(h:DataW.trod enc Tryz.prog w base spare held fuel 43 cs=some x)(hw:∀m∈x.1.weights Tryz.prog 43,m≤reachBytes):∃r:ky,cs=r.cells∧Bytes r.d∧r.d.length≤reachBytes:=by
 obtain⟨xs,n,_,hx,hlen,a,c⟩:=iR Tryz.underlying43 h;rw[Tryz.xy]at hlen
 match cs,hlen with
 |[c0,c1,c2],_ =>
  have g:∀i,i<3→∃y,xs[i]?=some y:=fun i u=>⟨xs[i]'(by rw[a];exact u),by simp⟩
  obtain⟨z,C⟩:=g 0 (by omega);obtain⟨E,F⟩:=g 1 (by omega);obtain⟨f,o⟩:=g 2 (by omega);have f0:DataW.trod enc Tryz.prog w base spare held n 3 (List.take (Tryz.prog.cellsOf 3) (List.drop 0 [c0,c1,c2]))=some z:=(c 0 _ rfl).trans C;rw[Tryz.rN]at f0;have f1:DataW.trod enc Tryz.prog w base spare held n 3 (List.take (Tryz.prog.cellsOf 3) (List.drop 1 [c0,c1,c2]))=some E:=(c 1 _ rfl).trans F;rw[Tryz.rN]at f1;have f2:DataW.trod enc Tryz.prog w base spare held n 9 (List.take (Tryz.prog.cellsOf 9) (List.drop 2 [c0,c1,c2]))=some f:=(c 2 _ rfl).trans o;rw[Tryz.Ed]at f2;obtain⟨l,G,_,_⟩:=iS Tryz.underlying3 f0;obtain⟨g',I,_,_⟩:=iS Tryz.underlying3 f1;obtain⟨s,J,e,hsz⟩:=DataW.trod_string Tryz.underlying9 f2;obtain rfl:c0=.int .i64 l:=by simpa using G
  obtain rfl:c1=.int .i64 g':=by simpa using I
  obtain rfl:c2=.string s:=by simpa using J
  obtain⟨d,k1,rfl,K⟩:=PW s;refine⟨⟨l,g',d⟩,rfl,k1,?_⟩;show d.length≤_;rw[K];apply hw;rw[hx];simp only[DataW.weights,Tryz.underlying43];refine iZ (j:=2) (t:=9) rfl (d:=f.1) (by simp[o]) _ ?_;rw[e];simp only[DataW.weights,iE];rfl
variable {v:Value}
theorem PZ{enc:TypeId×Value→H}{x:DataW H×List MemPlace}(kp:∀b,spare b=true)(h:DataW.trod enc Tryz.prog w 0 spare held fuel 44 [v]=some x)(hw:∀m∈x.1.weights Tryz.prog 44,m≤reachBytes):∃(n:Nat)(r:Nat→ky),Sl w 3 v n (fun i=>(r i).cells)∧n≤4398046511103∧Dz w v∧∀i<n,Bytes (r i).d∧(r i).d.length≤reachBytes:=by
 obtain⟨n,c,D,j,hb,e⟩:=xx (size:=3) (bytes:=32) Tryz.underlying44 Tryz.xy (by omega) Tryz.PU h hw;have hr:∀i<n,∃r:ky,c i=r.cells∧Bytes r.d∧r.d.length≤reachBytes:=fun i a=>by
  obtain⟨⟨m,y,o,f⟩,g⟩:=e i a;exact PY o (by rw[f];exact g)
 obtain⟨r,hr⟩:=yH (⟨0,0,[]⟩:ky) hr;exact⟨n,r,j.congr fun i a=>(hr i a).1.symm,by omega,AU kp Tryz.underlying44 (by rw[Tryz.xy];decide) h,fun i a=>(hr i a).2⟩
theorem P2{enc:TypeId×Value→H}{x:DataW H×List MemPlace}(kp:∀b,spare b=true)(h:DataW.trod enc Tryz.prog w 0 spare held fuel 47 [v]=some x)(hw:∀m∈x.1.weights Tryz.prog 47,m≤reachBytes):∃(n:Nat)(u:Nat→Value),Sl w 1 v n (fun i=>[u i])∧Dz w v∧∀i<n,∃(m:Nat)(r:Nat→ky),Sl w 3 (u i) m (fun i=>(r i).cells)∧m≤4398046511103∧Dz w (u i)∧∀j<m,Bytes (r j).d∧(r j).d.length≤reachBytes:=by
 obtain⟨n,c,D,E,hb,f⟩:=xx (size:=1) (bytes:=24) Tryz.underlying47 Tryz.AV (by omega) Tryz.PV h hw;have hr:∀i<n,∃u:Value,c i=[u]∧∃(m:Nat)(r:Nat→ky),Sl w 3 u m (fun i=>(r i).cells)∧m≤4398046511103∧Dz w u∧∀j<m,Bytes (r j).d∧(r j).d.length≤reachBytes:=fun i e=>by
  obtain⟨⟨m,y,g,o⟩,z⟩:=f i e;obtain⟨u,hu⟩:∃u,c i=[u]:=by
   rcases iT Tryz.underlying44 g with⟨C,_⟩|⟨a,len,cap,_,_,_,_,C,_⟩
   ·exact⟨_,C⟩
   ·exact⟨_,C⟩
  rw[hu]at g;exact⟨u,hu,PZ kp g (by rw[o];exact z)⟩
 obtain⟨u,hu⟩:=yH (.bool true) hr;exact⟨n,u,E.congr fun i e=>(hu i e).1.symm,AU kp Tryz.underlying47 (by rw[Tryz.AV];decide) h,fun i e=>(hu i e).2⟩
theorem P3(d:DataW H):1≤Rows.uptoBulk d:=by
 cases d with
 |lit l=>cases l<;>simp[Rows.uptoBulk]
 |nil=>simp[Rows.uptoBulk]
 |ptr d=>simp[Rows.uptoBulk]
 |slice elems spare=>simp[Rows.uptoBulk]
 |agg parts=>simp[Rows.uptoBulk]
 |iface t d=>simp[Rows.uptoBulk]
 |map entries=>simp[Rows.uptoBulk]
 |held h=>simp[Rows.uptoBulk]
theorem yI{H:Type}{d:DataW H}:∀{l:List (DataW H)},d∈l→Rows.uptoBulk d≤Rows.uptoBulkAll l
 |[],h=>by cases h
 |x::r,h=>by
  simp only[Rows.uptoBulkAll];rcases fN.1 h with rfl|e
  ·omega
  ·have:=yI e;omega
theorem yJ{H:Type}:∀l:List (DataW H),l.length≤Rows.uptoBulkAll l
 |[]=>eP _
 |x::r=>by have:=P3 x;have:=yJ r;simp only[Rows.uptoBulkAll,gG];omega
variable {B:Nat}
theorem P4{enc:TypeId×Value→H}{x:DataW H×List MemPlace}(h:DataW.trod enc Tryz.prog w base spare held fuel 43 cs=some x)(hB:Rows.uptoBulk x.1≤B):∃s:ByteArray,cs[2]?=some (.string s)∧s.size≤B:=by
 obtain⟨xs,n,_,hx,hlen,a,i⟩:=iR Tryz.underlying43 h;rw[Tryz.xy]at hlen
 match cs,hlen with
 |[c0,c1,c2],_ =>
  obtain⟨c,f⟩:∃y,xs[2]?=some y:=⟨xs[2]'(by rw[a];decide),by simp⟩;have f2:DataW.trod enc Tryz.prog w base spare held n 9 (List.take (Tryz.prog.cellsOf 9) (List.drop 2 [c0,c1,c2]))=some c:=(i 2 _ rfl).trans f;rw[Tryz.Ed]at f2;obtain⟨s,j,e,_⟩:=DataW.trod_string Tryz.underlying9 f2;obtain rfl:c2=.string s:=by simpa using j
  refine⟨s,rfl,?_⟩;rw[hx]at hB;have g:Rows.uptoBulk c.1≤Rows.uptoBulkAll (xs.map (·.1)):=yI (iY.2 ⟨c,gv f,rfl⟩);rw[e]at g;simp only[Rows.uptoBulk]at g hB;have m:s.size=s.data.toList.length:=by rw[je];rfl
  omega
theorem P5{enc:TypeId×Value→H}{m:Nat}{x:DataW H×List MemPlace}{r:Nat→ky}(h:DataW.trod enc Tryz.prog w 0 spare held fuel 44 [v]=some x)(hB:Rows.uptoBulk x.1≤B)(hS:Sl w 3 v m fun i=>(r i).cells):m≤B∧∀j<m,(r j).d.length≤B:=by
 obtain⟨ao,F,rfl,_,_,G⟩:=hS;rcases iT Tryz.underlying44 h with⟨f,hx⟩|⟨a,len,cap,I,n,D,Pl,f,_,J,K,hm,hx,C⟩
 ·simp at f;obtain⟨_,rfl,_⟩:=f;exact⟨eP _,fun j z=>absurd z (ik _)⟩
 ·simp at f;obtain⟨rfl,rfl,rfl⟩:=f;rw[hx]at hB;simp only[Rows.uptoBulk]at hB;have L:=yJ ((List.range m).map D);simp only[iW,iX]at L;refine⟨by omega,fun j z=>?_⟩;obtain⟨b,o,e,M⟩:=G (by omega)
  cases e
  have N:m≤I:=by rw[hm];split<;>omega
  obtain⟨R,u,E⟩:=C j (by omega);rw[Tryz.xy]at u;have W:Rows.uptoBulk (D j)≤Rows.uptoBulkAll ((List.range m).map D):=yI (iY.2 ⟨j,gg.2 z,rfl⟩);obtain⟨s,U,y⟩:=P4 E (B:=B) (by show Rows.uptoBulk (D j)≤B;omega);obtain⟨_,X,c⟩:=iU u;have g:=c 2 (by decide);rw[U]at g;have V:=M j z 2 (.string (strOfNums (r j).d)) rfl;have ea:((⟨b,o,none⟩:Addr).add (j*3)).add 2=⟨b,o+j*3+2,none⟩:=by rw[add_add,AS rfl];simp only[dQ]
  rw[ea,V]at g;simp only[dW,Value.string.injEq]at g;rw[←g]at y;rwa[jf]at y
theorem P6{enc:TypeId×Value→H}{n:Nat}{x:DataW H×List MemPlace}{u:Nat→Value}(h:DataW.trod enc Tryz.prog w 0 spare held fuel 47 [v]=some x)(hB:Rows.uptoBulk x.1≤B)(hS:Sl w 1 v n fun i=>[u i]):n≤B∧∀i<n,∀(m:Nat)(r:Nat→ky),Sl w 3 (u i) m (fun i=>(r i).cells)→m≤B∧∀j<m,(r j).d.length≤B:=by
 obtain⟨ao,I,rfl,_,_,K⟩:=hS;rcases iT Tryz.underlying47 h with⟨y,hx⟩|⟨a,len,cap,L,k,D,Pl,y,_,M,N,hm,hx,C⟩
 ·simp at y;obtain⟨_,rfl,_⟩:=y;exact⟨eP _,fun j R=>absurd R (ik _)⟩
 ·simp at y;obtain⟨rfl,rfl,rfl⟩:=y;rw[hx]at hB;simp only[Rows.uptoBulk]at hB;have U:=yJ ((List.range n).map D);simp only[iW,iX]at U;refine⟨by omega,fun i J m r E=>?_⟩;obtain⟨b,o,e,V⟩:=K (by omega)
  cases e
  have W:n≤L:=by rw[hm];split<;>omega
  obtain⟨F,z,G⟩:=C i (by omega);rw[Tryz.AV]at z;have Z:Rows.uptoBulk (D i)≤Rows.uptoBulkAll ((List.range n).map D):=yI (iY.2 ⟨i,gg.2 J,rfl⟩);obtain⟨_,X,f⟩:=iU z;have g:=f 0 (by decide);have Y:=V i J 0 (u i) rfl;have ea:((⟨b,o,none⟩:Addr).add (i*1)).add 0=⟨b,o+i*1+0,none⟩:=by rw[add_add,AS rfl];simp only[dQ]
  rw[ea,Y]at g
  match F,X with
  |[c],_ =>
   simp at g;subst g;exact P5 G (B:=B) (by show Rows.uptoBulk (D i)≤B;omega) E
end
section
open Go Go.RowKit
open Go.Proofs.YtjnkcibpkkjniaaGreat.kN (lh lO oL)
structure rS (w:World) (ib io:Nat) (pe k:Int) (s:List Int):Prop where
 pe:w.cell? ⟨ib,io,none⟩=some (.int .i64 pe)
 k:w.cell? ⟨ib,io+1,none⟩=some (.int .i64 k)
 s:w.cell? ⟨ib,io+2,none⟩=some (.string (strOfNums s))
variable {w:World} {ib io:Nat} {pe:Int} {s:List Int}
theorem rS.keep{w':World}{k:Int}(h:rS w ib io pe k s)(e:w'.heap[ib]?=w.heap[ib]?):rS w' ib io pe k s:=by
 have c:∀o,w'.cell? ⟨ib,o,none⟩=w.cell? ⟨ib,o,none⟩:=fun o=>by simp[World.cell?,e]
 exact⟨(c _).trans h.pe,(c _).trans h.k,(c _).trans h.s⟩
def qN (tb ib io n cp:Nat) (pe kd:Int) (s:List Int) (j:Nat):Nat→Value→World→Prop
 |0,v,_=>v=.pointer (some ⟨tb,0,none⟩)
 |1,v,_=>v=.slice (some ⟨ib,io,none⟩) n cp
 |2,v,_=>v=.int .i64 j
 |3,v,_=>v=.pointer (some ⟨ib,io+3*j,none⟩)
 |4,v,_=>v=.agg #[.int .i64 pe,.int .i64 kd,.string (strOfNums s)]
 |_,_,_=>True
variable {tb:Nat}
theorem Sd{n a:Nat}{kd:Int}{j:Nat}(w w':World)(i:Nat)(u:Value)(hB:Below w.heap.size w w')(h:qN tb ib io n a pe kd s j i u w):qN tb ib io n a pe kd s j i u w':=by
 unfold qN at h ⊢;split at h<;>exact h
noncomputable def sQ:Array Oper:=((Tryz.f79.body).bind (opsOf 6)).getD #[]
theorem Se:lh sQ [1,2,4] 27=true:=by kernel_rfl
theorem Sf:lO sQ=true:=by kernel_rfl
theorem Sg:sQ.size=6:=by kernel_rfl
variable {base xN sb:Nat} {now:Int} {cl ov:Bool} {S:Array Value}
theorem TS.Bt{sent:List Int}(h:TS w base tb sb now (.slice none 0 0) [] cl ov S)(hb:base≤xN)(a:xN≤w.heap.size):TS w xN tb sb now (.slice none 0 0) [] cl ov S :=
 ⟨h.t,h.s,ju _ _ _ _,⟨by have:=h.lt;omega,by have:=h.lt;omega,a⟩,h.ne⟩
theorem TS.lower{sv:Value}{sent:List Int}(h:TS w xN tb sb now sv sent cl ov S)(hb:base≤xN)(a:tb<base)(c:sb<base):TS w base tb sb now sv sent cl ov S :=
 ⟨h.t,h.s,A8 h.own hb,⟨a,c,by have:=h.lt;omega⟩,h.ne⟩
theorem Fw{C:Array Value}(h:C.size=27):∃c0 c1 c2 c3 c4 G I J K L a c e lf f g i j m o r u x y z E F,C=#[c0,c1,c2,c3,c4,G,I,J,K,L,a,c,e,lf,f,g,i,j,m,o,r,u,x,y,z,E,F]:=by
 obtain⟨l⟩:=C
 match l,h with
 |c0::c1::c2::c3::c4::G::I::J::K::L::a::c::e::lf::f::g::i::j::m::o::r::u::x::y::z::E::F::[],_=>exact⟨_,_,_,_,_,_,_,_,_,_,_,_,_,_,_,_,_,_,_,_,_,_,_,_,_,_,_,rfl⟩
end
end Go.Proofs.YtjnkcibpkkjniaaGreat
