import Derived.Test.YtjnkcibpkkjniaaGreatA00
import Derived.Test.YtjnkcibpkkjniaaGreatA22
set_option linter.all false
set_option maxHeartbeats 4000000
set_option maxRecDepth 20000
namespace Go.Proofs.YtjnkcibpkkjniaaGreat
section
open Go Go.RowKit
open Go.Proofs.YtjnkcibpkkjniaaGreat.kj (kH lf nO)
def nQ (b:List Int) (A:Int):Option lS :=
 if b.getD 0 0≠4 then some ⟨2,1,kB 4⟩
 else if kP ((b.drop 1).take 2)≠A then some ⟨2,2,[]⟩
 else if kP ((b.drop 3).take 2)≠0∧kP ((b.drop 3).take 2)<3 then some ⟨2,6,[]⟩
 else if kP ((b.drop 5).take 4)=0 then some ⟨2,3,[]⟩
 else if b.getD 9 0≠0∨10<b.length then some ⟨2,4,[]⟩
 else none
def oZ (w:World) (b:List Int) (A:Int) (e:Ending) (w':World):Prop :=
 Below w.heap.size w w'∧match nQ b A with
  |some t=>e=.panicked [{ v:=t.val,recovered:=false }]
  |none=>e=.returned (.agg #[.int .i64 (kP ((b.drop 1).take 2)),.int .i64 (kP ((b.drop 3).take 2)),.int .u32 (kP ((b.drop 5).take 4))])
variable {b:List Int}
theorem Pb{Q:Exit→Act→World→Prop}{u x y:List Int}{n1 n2 n3:Int}{w0:World}(hlen:10≤b.length)(s1:(strOfNums b).extract 1 3=strOfNums u)(s2:(strOfNums b).extract 3 5=strOfNums x)(H:(strOfNums b).extract 5 9=strOfNums y)(w1:IntKind.i64.wrap n1=n1)(w2:IntKind.i64.wrap n2=n2)(I:∀xs:List Int,(strOfNums xs).size=xs.length)(z:∀w,Calls Tryz.prog 178 #[.string (strOfNums u)] w fun e w'=>e=.returned (.int .u32 n1)∧w'=w)(B:∀w,Calls Tryz.prog 178 #[.string (strOfNums x)] w fun e w'=>e=.returned (.int .u32 n2)∧w'=w)(C:∀w,Calls Tryz.prog 178 #[.string (strOfNums y)] w fun e w'=>e=.returned (.int .u32 n3)∧w'=w)(i:Nat)(o:Oper)(a:Act)(w:World)(J:i<13)(E:rN[i]?=some o)(r:a.tmps[0]?=some (Value.string (strOfNums b)))(c:∀(j:Nat)(o':Oper)(d:Nat),rN[j]?=some o'→o'.dst=some d→(∃e∈o.after,e.on=j∧Region.binds .any e=true)→∃v,a.tmps[d]?=some v∧nZ b u x y n1 n2 n3 w0.heap.size j v w)(G:Below w0.heap.size w0 w)(K:Act→World→Prop)(g:∀v w',nZ b u x y n1 n2 n3 w0.heap.size i v w'→Below w.heap.size w w'→K (a.put o.dst v) w'):o.wp Tryz.prog a w K Q:=by
 have f0:=r;have L:(3:Int)≤(b.length:Int):=by omega
 have M:(5:Int)≤(b.length:Int):=by omega
 have N:(9:Int)≤(b.length:Int):=by omega
 clear hlen;clear r;have z:Hid (∀w,_):=z;have B:Hid (∀w,_):=B;have C:Hid (∀w,_):=C;obtain rfl|rfl|rfl|rfl|rfl|rfl|rfl|rfl|rfl|rfl|rfl|rfl|rfl:i=0∨i=1∨i=2∨i=3∨i=4∨i=5∨i=6∨i=7∨i=8∨i=9∨i=10∨i=11∨i=12:=by omega
 all_goals
  simp only[rN,Tryz.f173]at E;simp only[fR,gx,fS,dR]at E;subst E
 ·unfold Oper.wp execOp;simp only[Act.eval,du,f0,ez];go_simp;exact g _ _ rfl (iD _ _)
 ·obtain⟨m,h,f⟩:=c 0 _ _ rfl rfl ⟨⟨0,.data⟩,by simp,rfl,rfl⟩;simp only[nZ]at f
  try subst f
  unfold Oper.wp execOp;simp only[Act.eval,du,h,ez];go_simp;exact g _ _ rfl (iD _ _)
 ·obtain⟨m,h,f⟩:=c 1 _ _ rfl rfl ⟨⟨1,.data⟩,by simp,rfl,rfl⟩;simp only[nZ]at f
  try subst f
  unfold Oper.wp execOp;simp only[];go_simp;refine(z.out w).mono ?_;rintro e w1 ⟨rfl,rfl⟩;exact g _ _ rfl (iD _ _)
 ·obtain⟨m,h,f⟩:=c 2 _ _ rfl rfl ⟨⟨2,.data⟩,by simp,rfl,rfl⟩;simp only[nZ]at f
  try subst f
  unfold Oper.wp execOp;simp only[Act.eval,du,h,ez];go_simp;exact g _ _ rfl (iD _ _)
 ·unfold Oper.wp execOp;simp only[Act.eval,du,f0,ez];go_simp;exact g _ _ rfl (iD _ _)
 ·obtain⟨m,h,f⟩:=c 4 _ _ rfl rfl ⟨⟨4,.data⟩,by simp,rfl,rfl⟩;simp only[nZ]at f
  try subst f
  unfold Oper.wp execOp;simp only[Act.eval,du,h,ez];go_simp;exact g _ _ rfl (iD _ _)
 ·obtain⟨m,h,f⟩:=c 5 _ _ rfl rfl ⟨⟨5,.data⟩,by simp,rfl,rfl⟩;simp only[nZ]at f
  try subst f
  unfold Oper.wp execOp;simp only[];go_simp;refine(B.out w).mono ?_;rintro e w1 ⟨rfl,rfl⟩;exact g _ _ rfl (iD _ _)
 ·obtain⟨m,h,f⟩:=c 6 _ _ rfl rfl ⟨⟨6,.data⟩,by simp,rfl,rfl⟩;simp only[nZ]at f
  try subst f
  unfold Oper.wp execOp;simp only[Act.eval,du,h,ez];go_simp;exact g _ _ rfl (iD _ _)
 ·unfold Oper.wp execOp;simp only[Act.eval,du,f0,ez];go_simp;exact g _ _ rfl (iD _ _)
 ·obtain⟨m,h,f⟩:=c 8 _ _ rfl rfl ⟨⟨8,.data⟩,by simp,rfl,rfl⟩;simp only[nZ]at f
  try subst f
  unfold Oper.wp execOp;simp only[Act.eval,du,h,ez];go_simp;exact g _ _ rfl (iD _ _)
 ·obtain⟨m,h,f⟩:=c 9 _ _ rfl rfl ⟨⟨9,.data⟩,by simp,rfl,rfl⟩;simp only[nZ]at f
  try subst f
  unfold Oper.wp execOp;simp only[];go_simp;refine(C.out w).mono ?_;rintro e w1 ⟨rfl,rfl⟩;exact g _ _ rfl (iD _ _)
 ·obtain⟨m,h,f⟩:=c 3 _ _ rfl rfl ⟨⟨3,.data⟩,by simp,rfl,rfl⟩;simp only[nZ]at f
  try subst f
  obtain⟨R,U,F⟩:=c 7 _ _ rfl rfl ⟨⟨7,.data⟩,by simp,rfl,rfl⟩;simp only[nZ]at F
  try subst F
  obtain⟨V,W,p2⟩:=c 10 _ _ rfl rfl ⟨⟨10,.data⟩,by simp,rfl,rfl⟩;simp only[nZ]at p2
  try subst p2
  unfold Oper.wp execOp;simp only[Act.eval,du];go_simp;exact g _ _ rfl (iD _ _)
 ·unfold Oper.wp execOp;go_simp;exact g _ _ ⟨w.heap.size,rfl,G.size,jl w _⟩ (by(repeat(first|exact iD _ _|refine iG ?_|refine iH ?_ (by first|omega|(simp only[iI,iJ,iK];omega)|simp) _|refine iL ?_ (by first|omega|simp) _|assumption)))
theorem Pc(hb:Bytes b)(hlen:10≤b.length)(A:Int)(w:World):Calls Tryz.prog 173 #[.string (strOfNums b),.int .i64 A] w fun e w'=>oZ w b A e w':=by
 obtain⟨x1,e1⟩:∃x,(b.drop 1).take 2=x:=⟨_,rfl⟩;obtain⟨x2,e2⟩:∃x,(b.drop 3).take 2=x:=⟨_,rfl⟩;obtain⟨x3,e3⟩:∃x,(b.drop 5).take 4=x:=⟨_,rfl⟩;obtain⟨n1,m1⟩:∃n,kP x1=n:=⟨_,rfl⟩;obtain⟨n2,m2⟩:∃n,kP x2=n:=⟨_,rfl⟩;obtain⟨n3,m3⟩:∃n,kP x3=n:=⟨_,rfl⟩;obtain⟨v0,W⟩:∃v,b[0]?=some v:=⟨_,jf (by omega)⟩;obtain⟨H,X⟩:∃v,b[9]?=some v:=⟨_,jf (by omega)⟩;have g0:b.getD 0 0=v0:=by rw[jj,W];rfl
 have g9:b.getD 9 0=H:=by rw[jj,X];rfl
 have r:Hid (∀e w',oZ w b A e w'↔(Below w.heap.size w w'∧match nQ b A with
  |some t=>e=.panicked [{ v:=t.val,recovered:=false }]
  |none=>e=.returned (.agg #[.int .i64 n1,.int .i64 n2,.int .u32 n3]))):=fun e w'=>by unfold oZ;rw[e1,e2,e3,m1,m2,m3]
 have u:Hid (nQ b A=if v0≠4 then some ⟨2,1,kB 4⟩ else if n1≠A then some ⟨2,2,[]⟩ else if n2≠0∧n2<3 then some ⟨2,6,[]⟩ else if n3=0 then some ⟨2,3,[]⟩ else if H≠0∨10<b.length then some ⟨2,4,[]⟩ else none):=by
  show _=_;unfold nQ;rw[g0,g9,e1,e2,e3,m1,m2,m3]
 clear g0 g9;have Y:Bytes x1:=fun x h=>by rw[←e1]at h;exact hb x (iW (iV h))
 have Z:Bytes x2:=fun x h=>by rw[←e2]at h;exact hb x (iW (iV h))
 have ab:Bytes x3:=fun x h=>by rw[←e3]at h;exact hb x (iW (iV h))
 have ad:x1.length=2:=by rw[←e1];simp;omega
 have ae:x2.length=2:=by rw[←e2];simp;omega
 have ah:x3.length=4:=by rw[←e3];simp;omega
 have C1:∀w,Calls Tryz.prog 178 #[.string (strOfNums x1)] w fun e w'=>e=.returned (.int .u32 n1)∧w'=w:=fun w=>by rw[←m1];exact yd _ Y (by omega) w
 have C2:∀w,Calls Tryz.prog 178 #[.string (strOfNums x2)] w fun e w'=>e=.returned (.int .u32 n2)∧w'=w:=fun w=>by rw[←m2];exact yd _ Z (by omega) w
 have C3:∀w,Calls Tryz.prog 178 #[.string (strOfNums x3)] w fun e w'=>e=.returned (.int .u32 n3)∧w'=w:=fun w=>by rw[←m3];exact yd _ ab (by omega) w
 have kz:=iE;have s1:(strOfNums b).extract 1 3=strOfNums x1:=by rw[←e1];exact p8 b 1 3
 have s2:(strOfNums b).extract 3 5=strOfNums x2:=by rw[←e2];exact p8 b 3 5
 have s3:(strOfNums b).extract 5 9=strOfNums x3:=by rw[←e3];exact p8 b 5 9
 have g1:=uv Y;have g2:=uv Z;rw[ad,m1]at g1;rw[ae,m2]at g2;have w1:IntKind.i64.wrap n1=n1:=by rw[iw];omega
 have w2:IntKind.i64.wrap n2=n2:=by rw[iw];omega
 have af:Hid (∀(w0:World)(Q:Exit→Act→World→Prop),_):=fun(w0:World) (Q:Exit→Act→World→Prop)=>Pb (Q:=Q) (w0:=w0) hlen s1 s2 s3 w1 w2 kz C1 C2 C3
 have q0:∀h:0<(strOfNums b).size,(((strOfNums b)[0]'h).toNat:Int)=v0:=fun h=>tu hb W h
 have q9:∀h:9<(strOfNums b).size,(((strOfNums b)[9]'h).toNat:Int)=H:=fun h=>tu hb X h
 have z0:0<(strOfNums b).size:=by rw[kz];omega
 have z9:9<(strOfNums b).size:=by rw[kz];omega
 have N:Hid (∀w,Calls Tryz.prog 164 #[.int .i64 4] w fun e w'=>e=.returned (.string (strOfNums (kB 4)))∧Below w.heap.size w w'):=fun w=>Ac 4 w
 have HR:Hid (_):=Al;have es:(⟨#[]⟩:ByteArray)=strOfNums []:=rfl;clear C1 C2 C3 s1 s2 s3 w1 w2 g1 g2 Y Z ab e1 e2 e3 m1 m2 m3 ad ae ah W X;go_enter Tryz.func173,Tryz.ntmps173
 go_wp2_with fail
 refine nO (ops:=rN) (val:=nZ b x1 x2 x3 n1 n2 n3 (w.alloc (.cells #[.int .i64 0,.int .i64 0,.int .u32 0] 245)).heap.size) (fix:=[(0,.string (strOfNums b)),(1,.int .i64 A),(4,.pointer (some ⟨w.heap.size,0,none⟩))]) (T:=56) (w0:=w.alloc (.cells #[.int .i64 0,.int .i64 0,.int .u32 0] 245)) (Post:=DI n1 n2 n3 (w.alloc (.cells #[.int .i64 0,.int .i64 0,.int .u32 0] 245)).heap.size (w.alloc (.cells #[.int .i64 0,.int .i64 0,.int .u32 0] 245))) (n:=13) (by kernel_rfl) OI OJ OK OH
  (fun i o a w1 hi ho F I hs K hK=>af.out _ _ i o a w1 hi ho (F (0,.string (strOfNums b)) (by simp)) I hs K hK) (fun o a w1 ho F I hs K hK=>OL o a w1 ho I hs K hK) (fun a w1 kG hsz F hP=>?_) rfl rfl ?_ ?_
 ·have f0:a.tmps[0]?=some (.string (strOfNums b)):=F (0,.string (strOfNums b)) (by simp);obtain⟨bb,h5,p1,p2,hB⟩:=hP;have f1:a.tmps[1]?=some (.int .i64 A):=F (1,.int .i64 A) (by simp);have f4:a.tmps[4]?=some (.pointer (some ⟨w.heap.size,0,none⟩)):=F (4,.pointer (some ⟨w.heap.size,0,none⟩)) (by simp);obtain⟨tm,df⟩:=a;simp only at kG hsz f0 f1 f4 h5;subst kG;obtain⟨k0,k1,k2,k3,k4,k5,k6,k7,k8,k9,al,am,an,ao,ap,aq,ar,av,aw,ax,ay,az,aA,aB,aC,aD,aE,aF,aG,aH,aI,aJ,aK,aL,aM,aN,aO,aP,aQ,aR,aS,aT,aU,aV,aW,aX,aY,aZ,a0,a1,a2,a3,a4,a5,a6,a7,rfl⟩:=OG hsz;simp only[fR,gx,fS,dR]at f0 f1 f4 h5;subst f0 f1 f4 h5;have U:=(hB.block w.heap.size (by simp)).trans (jl w _);have c0:=jV p2 0;have c1:=jV p2 1;have c2:=jV p2 2;have d0:=jV U 0;have d1:=jV U 1;have d2:=jV U 2;have y0:=kK U 0;have y1:=kK U 1;have y2:=kK U 2;simp at c0 c1 c2 d0 d1 d2;have j:Below w.heap.size w w1:=jd ((iD _ _).alloc (dx _) _) (hB.mono (by simp));have ag:Hid (_):=U;clear af hB p2 U F
  by_cases m:v0≠4
  ·have ai:(v0 == 4)=false:=by simpa using m
   have c:nQ b A=some ⟨2,1,kB 4⟩:=by rw[u.out,dj m]
   have y:Hid (∀e w',Below w.heap.size w w'→e=.panicked [{ v:=(lS.val ⟨2,1,kB 4⟩),recovered:=false }]→oZ w b A e w'):=fun e w' f g=>(r.out e w').2 ⟨f,by rw[c];exact g⟩
   clear c r u m
   go_wp2_with (first
    |(go_at_call 164;go_loud (refine(N.out _).mono ?_);go_loud (rintro e w2 ⟨rfl,z⟩))
    |(go_at_call 176;go_loud (refine(HR.out ⟨2,1,kB 4⟩ _).mono ?_);go_loud (rintro e w3 ⟨rfl,rfl⟩)))
   exact⟨rfl,y.out _ _ (j.trans (z.mono j.size)) rfl⟩
  ·have ai:(v0 == 4)=true:=by simpa using m
   by_cases f:n1≠A
   ·have aj:(n1 == A)=false:=by simpa using f
    have c:nQ b A=some ⟨2,2,[]⟩:=by rw[u.out,dk m,dj f]
    have y:Hid (∀e w',Below w.heap.size w w'→e=.panicked [{ v:=(lS.val ⟨2,2,[]⟩),recovered:=false }]→oZ w b A e w'):=fun e w' f g=>(r.out e w').2 ⟨f,by rw[c];exact g⟩
    clear c r u m f
    go_wp2_with (first
     |(go_at_call 164;go_loud (refine(N.out _).mono ?_);go_loud (rintro e w2 ⟨rfl,z⟩))
     |(go_at_call 176;go_loud (refine(HR.out ⟨2,2,[]⟩ _).mono ?_);go_loud (rintro e w3 ⟨rfl,rfl⟩)))
    exact⟨rfl,y.out _ _ j rfl⟩
   ·have aj:(n1 == A)=true:=by simpa using f
    by_cases g:n2≠0∧n2<3
    ·have aa:(n2 == 0)=false:=by simpa using g.1
     have V:n2<3:=g.2;have c:nQ b A=some ⟨2,6,[]⟩:=by rw[u.out,dk m,dk f,dj g]
     have y:Hid (∀e w',Below w.heap.size w w'→e=.panicked [{ v:=(lS.val ⟨2,6,[]⟩),recovered:=false }]→oZ w b A e w'):=fun e w' f g=>(r.out e w').2 ⟨f,by rw[c];exact g⟩
     clear c r u m f g
     go_wp2_with (first
      |(go_at_call 164;go_loud (refine(N.out _).mono ?_);go_loud (rintro e w2 ⟨rfl,z⟩))
      |(go_at_call 176;go_loud (refine(HR.out ⟨2,6,[]⟩ _).mono ?_);go_loud (rintro e w3 ⟨rfl,rfl⟩)))
     exact⟨rfl,y.out _ _ j rfl⟩
    ·by_cases C:n3=0
     ·have ak:(n3 == 0)=true:=by simpa using C
      by_cases G:n2=0
      ·have aa:(n2 == 0)=true:=by simpa using G
       have c:nQ b A=some ⟨2,3,[]⟩:=by rw[u.out,dk m,dk f,dk g,dj C]
       have y:Hid (∀e w',Below w.heap.size w w'→e=.panicked [{ v:=(lS.val ⟨2,3,[]⟩),recovered:=false }]→oZ w b A e w'):=fun e w' f g=>(r.out e w').2 ⟨f,by rw[c];exact g⟩
       clear c r u m f g C
       go_wp2_with (first
        |(go_at_call 164;go_loud (refine(N.out _).mono ?_);go_loud (rintro e w2 ⟨rfl,z⟩))
        |(go_at_call 176;go_loud (refine(HR.out ⟨2,3,[]⟩ _).mono ?_);go_loud (rintro e w3 ⟨rfl,rfl⟩)))
       exact⟨rfl,y.out _ _ j rfl⟩
      ·have aa:(n2 == 0)=false:=by simpa using G
       have V:¬n2<3:=fun h=>g ⟨G,h⟩
       have c:nQ b A=some ⟨2,3,[]⟩:=by rw[u.out,dk m,dk f,dk g,dj C]
       have y:Hid (∀e w',Below w.heap.size w w'→e=.panicked [{ v:=(lS.val ⟨2,3,[]⟩),recovered:=false }]→oZ w b A e w'):=fun e w' f g=>(r.out e w').2 ⟨f,by rw[c];exact g⟩
       clear c r u m f g C
       go_wp2_with (first
        |(go_at_call 164;go_loud (refine(N.out _).mono ?_);go_loud (rintro e w2 ⟨rfl,z⟩))
        |(go_at_call 176;go_loud (refine(HR.out ⟨2,3,[]⟩ _).mono ?_);go_loud (rintro e w3 ⟨rfl,rfl⟩)))
       exact⟨rfl,y.out _ _ j rfl⟩
     ·have ak:(n3 == 0)=false:=by simpa using C
      by_cases G:n2=0
      ·subst G
       by_cases R:H≠0
       ·have E:H≠0∨10<b.length:=.inl R;have J:(H != 0)=true:=by simpa using R
        have c:nQ b A=some ⟨2,4,[]⟩:=by rw[u.out,dk m,dk f,dk g,dk C,dj E]
        have y:Hid (∀e w',Below w.heap.size w w'→e=.panicked [{ v:=(lS.val ⟨2,4,[]⟩),recovered:=false }]→oZ w b A e w'):=fun e w' f g=>(r.out e w').2 ⟨f,by rw[c];exact g⟩
        clear c r u m f g C E R
        go_wp2_with (first
         |(go_at_call 164;go_loud (refine(N.out _).mono ?_);go_loud (rintro e w2 ⟨rfl,z⟩))
         |(go_at_call 176;go_loud (refine(HR.out ⟨2,4,[]⟩ _).mono ?_);go_loud (rintro e w3 ⟨rfl,rfl⟩)))
        exact⟨rfl,y.out _ _ j rfl⟩
       ·have J:H=0:=by omega
        subst J
        by_cases B:10<b.length
        ·have E:(0:Int)≠0∨10<b.length:=.inr B;have L:decide ((10:Int)<(b.length:Int))=true:=by simp;omega
         have c:nQ b A=some ⟨2,4,[]⟩:=by rw[u.out,dk m,dk f,dk g,dk C,dj E]
         have y:Hid (∀e w',Below w.heap.size w w'→e=.panicked [{ v:=(lS.val ⟨2,4,[]⟩),recovered:=false }]→oZ w b A e w'):=fun e w' f g=>(r.out e w').2 ⟨f,by rw[c];exact g⟩
         clear c r u m f g C E B
         go_wp2_with (first
          |(go_at_call 164;go_loud (refine(N.out _).mono ?_);go_loud (rintro e w2 ⟨rfl,z⟩))
          |(go_at_call 176;go_loud (refine(HR.out ⟨2,4,[]⟩ _).mono ?_);go_loud (rintro e w3 ⟨rfl,rfl⟩)))
         exact⟨rfl,y.out _ _ j rfl⟩
        ·have E:¬((0:Int)≠0∨10<b.length):=fun h=>h.elim R B
         have L:decide ((10:Int)<(b.length:Int))=false:=by simp;omega
         have c:nQ b A=none:=by rw[u.out,dk m,dk f,dk g,dk C,dk E]
         have y:Hid (∀e w',Below w.heap.size w w'→e=.returned (.agg #[.int .i64 n1,.int .i64 0,.int .u32 n3])→oZ w b A e w'):=fun e w' f g=>(r.out e w').2 ⟨f,by rw[c];exact g⟩
         clear c r u m f g C E B
         go_wp2_with fail
         have s0:=lj ag.out 0 (.int .i64 n1);simp only[ik,iu]at s0;have s1:=lj s0 1 (.int .i64 0);simp only[ik,iu,iq]at s1;have s2:=lj s1 2 (.int .u32 n3);simp only[ik,iu,iq]at s2;have M:Below w.heap.size w (((w1.setCell ⟨w.heap.size,0,none⟩ (.int .i64 n1)).setCell ⟨w.heap.size,1,none⟩ (.int .i64 0)).setCell ⟨w.heap.size,2,none⟩ (.int .u32 n3)):=by
          refine iL (iL (iL j ?_ _) ?_ _) ?_ _<;>exact dx _
         generalize(((w1.setCell ⟨w.heap.size,0,none⟩ (.int .i64 n1)).setCell ⟨w.heap.size,1,none⟩ (.int .i64 0)).setCell ⟨w.heap.size,2,none⟩ (.int .u32 n3))=w2 at s2 M ⊢;have r0:=jV s2 0;have r1:=jV s2 1;have r2:=jV s2 2;simp at r0 r1 r2;exact iZ (v:=.agg #[.int .i64 n1,.int .i64 0,.int .u32 n3]) (by simp[results,Tryz.results173,go_sem,r0,r1,r2]) rfl (y.out _ _ M rfl)
      ·have aa:(n2 == 0)=false:=by simpa using G
       have V:¬n2<3:=fun h=>g ⟨G,h⟩
       by_cases R:H≠0
       ·have E:H≠0∨10<b.length:=.inl R;have J:(H != 0)=true:=by simpa using R
        have c:nQ b A=some ⟨2,4,[]⟩:=by rw[u.out,dk m,dk f,dk g,dk C,dj E]
        have y:Hid (∀e w',Below w.heap.size w w'→e=.panicked [{ v:=(lS.val ⟨2,4,[]⟩),recovered:=false }]→oZ w b A e w'):=fun e w' f g=>(r.out e w').2 ⟨f,by rw[c];exact g⟩
        clear c r u m f g C E R
        go_wp2_with (first
         |(go_at_call 164;go_loud (refine(N.out _).mono ?_);go_loud (rintro e w2 ⟨rfl,z⟩))
         |(go_at_call 176;go_loud (refine(HR.out ⟨2,4,[]⟩ _).mono ?_);go_loud (rintro e w3 ⟨rfl,rfl⟩)))
        exact⟨rfl,y.out _ _ j rfl⟩
       ·have J:H=0:=by omega
        subst J
        by_cases B:10<b.length
        ·have E:(0:Int)≠0∨10<b.length:=.inr B;have L:decide ((10:Int)<(b.length:Int))=true:=by simp;omega
         have c:nQ b A=some ⟨2,4,[]⟩:=by rw[u.out,dk m,dk f,dk g,dk C,dj E]
         have y:Hid (∀e w',Below w.heap.size w w'→e=.panicked [{ v:=(lS.val ⟨2,4,[]⟩),recovered:=false }]→oZ w b A e w'):=fun e w' f g=>(r.out e w').2 ⟨f,by rw[c];exact g⟩
         clear c r u m f g C E B
         go_wp2_with (first
          |(go_at_call 164;go_loud (refine(N.out _).mono ?_);go_loud (rintro e w2 ⟨rfl,z⟩))
          |(go_at_call 176;go_loud (refine(HR.out ⟨2,4,[]⟩ _).mono ?_);go_loud (rintro e w3 ⟨rfl,rfl⟩)))
         exact⟨rfl,y.out _ _ j rfl⟩
        ·have E:¬((0:Int)≠0∨10<b.length):=fun h=>h.elim R B
         have L:decide ((10:Int)<(b.length:Int))=false:=by simp;omega
         have c:nQ b A=none:=by rw[u.out,dk m,dk f,dk g,dk C,dk E]
         have y:Hid (∀e w',Below w.heap.size w w'→e=.returned (.agg #[.int .i64 n1,.int .i64 n2,.int .u32 n3])→oZ w b A e w'):=fun e w' f g=>(r.out e w').2 ⟨f,by rw[c];exact g⟩
         clear c r u m f g C E B
         go_wp2_with fail
         have s0:=lj ag.out 0 (.int .i64 n1);simp only[ik,iu]at s0;have s1:=lj s0 1 (.int .i64 n2);simp only[ik,iu,iq]at s1;have s2:=lj s1 2 (.int .u32 n3);simp only[ik,iu,iq]at s2;have M:Below w.heap.size w (((w1.setCell ⟨w.heap.size,0,none⟩ (.int .i64 n1)).setCell ⟨w.heap.size,1,none⟩ (.int .i64 n2)).setCell ⟨w.heap.size,2,none⟩ (.int .u32 n3)):=by
          refine iL (iL (iL j ?_ _) ?_ _) ?_ _<;>exact dx _
         generalize(((w1.setCell ⟨w.heap.size,0,none⟩ (.int .i64 n1)).setCell ⟨w.heap.size,1,none⟩ (.int .i64 n2)).setCell ⟨w.heap.size,2,none⟩ (.int .u32 n3))=w2 at s2 M ⊢;have r0:=jV s2 0;have r1:=jV s2 1;have r2:=jV s2 2;simp at r0 r1 r2;exact iZ (v:=.agg #[.int .i64 n1,.int .i64 n2,.int .u32 n3]) (by simp[results,Tryz.results173,go_sem,r0,r1,r2]) rfl (y.out _ _ M rfl)
 ·intro x hx;simp at hx;rcases hx with rfl|rfl|rfl<;>rfl
 ·exact⟨rfl,rfl,rfl,dx _,fun _ _=>rfl⟩
end
section
open Go Go.RowKit
open Go.Proofs.YtjnkcibpkkjniaaGreat.kj (oC kH lf nO)
end
section
open Go Go.RowKit
open Go.Proofs.YtjnkcibpkkjniaaGreat.kj (oC kH lf nO)
variable {q:Option Nat}
def qY (st k:Int):Bool:=if k=3 then true else if st=1 then k == 1 else if st=2 then k == 4 else(k == 2 || k == 4)
theorem yj(w:World)(sb so:Nat)(st k:Int)(h:w.cell? ⟨sb,so+9,none⟩=some (.int .i64 st)):Calls Tryz.prog 170 #[.pointer (some ⟨sb,so,none⟩),.int .i64 k] w fun e w'=>e=.returned (.bool (qY st k))∧w'=w:=by
 have a:=h;go_enter Tryz.func170,Tryz.ntmps170
 go_wp2
 all_goals go_ret
 all_goals(refine⟨?_,rfl⟩;simp_all[qY])
variable {w:World} {base tb sb:Nat} {now au id st hold heard spoke:Int} {sv pv:Value} {sent xs b:List Int} {cl ov:Bool} {p:Pz}
theorem Pd(h:ko q w base tb sb now sv sent cl ov (j5 au id p st hold heard spoke pv) pv xs)(aa:qY st 4=true):Calls Tryz.prog 157 #[.pointer (some ⟨tb,0,none⟩),.agg #[.int .i64 4,.string (strOfNums b)]] w fun e w'=>(∃v,e=.returned v)∧ko q w' base tb sb now sv sent cl ov (j5 au id p 3 hold now spoke pv) pv xs∧kh q base tb sb w w':=by
 obtain⟨qa,qh,ql,qp,qw,ia,il,ic,ea,el,ec⟩:=p;simp only[j5]at h ⊢;have HB:Below w.heap.size w (w.alloc (.cells #[.int .i64 4,.string (strOfNums b)] 247)):=(iD _ _).alloc (dx _) _;have E:Hid (ko q (w.alloc (.cells #[.int .i64 4,.string (strOfNums b)] 247)) base tb sb now sv sent cl ov _ pv xs):=h.below HB;have m:Hid (kh q base tb sb w (w.alloc (.cells #[.int .i64 4,.string (strOfNums b)] 247))):=kh.below HB h.ts.lt.2.2;have H:(w.alloc (.cells #[.int .i64 4,.string (strOfNums b)] 247)).heap[w.heap.size]?=some (.cells #[.int .i64 4,.string (strOfNums b)] 247 (0,0)):=jl w _;have ae:base≤w.heap.size:=h.ts.lt.2.2;clear h HB;go_enter Tryz.func157,Tryz.ntmps157
 go_wp2_with fail
 generalize(w.alloc (.cells #[.int .i64 4,.string (strOfNums b)] 247))=w1 at E m H ⊢;obtain⟨⟨c0,c1,c2,c3,c4⟩,z2,z3,z4⟩:=E.out.ts.facts;obtain⟨e0,e1,e2,e3,e4,e5,e6,e7,e8,K,o,r,u,x,L,M,N,R,U,V,W,X,Y,Z,c,f,g,i⟩:=oD E.out.ts.s;have y:=jV H 0;have z:=jV H 1;simp at y z;have I:Hid (∀n,Calls Tryz.prog 170 #[.pointer (some ⟨sb,0,none⟩),.int .i64 4] (w1.drewN n) fun e w'=>e=.returned (.bool true)∧w'=w1.drewN n):=fun n=>by have:=yj (w1.drewN n) sb 0 st 4 K;rw[aa]at this;exact this
 go_quiet ((go_at_call 170;exact jh (I.out _)))
 go_wp2_with fail
 have h2:=E.out.drewN nq;have B:=m.out.trans (E.out.ts.drewN nq).2.wide;have a:(w1.drewN nq).heap[w.heap.size]?=some (.cells #[.int .i64 4,.string (strOfNums b)] 247 (0,0)):=H;clear c0 c1 c2 c3 c4 z2 z3 z4 e0 e1 e2 e3 e4 e5 e6 e7 e8 K o r u x L M N R U V W X Y Z c f g i y z I E m H;generalize w1.drewN nq=w2 at h2 B a ⊢;have F:Hid (_):=h2;have J:Hid (_):=B;clear h2 B;obtain⟨⟨c0,c1,c2,c3,c4⟩,z2,z3,z4⟩:=F.out.ts.facts;obtain⟨e0,e1,e2,e3,e4,e5,e6,e7,e8,K,o,r,u,x,L,M,N,R,U,V,W,X,Y,Z,c,f,g,i⟩:=oD F.out.ts.s;have y:=jV a 0;have z:=jV a 1;simp at y z
 go_region
 have G:=(F.out.kF 11 (by decide) (.int .i64 now)).drew;have C:=(J.out.trans (F.out.ts.kF 11 (.int .i64 now)).2.wide).drew;have l0:=F.out.ts.lt;have j:(w2.setCell ⟨sb,11,none⟩ (.int .i64 now)).drew.heap[w.heap.size]?=some (.cells #[.int .i64 4,.string (strOfNums b)] 247 (0,0)):=(kn (by omega) 11 _).trans a;simp only[ik,iq,iu]at G;clear c0 c1 c2 c3 c4 z2 z3 z4 e0 e1 e2 e3 e4 e5 e6 e7 e8 K o r u x L M N R U V W X Y Z c f g i y z F J a;generalize(w2.setCell ⟨sb,11,none⟩ (.int .i64 now)).drew=w3 at G C j ⊢;have y:=jV j 0;have z:=jV j 1;simp at y z;have c0:=jV G.ts.t 0;obtain⟨d0,d1,d2,d3,d4,d5,d6,d7,d8,d9,d10,d11,d12,d13,L,M,N,R,U,V,W,X,Y,Z,c,f,g,i⟩:=oD G.ts.s;simp at c0;have H3:Hid (_):=G;have ab:Hid (_):=C;clear G C j
 go_wp2_with fail
 have h4:=H3.out.kF 9 (by decide) (.int .i64 3);have ad:=ab.out.trans (H3.out.ts.kF 9 (.int .i64 3)).2.wide;simp only[ik,iq,iu]at h4;exact iY (v:=.tuple #[]) (by simp[results,Tryz.results157,go_sem]) rfl ⟨⟨_,rfl⟩,h4,ad⟩
theorem Pe(h:ko q w base tb sb now sv sent cl ov (j5 au id p st hold heard spoke pv) pv xs)(aa:qY st 2=true):Calls Tryz.prog 157 #[.pointer (some ⟨tb,0,none⟩),.agg #[.int .i64 2,.string (strOfNums b)]] w fun e w'=>(∃v,e=.returned v)∧ko q w' base tb sb now sv sent cl ov (j5 au id p st hold now spoke pv) pv xs∧kh q base tb sb w w':=by
 obtain⟨qa,qh,ql,qp,qw,ia,il,ic,ea,el,ec⟩:=p;simp only[j5]at h ⊢;have HB:Below w.heap.size w (w.alloc (.cells #[.int .i64 2,.string (strOfNums b)] 247)):=(iD _ _).alloc (dx _) _;have E:Hid (ko q (w.alloc (.cells #[.int .i64 2,.string (strOfNums b)] 247)) base tb sb now sv sent cl ov _ pv xs):=h.below HB;have m:Hid (kh q base tb sb w (w.alloc (.cells #[.int .i64 2,.string (strOfNums b)] 247))):=kh.below HB h.ts.lt.2.2;have H:(w.alloc (.cells #[.int .i64 2,.string (strOfNums b)] 247)).heap[w.heap.size]?=some (.cells #[.int .i64 2,.string (strOfNums b)] 247 (0,0)):=jl w _;have ad:base≤w.heap.size:=h.ts.lt.2.2;clear h HB;go_enter Tryz.func157,Tryz.ntmps157
 go_wp2_with fail
 generalize(w.alloc (.cells #[.int .i64 2,.string (strOfNums b)] 247))=w1 at E m H ⊢;obtain⟨⟨c0,c1,c2,c3,c4⟩,z2,z3,z4⟩:=E.out.ts.facts;obtain⟨e0,e1,e2,e3,e4,e5,e6,e7,e8,K,o,r,u,x,L,M,N,R,U,V,W,X,Y,Z,c,f,g,i⟩:=oD E.out.ts.s;have y:=jV H 0;have z:=jV H 1;simp at y z;have I:Hid (∀n,Calls Tryz.prog 170 #[.pointer (some ⟨sb,0,none⟩),.int .i64 2] (w1.drewN n) fun e w'=>e=.returned (.bool true)∧w'=w1.drewN n):=fun n=>by have:=yj (w1.drewN n) sb 0 st 2 K;rw[aa]at this;exact this
 go_quiet ((go_at_call 170;exact jh (I.out _)))
 go_wp2_with fail
 have h2:=E.out.drewN nq;have B:=m.out.trans (E.out.ts.drewN nq).2.wide;have a:(w1.drewN nq).heap[w.heap.size]?=some (.cells #[.int .i64 2,.string (strOfNums b)] 247 (0,0)):=H;clear c0 c1 c2 c3 c4 z2 z3 z4 e0 e1 e2 e3 e4 e5 e6 e7 e8 K o r u x L M N R U V W X Y Z c f g i y z I E m H;generalize w1.drewN nq=w2 at h2 B a ⊢;have F:Hid (_):=h2;have J:Hid (_):=B;clear h2 B;obtain⟨⟨c0,c1,c2,c3,c4⟩,z2,z3,z4⟩:=F.out.ts.facts;obtain⟨e0,e1,e2,e3,e4,e5,e6,e7,e8,K,o,r,u,x,L,M,N,R,U,V,W,X,Y,Z,c,f,g,i⟩:=oD F.out.ts.s;have y:=jV a 0;have z:=jV a 1;simp at y z
 go_region
 have G:=(F.out.kF 11 (by decide) (.int .i64 now)).drew;have C:=(J.out.trans (F.out.ts.kF 11 (.int .i64 now)).2.wide).drew;have l0:=F.out.ts.lt;have j:(w2.setCell ⟨sb,11,none⟩ (.int .i64 now)).drew.heap[w.heap.size]?=some (.cells #[.int .i64 2,.string (strOfNums b)] 247 (0,0)):=(kn (by omega) 11 _).trans a;simp only[ik,iq,iu]at G;clear c0 c1 c2 c3 c4 z2 z3 z4 e0 e1 e2 e3 e4 e5 e6 e7 e8 K o r u x L M N R U V W X Y Z c f g i y z F J a;generalize(w2.setCell ⟨sb,11,none⟩ (.int .i64 now)).drew=w3 at G C j ⊢;have y:=jV j 0;have z:=jV j 1;simp at y z;have c0:=jV G.ts.t 0;obtain⟨d0,d1,d2,d3,d4,d5,d6,d7,d8,d9,d10,d11,d12,d13,L,M,N,R,U,V,W,X,Y,Z,c,f,g,i⟩:=oD G.ts.s;simp at c0;have H3:Hid (_):=G;have ab:Hid (_):=C;clear G C j
 go_wp2_with fail
 exact iY (v:=.tuple #[]) (by simp[results,Tryz.results157,go_sem]) rfl ⟨⟨_,rfl⟩,H3.out,ab.out⟩
theorem Pf(h:ko q w base tb sb now sv sent cl ov (j5 au id p st hold heard spoke pv) pv xs)(H:∃pa pl pc,pv=.slice pa pl pc):Calls Tryz.prog 157 #[.pointer (some ⟨tb,0,none⟩),.agg #[.int .i64 3,.string (strOfNums b)]] w fun e w'=>(∃v,e=.returned v)∧TS w' base tb sb now sv sent true true (j5 au id p 0 0 0 0 (.slice none 0 0))∧kh q base tb sb w w':=by
 obtain⟨qa,qh,ql,qp,qw,ia,il,ic,ea,el,ec⟩:=p;simp only[j5]at h ⊢;have HB:Below w.heap.size w (w.alloc (.cells #[.int .i64 3,.string (strOfNums b)] 247)):=(iD _ _).alloc (dx _) _;have E:Hid (ko q (w.alloc (.cells #[.int .i64 3,.string (strOfNums b)] 247)) base tb sb now sv sent cl ov _ pv xs):=h.below HB;have m:Hid (kh q base tb sb w (w.alloc (.cells #[.int .i64 3,.string (strOfNums b)] 247))):=kh.below HB h.ts.lt.2.2;have I:(w.alloc (.cells #[.int .i64 3,.string (strOfNums b)] 247)).heap[w.heap.size]?=some (.cells #[.int .i64 3,.string (strOfNums b)] 247 (0,0)):=jl w _;have ab:base≤w.heap.size:=h.ts.lt.2.2;clear h HB;go_enter Tryz.func157,Tryz.ntmps157
 go_wp2_with fail
 generalize(w.alloc (.cells #[.int .i64 3,.string (strOfNums b)] 247))=w1 at E m I ⊢;obtain⟨⟨c0,c1,c2,c3,c4⟩,z2,z3,z4⟩:=E.out.ts.facts;obtain⟨e0,e1,e2,e3,e4,e5,e6,e7,e8,L,o,r,u,x,M,N,R,U,V,W,X,Y,Z,y9,c,f,g,i⟩:=oD E.out.ts.s;have y:=jV I 0;have z:=jV I 1;simp at y z;have J:Hid (∀n,Calls Tryz.prog 170 #[.pointer (some ⟨sb,0,none⟩),.int .i64 3] (w1.drewN n) fun e w'=>e=.returned (.bool true)∧w'=w1.drewN n):=fun n=>by have:=yj (w1.drewN n) sb 0 st 3 L;rw[show qY st 3=true from rfl]at this;exact this
 go_quiet ((go_at_call 170;exact jh (J.out _)))
 go_wp2_with fail
 have h2:=E.out.drewN nq;have B:=m.out.trans (E.out.ts.drewN nq).2.wide;have a:(w1.drewN nq).heap[w.heap.size]?=some (.cells #[.int .i64 3,.string (strOfNums b)] 247 (0,0)):=I;clear c0 c1 c2 c3 c4 z2 z3 z4 e0 e1 e2 e3 e4 e5 e6 e7 e8 L o r u x M N R U V W X Y Z y9 c f g i y z J E m I;generalize w1.drewN nq=w2 at h2 B a ⊢;have F:Hid (_):=h2;have K:Hid (_):=B;clear h2 B;obtain⟨⟨c0,c1,c2,c3,c4⟩,z2,z3,z4⟩:=F.out.ts.facts;obtain⟨e0,e1,e2,e3,e4,e5,e6,e7,e8,L,o,r,u,x,M,N,R,U,V,W,X,Y,Z,y9,c,f,g,i⟩:=oD F.out.ts.s;have y:=jV a 0;have z:=jV a 1;simp at y z
 go_region
 have G:=(F.out.kF 11 (by decide) (.int .i64 now)).drew;have C:=(K.out.trans (F.out.ts.kF 11 (.int .i64 now)).2.wide).drew;have l0:=F.out.ts.lt;have j:(w2.setCell ⟨sb,11,none⟩ (.int .i64 now)).drew.heap[w.heap.size]?=some (.cells #[.int .i64 3,.string (strOfNums b)] 247 (0,0)):=(kn (by omega) 11 _).trans a;simp only[ik,iq,iu]at G;clear c0 c1 c2 c3 c4 z2 z3 z4 e0 e1 e2 e3 e4 e5 e6 e7 e8 L o r u x M N R U V W X Y Z y9 c f g i y z F K a;generalize(w2.setCell ⟨sb,11,none⟩ (.int .i64 now)).drew=w3 at G C j ⊢;have y:=jV j 0;have z:=jV j 1;simp at y z;have c0:=jV G.ts.t 0;obtain⟨d0,d1,d2,d3,d4,d5,d6,d7,d8,d9,d10,d11,d12,d13,M,N,R,U,V,W,X,Y,Z,y9,c,f,g,i⟩:=oD G.ts.s;simp at c0;have H3:Hid (_):=G;have aa:Hid (_):=C;clear G C j;have HC:Hid (Calls Tryz.prog 142 #[.pointer (some ⟨tb,0,none⟩)] w3 fun e w'=>(∃v,e=.returned v)∧TS w' base tb sb now sv sent true true (j5 au id ⟨qa,qh,ql,qp,qw,ia,il,ic,ea,el,ec⟩ 0 0 0 0 (.slice none 0 0))∧Rest base tb sb w3 w'):=by
  obtain⟨pa,pl,pc,rfl⟩:=H;exact Du (p:=⟨qa,qh,ql,qp,qw,ia,il,ic,ea,el,ec⟩) (st:=st) (hold:=hold) (heard:=now) (spoke:=spoke) H3.out.ts
 clear H
 go_wp2_with (go_at_call 142;go_loud (refine HC.out.mono ?_);go_loud (rintro e w4 ⟨⟨v4,rfl⟩,k1,k2⟩))
 exact iY (v:=.tuple #[]) (by simp[results,Tryz.results157,go_sem]) rfl ⟨⟨_,rfl⟩,k1,aa.out.trans k2.wide⟩
theorem Pg(w:World):Calls Tryz.prog 171 #[] w fun e w'=>e=.panicked [{ v:=(lS.val ⟨5,0,[]⟩),recovered:=false }]∧w'=w:=by
 have HR:Hid (_):=Al;have es:(⟨#[]⟩:ByteArray)=strOfNums []:=rfl;go_enter Tryz.func171,Tryz.ntmps171
 go_wp2_with (go_at_call 176;go_loud (refine(HR.out ⟨5,0,[]⟩ _).mono ?_);go_loud (rintro e w4 ⟨rfl,rfl⟩))
 exact⟨rfl,rfl,rfl⟩
theorem Ph(h:ko q w base tb sb now sv sent cl ov (j5 au id p st hold heard spoke pv) pv xs){k:Int}(f:qY st k=false):Calls Tryz.prog 157 #[.pointer (some ⟨tb,0,none⟩),.agg #[.int .i64 k,.string (strOfNums b)]] w fun e w'=>e=.panicked [{ v:=(lS.val ⟨5,0,[]⟩),recovered:=false }]∧ko q w' base tb sb now sv sent cl ov (j5 au id p st hold heard spoke pv) pv xs∧kh q base tb sb w w':=by
 obtain⟨H,I,J,K,L,ia,il,ic,ea,el,ec⟩:=p;simp only[j5]at h ⊢;have g:Below w.heap.size w (w.alloc (.cells #[.int .i64 k,.string (strOfNums b)] 247)):=(iD _ _).alloc (dx _) _;have a:Hid (ko q (w.alloc (.cells #[.int .i64 k,.string (strOfNums b)] 247)) base tb sb now sv sent cl ov _ pv xs):=h.below g;have c:Hid (kh q base tb sb w (w.alloc (.cells #[.int .i64 k,.string (strOfNums b)] 247))):=kh.below g h.ts.lt.2.2;have i:(w.alloc (.cells #[.int .i64 k,.string (strOfNums b)] 247)).heap[w.heap.size]?=some (.cells #[.int .i64 k,.string (strOfNums b)] 247 (0,0)):=jl w _;have m:base≤w.heap.size:=h.ts.lt.2.2;clear h g;go_enter Tryz.func157,Tryz.ntmps157
 go_wp2_with fail
 generalize(w.alloc (.cells #[.int .i64 k,.string (strOfNums b)] 247))=w1 at a c i ⊢;obtain⟨⟨c0,c1,c2,c3,c4⟩,z2,M,N⟩:=a.out.ts.facts;obtain⟨R,U,V,W,X,Y,Z,e7,e8,o,r,u,x,y,y0,y1,y2,y3,y4,y5,y6,y7,y8,y9,z,B,C,E⟩:=oD a.out.ts.s;have F:=jV i 0;have G:=jV i 1;simp at F G;have j:Hid (∀n,Calls Tryz.prog 170 #[.pointer (some ⟨sb,0,none⟩),.int .i64 k] (w1.drewN n) fun e w'=>e=.returned (.bool false)∧w'=w1.drewN n):=fun n=>by have:=yj (w1.drewN n) sb 0 st k o;rw[f]at this;exact this
 go_quiet ((go_at_call 170;exact jh (j.out _)))
 have HR:Hid (_):=Pg
 go_wp2_with (go_at_call 171;go_loud (refine(HR.out _).mono ?_);go_loud (rintro e w4 ⟨rfl,rfl⟩))
 exact⟨rfl,rfl,a.out.drewN nq,c.out.trans (a.out.ts.drewN nq).2.wide⟩
end
end Go.Proofs.YtjnkcibpkkjniaaGreat
namespace Go.Proofs.YtjnkcibpkkjniaaGreat.kj
section
open Go Go.RowKit
section
variable {P:Program} {ops:Array Oper} {Q:Exit→Act→World→Prop} {val:Nat→Value→World→Prop} {fix:List (Nat×Value)} {T:Nat} {w0:World} {Post:Act→World→Prop} {n:Nat} {D:List Deferred}
theorem wK{id:Nat}{a:Act}{w:World}(hm:P.follows .mixedOrders=true)(m:kH ops (fix.map (·.1)) T=true)(F:lf ops=true)(hn:ops.size=n+1)(z:∀w w' j u,Below w.heap.size w w'→val j u w→val j u w')(W:∀(i:Nat)(o:Oper)(a:Act)(w:World),a.defers=D→i<n→ops[i]?=some o→(∀x∈fix,a.tmps[x.1]?=some x.2)→(∀(j:Nat)(o':Oper)(d:Nat),ops[j]?=some o'→o'.dst=some d→(∃e∈o.after,e.on=j∧Region.binds .any e=true)→∃v,a.tmps[d]?=some v∧val j v w)→Below w0.heap.size w0 w →
   ∀K:Act→World→Prop,(∀v w',val i v w'→Below w.heap.size w w'→K (a.put o.dst v) w')→o.wp P a w K Q)(B:∀(o:Oper)(a:Act)(w:World),a.defers=D→ops[n]?=some o→(∀x∈fix,a.tmps[x.1]?=some x.2)→(∀(j:Nat)(o':Oper)(d:Nat),ops[j]?=some o'→o'.dst=some d→(∃e∈o.after,e.on=j∧Region.binds .any e=true)→∃v,a.tmps[d]?=some v∧val j v w)→Below w0.heap.size w0 w →
   ∀K:Act→World→Prop,(∀v w',Post (a.put o.dst v) w'→K (a.put o.dst v) w')→o.wp P a w K Q)(G:∀(a:Act)(w:World),a.defers=D→a.tmps.size=T→(∀x∈fix,a.tmps[x.1]?=some x.2)→Post a w→Q .normal a w)(hd:a.defers=D)(hs:a.tmps.size=T)(hf:∀x∈fix,a.tmps[x.1]?=some x.2)(h0:Below w0.heap.size w0 { w with drawn:=w.drawn+1 }):(Code.region id ops true).wp P Q a w:=by
 have key:∀(fuel:Nat)(listed:Array Bool)(a:Act)(w:World),mI D ops val fix T listed a w→listed.getD n false=false→Below w0.heap.size w0 w→mr ops listed≤fuel→wpAny P .any ops Q fuel listed a w:=by
  intro fuel
  induction fuel with
  |zero =>
   intro listed a w c f hB hu;have g:=ua (ops:=ops) (listed:=listed) (by omega);have:=g n (by omega);rw[f]at this
   cases this
  |succ fuel ih =>
   intro listed a w c f hB hu;refine⟨fun H=>?_,fun i I=>?_⟩
   ·have:=ub m c.ky H n (by omega);rw[f]at this
    cases this
   obtain⟨J,o,r,_⟩:=ga.1 I;have y:i<ops.size:=(dp.1 r).1;have L:listed.getD i false=false:=by
    have hsz:i<listed.size:=by rw[c.ky];exact y
    rw[du,dq hsz]at J ⊢;simpa using J
   unfold wpOp;rw[r];have hg:=(sR m r).2.2;have hw:Region.wanted o (yielded ops a.tmps)=true:=by simp[Region.wanted,hg]
   simp only[hw,dg]
   by_cases M:i=n
   ·subst M;refine .inl (B o a w c.defers r c.fix (fun j o' d C hd he=>c.dep r I C hd he) hB _ fun v w' hP=>?_);have h:mI D ops (fun _ _ _=>True) fix T (listed.setIfInBounds i true) (a.put o.dst v) w' :=
     mI.put (val:=fun _ _ _=>True) (w:=w) m ⟨c.defers,c.size,c.fix,fun j o' d E h2 N=>by obtain⟨v,k1,_⟩:=c.val j o' d E h2 N;exact⟨v,k1,trivial⟩,c.ky,c.pU⟩ r I trivial (fun _ _ _ _=>trivial)
    have g:=h.all F hn (by rw[mg _ _ _ (by rw[c.ky];exact y)];simp);have Z:=G _ _ h.defers h.size h.fix hP;have R:Region.ready .any ops (listed.setIfInBounds i true)=[]:=by
     cases hr:Region.ready .any ops (listed.setIfInBounds i true)with
     |nil=>rfl
     |cons x xs =>
      have hx:x∈Region.ready .any ops (listed.setIfInBounds i true):=by rw[hr];simp
      obtain⟨E,o2,X,_⟩:=ga.1 hx;have U:x<ops.size:=(dp.1 X).1;have N:=g x U;have Y:x<(listed.setIfInBounds i true).size:=by rw[h.ky];exact U
      rw[du,dq Y]at E N;simp only[ez]at E N;rw[N]at E
      cases E
    cases fuel with
    |zero=>exact⟨R,Z⟩
    |succ fuel=>exact⟨fun _=>Z,fun j C=>by rw[R]at C;cases C⟩
   ·refine .inl (W i o a w c.defers (by omega) r c.fix (fun j o' d C hd he=>c.dep r I C hd he) hB _ fun v w' hv V=>?_);have:=qI y c.ky L;refine ih _ _ _ (c.put m r I hv fun j u _=>z _ _ j u V) ?_ (hB.trans (V.mono hB.size)) (by omega);rw[mg _ _ _ (by rw[c.ky];exact y),dk (fun e=>M e.symm)];exact f
 refine iB hm (key ops.size _ a _ ⟨hd,hs,hf,fun i o d _ f=>?_,by simp,fun i o _ f=>?_⟩ ?_ h0 ?_)
 ·simp[du,dt]at f;split at f<;>simp at f
 ·simp[du,dt]at f;split at f<;>simp at f
 ·simp[du,dt];split<;>simp
 ·unfold mr;exact dz (gd _ _) (by simp)
end
end
end Go.Proofs.YtjnkcibpkkjniaaGreat.kj
namespace Go.Proofs.YtjnkcibpkkjniaaGreat
section
open Go Go.RowKit
open Go.Proofs.YtjnkcibpkkjniaaGreat.kj (oC kH lf wK)
variable {q:Option Nat}
def oE (tb sb mb:Nat) (b:List Int) (n1:Int):Nat→Value→World→Prop
 |0,v,_=>v=.pointer (some ⟨tb,0,none⟩)
 |1,v,_=>v=.pointer (some ⟨mb,1,none⟩)
 |2,v,_=>v=.string (strOfNums b)
 |3,v,_=>v=.pointer (some ⟨tb,0,none⟩)
 |4,v,_=>v=.pointer (some ⟨tb,0,none⟩)
 |5,v,_=>v=.pointer (some ⟨tb,0,none⟩)
 |6,v,_=>v=.pointer (some ⟨sb,0,none⟩)
 |7,v,_=>v=.pointer (some ⟨sb,0,none⟩)
 |8,v,_=>v=.pointer (some ⟨sb,2,none⟩)
 |9,v,_=>v=.pointer (some ⟨sb,2,none⟩)
 |10,v,_=>v=.int .i64 n1
 |11,_,_=>False
 |_,_,_=>True
variable {tb sb mb:Nat} {b:List Int} {n1:Int}
theorem Pj(w w':World)(j:Nat)(u:Value)(hB:Below w.heap.size w w')(h:oE tb sb mb b n1 j u w):oE tb sb mb b n1 j u w':=by
 unfold oE at h ⊢;split at h<;>exact h
theorem Pk{Q:Exit→Act→World→Prop}{w0:World}(x:tb<w0.heap.size)(y:sb<w0.heap.size)(z:mb<w0.heap.size)(ct:w0.cell? ⟨tb,0,none⟩=some (.pointer (some ⟨sb,0,none⟩)))(cs:w0.cell? ⟨sb,2,none⟩=some (.int .i64 n1))(E:w0.cell? ⟨mb,1,none⟩=some (.string (strOfNums b)))(t:lS)(r:∀w,Calls Tryz.prog 173 #[.string (strOfNums b),.int .i64 n1] w fun e w'=>e=.panicked [{ v:=t.val,recovered:=false }]∧Below w.heap.size w w')(B:∀a w',a.defers=[]→Below w0.heap.size w0 w'→Q (.panic [{ v:=t.val,recovered:=false }]) a w')(i:Nat)(o:Oper)(a:Act)(w:World)(kG:a.defers=[])(G:i<12)(C:pr[i]?=some o)(f0:a.tmps[0]?=some (.pointer (some ⟨tb,0,none⟩)))(f3:a.tmps[3]?=some (.pointer (some ⟨mb,0,none⟩)))(c:∀(j:Nat)(o':Oper)(d:Nat),pr[j]?=some o'→o'.dst=some d→(∃e∈o.after,e.on=j∧Region.binds .any e=true)→∃v,a.tmps[d]?=some v∧oE tb sb mb b n1 j v w)(u:Below w0.heap.size w0 w)(K:Act→World→Prop)(h:∀v w',oE tb sb mb b n1 i v w'→Below w.heap.size w w'→K (a.put o.dst v) w'):o.wp Tryz.prog a w K Q:=by
 have H:=(u.cell (p:=⟨tb,0,none⟩) x).trans ct;have I:=(u.cell (p:=⟨sb,2,none⟩) y).trans cs;have J:=(u.cell (p:=⟨mb,1,none⟩) z).trans E;clear ct cs E;have r:Hid (∀w,_):=r;replace kG:Hid (a.defers=[]):=kG;obtain rfl|rfl|rfl|rfl|rfl|rfl|rfl|rfl|rfl|rfl|rfl|rfl:i=0∨i=1∨i=2∨i=3∨i=4∨i=5∨i=6∨i=7∨i=8∨i=9∨i=10∨i=11:=by omega
 all_goals
  simp only[pr,Tryz.f157,opsOf,dW]at C;simp[]at C;subst C
 ·unfold Oper.wp execOp;simp only[Act.eval,du,f0,ez];go_simp;exact h _ _ rfl (iD _ _)
 ·unfold Oper.wp execOp;simp only[Act.eval,du,f3,ez];go_simp;exact h _ _ rfl (iD _ _)
 ·obtain⟨m,g,f⟩:=c 1 _ _ rfl rfl ⟨⟨1,.data⟩,by simp,rfl,rfl⟩;simp only[oE]at f
  try subst f
  unfold Oper.wp execOp;simp only[Act.eval,du,g,ez];go_simp;exact h _ _ rfl (iD _ _)
 ·unfold Oper.wp execOp;simp only[Act.eval,du,f0,ez];go_simp;exact h _ _ rfl (iD _ _)
 ·obtain⟨m,g,f⟩:=c 3 _ _ rfl rfl ⟨⟨3,.data⟩,by simp,rfl,rfl⟩;simp only[oE]at f
  try subst f
  unfold Oper.wp execOp;simp only[Act.eval,du,g,ez];go_simp;exact h _ _ rfl (iD _ _)
 ·obtain⟨m,g,f⟩:=c 4 _ _ rfl rfl ⟨⟨4,.data⟩,by simp,rfl,rfl⟩;simp only[oE]at f
  try subst f
  unfold Oper.wp execOp;simp only[Act.eval,du,g,ez];go_simp;exact h _ _ rfl (iD _ _)
 ·obtain⟨m,g,f⟩:=c 5 _ _ rfl rfl ⟨⟨5,.data⟩,by simp,rfl,rfl⟩;simp only[oE]at f
  try subst f
  unfold Oper.wp execOp;simp only[Act.eval,du,g,ez];go_simp;exact h _ _ rfl (iD _ _)
 ·obtain⟨m,g,f⟩:=c 6 _ _ rfl rfl ⟨⟨6,.data⟩,by simp,rfl,rfl⟩;simp only[oE]at f
  try subst f
  unfold Oper.wp execOp;simp only[Act.eval,du,g,ez];go_simp;exact h _ _ rfl (iD _ _)
 ·obtain⟨m,g,f⟩:=c 7 _ _ rfl rfl ⟨⟨7,.data⟩,by simp,rfl,rfl⟩;simp only[oE]at f
  try subst f
  unfold Oper.wp execOp;simp only[Act.eval,du,g,ez];go_simp;exact h _ _ rfl (iD _ _)
 ·obtain⟨m,g,f⟩:=c 8 _ _ rfl rfl ⟨⟨8,.data⟩,by simp,rfl,rfl⟩;simp only[oE]at f
  try subst f
  unfold Oper.wp execOp;simp only[Act.eval,du,g,ez];go_simp;exact h _ _ rfl (iD _ _)
 ·obtain⟨m,g,f⟩:=c 9 _ _ rfl rfl ⟨⟨9,.data⟩,by simp,rfl,rfl⟩;simp only[oE]at f
  try subst f
  unfold Oper.wp execOp;simp only[Act.eval,du,g,ez];go_simp;exact h _ _ rfl (iD _ _)
 ·obtain⟨m,g,f⟩:=c 2 _ _ rfl rfl ⟨⟨2,.data⟩,by simp,rfl,rfl⟩;simp only[oE]at f
  try subst f
  obtain⟨L,M,F⟩:=c 10 _ _ rfl rfl ⟨⟨10,.data⟩,by simp,rfl,rfl⟩;simp only[oE]at F
  try subst F
  unfold Oper.wp execOp;simp only[];go_simp;refine(r.out w).mono ?_;rintro e w1 ⟨rfl,hB⟩;exact B _ _ kG.out (u.trans (hB.mono u.size))
theorem Pm{w:World}{base:Nat}{now:Int}{sv:Value}{sent:List Int}{cl ov:Bool}{au id:Int}{p:Pz}{hold heard spoke:Int}{pv:Value}{xs:List Int}(h:ko q w base tb sb now sv sent cl ov (j5 au id p 1 hold heard spoke pv) pv xs)(t:lS)(j:∀w,Calls Tryz.prog 173 #[.string (strOfNums b),.int .i64 p.au] w fun e w'=>e=.panicked [{ v:=t.val,recovered:=false }]∧Below w.heap.size w w'):Calls Tryz.prog 157 #[.pointer (some ⟨tb,0,none⟩),.agg #[.int .i64 1,.string (strOfNums b)]] w fun e w'=>e=.panicked [{ v:=t.val,recovered:=false }]∧ko q w' base tb sb now sv sent cl ov (j5 au id p 1 hold now spoke pv) pv xs∧kh q base tb sb w w':=by
 obtain⟨qa,qh,ql,qp,qw,ia,il,ic,ea,el,ec⟩:=p;simp only[j5]at h j ⊢;have HB:Below w.heap.size w (w.alloc (.cells #[.int .i64 1,.string (strOfNums b)] 247)):=(iD _ _).alloc (dx _) _;have M:Hid (ko q (w.alloc (.cells #[.int .i64 1,.string (strOfNums b)] 247)) base tb sb now sv sent cl ov _ pv xs):=h.below HB;have u:Hid (kh q base tb sb w (w.alloc (.cells #[.int .i64 1,.string (strOfNums b)] 247))):=kh.below HB h.ts.lt.2.2;have V:(w.alloc (.cells #[.int .i64 1,.string (strOfNums b)] 247)).heap[w.heap.size]?=some (.cells #[.int .i64 1,.string (strOfNums b)] 247 (0,0)):=jl w _;have af:base≤w.heap.size:=h.ts.lt.2.2;clear h HB;replace j:Hid (∀w,_):=j;go_enter Tryz.func157,Tryz.ntmps157
 go_wp2_with fail
 generalize(w.alloc (.cells #[.int .i64 1,.string (strOfNums b)] 247))=w1 at M u V ⊢;obtain⟨⟨c0,c1,c2,c3,c4⟩,z2,z3,z4⟩:=M.out.ts.facts;obtain⟨e0,e1,N,e3,e4,e5,e6,e7,e8,e9,y,z,B,C,y0,y1,y2,y3,y4,y5,y6,y7,y8,y9,E,F,G,H⟩:=oD M.out.ts.s;have I:=jV V 0;have r:=jV V 1;simp at I r;have W:Hid (∀n,Calls Tryz.prog 170 #[.pointer (some ⟨sb,0,none⟩),.int .i64 1] (w1.drewN n) fun e w'=>e=.returned (.bool true)∧w'=w1.drewN n):=fun n=>DK _ sb 0 e9
 go_quiet ((go_at_call 170;exact jh (W.out _)))
 go_wp2_with fail
 have h2:=M.out.drewN nq;have J:=u.out.trans (M.out.ts.drewN nq).2.wide;have c:(w1.drewN nq).heap[w.heap.size]?=some (.cells #[.int .i64 1,.string (strOfNums b)] 247 (0,0)):=V;clear c0 c1 c2 c3 c4 z2 z3 z4 e0 e1 N e3 e4 e5 e6 e7 e8 e9 y z B C y0 y1 y2 y3 y4 y5 y6 y7 y8 y9 E F G H I r W M u V;generalize w1.drewN nq=w2 at h2 J c ⊢;have R:Hid (_):=h2;have X:Hid (_):=J;clear h2 J;obtain⟨⟨c0,c1,c2,c3,c4⟩,z2,z3,z4⟩:=R.out.ts.facts;obtain⟨e0,e1,N,e3,e4,e5,e6,e7,e8,e9,y,z,B,C,y0,y1,y2,y3,y4,y5,y6,y7,y8,y9,E,F,G,H⟩:=oD R.out.ts.s;have I:=jV c 0;have r:=jV c 1;simp at I r
 go_region
 have U:=(R.out.kF 11 (by decide) (.int .i64 now)).drew;have L:=(X.out.trans (R.out.ts.kF 11 (.int .i64 now)).2.wide).drew;have l0:=R.out.ts.lt;have f:(w2.setCell ⟨sb,11,none⟩ (.int .i64 now)).drew.heap[w.heap.size]?=some (.cells #[.int .i64 1,.string (strOfNums b)] 247 (0,0)):=(kn (by omega) 11 _).trans c;simp only[ik,iq,iu]at U;clear c0 c1 c2 c3 c4 z2 z3 z4 e0 e1 N e3 e4 e5 e6 e7 e8 e9 y z B C y0 y1 y2 y3 y4 y5 y6 y7 y8 y9 E F G H I r R X c;generalize(w2.setCell ⟨sb,11,none⟩ (.int .i64 now)).drew=w3 at U L f ⊢;have I:=jV f 0;have r:=jV f 1;simp at I r;have c0:=jV U.ts.t 0;have N:=jV U.ts.s 2;simp at c0 N;have Y:w.heap.size<w3.heap.size:=(dp.1 f).1;have H3:Hid (_):=U;have aa:Hid (_):=L;clear U L f
 go_wp2_with fail
 have ab:=H3.out.ts.lt;have ad:tb<w3.heap.size:=by omega
 have ae:sb<w3.heap.size:=by omega
 refine wK (D:=[]) (ops:=pr) (val:=oE tb sb w.heap.size b qa) (fix:=[(0,.pointer (some ⟨tb,0,none⟩)),(3,.pointer (some ⟨w.heap.size,0,none⟩))]) (T:=52) (w0:=w3) (Post:=fun _ w'=>False) (n:=12) (by kernel_rfl) DL DN DO Pj
  (fun i o a w1 kG hi Z m g hs K hK=>Pk ad ae Y c0 N r t j.out (fun a w' hd hB=>?_) i o a w1 kG hi Z (m (0,.pointer (some ⟨tb,0,none⟩)) (by simp)) (m (3,.pointer (some ⟨w.heap.size,0,none⟩)) (by simp)) g hs K hK)
  (fun o a w1 _ Z m g hs K hK=>?_) (fun a w1 kG hsz m hP=>hP.elim) rfl rfl ?_ ?_
 ·exact⟨hd,rfl,H3.out.below hB,aa.out.trans (kh.below hB ab.2.2)⟩
 ·simp only[pr,Tryz.f157,opsOf,dW]at Z;simp[]at Z;subst Z;obtain⟨u0,h0,p0⟩:=g 11 _ _ rfl rfl ⟨⟨11,.data⟩,by simp,rfl,rfl⟩;simp only[oE]at p0
 ·intro x hx;simp at hx;rcases hx with rfl|rfl<;>rfl
 ·exact⟨rfl,rfl,rfl,dx _,fun _ _=>rfl⟩
end
section
open Go Go.RowKit
variable {q:Option Nat}
structure SV where
 st:Int
 hold:Int
 heard:Int
 spoke:Int
 part:List Int
inductive FR
 |go (s:SV) (add:List Int)
 |shut (add:List Int)
 |bad (t:lS) (add:List Int)
def lP (A hd now:Int) (s:SV) (k:Int) (b:List Int):FR :=
 if qY s.st k=false then .bad ⟨5,0,[]⟩ []
 else if k=1 then match nQ b A with
  |some t=>.bad t []
  |none=>.go { s with st:=2,hold:=su hd (kP ((b.drop 3).take 2)),heard:=now,spoke:=now } (j9 4 [])
 else if k=4 then .go { s with st:=3,heard:=now } []
 else if k=3 then .shut []
 else .go { s with heard:=now } []
def lD (A hd now:Int):Nat→SV→List Int→List Int→FR
 |0,s,acc,_=>.go s acc
 |n+1,s,acc,d =>
  if d=[] then .go s acc else
  match nP s.part d with
  | .bad t _=>.bad t acc
  | .more ys=>lD A hd now n { s with part:=ys } acc (d.drop (lN s.part d))
  | .whole k b=>match lP A hd now { s with part:=[] } k b with
   | .bad t _=>.bad t acc
   | .shut _=>.shut acc
   | .go s' add=>lD A hd now n s' (acc++add) (d.drop (lN s.part d))
theorem wL(A hd now:Int)(n:Nat)(s:SV)(acc:List Int):lD A hd now n s acc []=.go s acc:=by
 cases n<;>simp[lD]
def lQ (q:Option Nat) (w:World) (base tb sb:Nat) (now:Int) (sv:Value) (sent:List Int) (cl ov:Bool) (au id:Int) (p:Pz) (s:SV) (pv:Value):Prop :=
 ko q w base tb sb now sv sent cl ov (j5 au id p s.st s.hold s.heard s.spoke pv) pv s.part
def FQ (q:Option Nat) (w:World) (base tb sb:Nat) (now:Int) (sent:List Int) (au id:Int) (p:Pz) (r:FR) (e:Ending) (w':World):Prop :=
 kh q base tb sb w w'∧match r with
  | .go s add=>(∃v,e=.returned v)∧∃sv pv,lQ q w' base tb sb now sv (sent++add) false false au id p s pv
  | .shut add=>(∃v,e=.returned v)∧∃sv,TS w' base tb sb now sv (sent++add) true true (j5 au id p 0 0 0 0 (.slice none 0 0))
  | .bad t add=>e=.panicked [{ v:=t.val,recovered:=false }]∧∃sv s pv,lQ q w' base tb sb now sv (sent++add) false false au id p s pv
section
variable {w:World} {base tb sb:Nat} {now:Int} {sv:Value} {sent:List Int} {au id:Int} {p:Pz} {s:SV} {pv:Value}
theorem lQ.slice{cl ov:Bool}(h:lQ q w base tb sb now sv sent cl ov au id p s pv):∃pa pl pc,pv=.slice pa pl pc:=by
 obtain⟨ao,c,e,_⟩:=p6 h.own;exact⟨ao,_,c,e⟩
theorem Pn(h:lQ q w base tb sb now sv sent false false au id p s pv)(z:sent.length≤50000){k:Int}{b:List Int}(C:1≤k∧k≤4)(hb:Bytes b)(o:k=1→10≤b.length):Calls Tryz.prog 157 #[.pointer (some ⟨tb,0,none⟩),.agg #[.int .i64 k,.string (strOfNums b)]] w fun e w'=>FQ q w base tb sb now sent au id p (lP p.au p.hold now s k b) e w':=by
 obtain⟨st,hold,heard,spoke,part⟩:=s;have r:=h.slice;unfold lQ at h;simp only at h
 cases hB:qY st k
 ·refine(Ph h hB).mono ?_;rintro e w' ⟨rfl,a,c⟩;refine⟨c,?_⟩;simp only[lP,hB,dg];exact⟨by first|trivial|rfl,sv,⟨st,hold,heard,spoke,part⟩,pv,by unfold lQ;rw[gZ];exact a⟩
 ·by_cases m:k=1
  ·subst m;have u:st=1:=by
    unfold qY at hB;simp at hB;exact hB
   subst u;have j:=fun w=>Pc hb (o rfl) p.au w
   cases f:nQ b p.au with
   |some t =>
    refine(Pm h t (b:=b) fun w=>(j w).mono fun e w' g=>?_).mono ?_
    ·unfold oZ at g;rw[f]at g;exact⟨g.2,g.1⟩
    ·rintro e w' ⟨rfl,a,c⟩;refine⟨c,?_⟩;simp only[lP,hB,f,dg,jr,dh];exact⟨by first|trivial|rfl,sv,⟨1,hold,now,spoke,part⟩,pv,by unfold lQ;rw[gZ];exact a⟩
   |none =>
    have B:kP ((b.drop 1).take 2)=p.au:=by
     unfold nQ at f;split at f
     ·cases f
     ·split at f
      ·cases f
      ·rename_i h;exact Decidable.not_not.1 h
    refine(OZ h z (b:=b) (n2:=kP ((b.drop 3).take 2)) (n3:=kP ((b.drop 5).take 4)) (fun w=>(j w).mono fun e w' g=>?_)).mono ?_
    ·unfold oZ at g;rw[f,B]at g;exact⟨g.2,g.1⟩
    ·rintro e w' ⟨i,sv',a,c⟩;refine⟨c,?_⟩;simp only[lP,hB,f,dg,jr,dh];exact⟨i,sv',pv,a⟩
  ·by_cases x:k=4
   ·subst x;refine(Pd h (b:=b) hB).mono ?_;rintro e w' ⟨i,a,c⟩;refine⟨c,?_⟩;simp only[lP,hB,dg,jr,dh,m];exact⟨i,sv,pv,by unfold lQ;rw[gZ];exact a⟩
   ·by_cases y:k=3
    ·subst y;refine(Pf h (b:=b) r).mono ?_;rintro e w' ⟨i,a,c⟩;refine⟨c,?_⟩;simp only[lP,hB,dg,jr,dh,m,x];exact⟨i,sv,by rw[gZ];exact a⟩
    ·obtain rfl:k=2:=by omega
     refine(Pe h (b:=b) hB).mono ?_;rintro e w' ⟨i,a,c⟩;refine⟨c,?_⟩;simp only[lP,hB,jr,dh,m,x,y];exact⟨i,sv,pv,by unfold lQ;rw[gZ];exact a⟩
end
end
section
open Go Go.RowKit
theorem Eh{xs:List Int}(h:0<xs.length):(strOfNums xs).toList.isEmpty=false:=by
 rw[ji]
 cases xs with
 |nil=>exact absurd h (Nat.lt_irrefl _)
 |cons x xs=>rfl
theorem Ei:(strOfNums []).toList.isEmpty=true:=by rw[ji];rfl
theorem Po{w:World}{base tb sb:Nat}{now:Int}{sv:Value}{sent:List Int}{cl ov:Bool}{au id:Int}{p:Pz}{hold heard spoke:Int}{pv:Value}(h:TS w base tb sb now sv sent cl ov (j5 au id p 0 hold heard spoke pv))(s:ByteArray):Calls Tryz.prog 148 #[.pointer (some ⟨tb,0,none⟩),.string s] w fun e w'=>(∃v,e=.returned v)∧w'=w:=by
 obtain⟨c,f,g,i,j,ia,il,ic,ea,el,ec⟩:=p;simp only[j5]at h;obtain⟨⟨c0,c1,c2,c3,c4⟩,z2,m,o⟩:=h.facts;have a:=jV h.s 9;simp at a;clear h;go_enter Tryz.func148,Tryz.ntmps148
 go_wp2_with fail
 exact iZ (v:=.tuple #[]) (by simp[results,Tryz.results148,go_sem]) rfl ⟨⟨_,rfl⟩,rfl⟩
end
section
open Go Go.RowKit
variable {q:Option Nat}
variable {xs d:List Int}
theorem Ej(h:oo xs)(hd:0<d.length):0<lN xs d∧lN xs d≤d.length∧(lN xs d:Int)≤lA xs:=by
 have:=h.want;unfold lN;omega
theorem AB(h:oo xs)(hd:Bytes d)(a:0<d.length):let ys:=xs++d.take (lN xs d)
  Bytes ys∧(19<ys.length→my (ys.take 19)=none)∧ys.length=xs.length+lN xs d:=by
 intro ys;obtain⟨g,i,j⟩:=Ej h a;have c:ys.length=xs.length+lN xs d:=by
  show(xs++d.take (lN xs d)).length=_;rw[iF,iT];omega
 refine⟨h.bytes.app fun x hx=>hd x (iV hx),fun f=>?_,c⟩
 by_cases hx:xs.length<19
 ·have:lA xs=19-(xs.length:Int):=by unfold lA;rw[dj hx]
  omega
 ·have e:ys.take 19=xs.take 19:=List.take_append_of_le_length (by omega);rw[e];exact(h.ok (by omega)).1
variable {ys:List Int}
theorem AD(h:oo xs)(hd:Bytes d)(a:0<d.length)(e:nP xs d=.more ys):oo ys:=by
 obtain⟨k1,k2,g⟩:=AB h hd a;unfold nP qz at e;generalize xs++d.take (lN xs d)=j at e k1 k2 g;split at e
 ·cases e
 ·rename_i f;split at e
  ·rename_i hp
   cases e
   refine⟨k1,fun i=>?_⟩;have hw:lA ys=kQ ys-(ys.length:Int):=by unfold lA;rw[dk (by omega)]
   refine⟨?_,by omega⟩
   by_cases c:ys.length=19
   ·rw[dj c]at f;exact f
   ·exact k2 (by omega)
  ·cases e
theorem Pp{h:List Int}(e:my h=none):1≤lT h∧lT h≤4∧uw (lT h) (kQ h)=true:=by
 unfold my at e;split at e
 ·split at e
  ·cases e
  ·split at e
   ·cases e
   ·split at e
    ·rename_i hm;exact⟨by omega,by omega,hm⟩
    ·cases e
 ·cases e
theorem Pq(h:19≤ys.length):lT (ys.take 19)=lT ys:=by
 unfold lT;rw[jj,jj,jm (by omega)]
variable {b:List Int} {k:Int}
theorem AE(h:oo xs)(hd:Bytes d)(f:0<d.length)(e:nP xs d=.whole k b):(1≤k∧k≤4)∧Bytes b∧(k=1→10≤b.length):=by
 obtain⟨k1,k2,o⟩:=AB h hd f;unfold nP qz at e;generalize xs++d.take (lN xs d)=ys at e k1 k2 o;split at e
 ·cases e
 ·rename_i i;split at e
  ·cases e
  ·rename_i hp;have a:19≤ys.length:=by
    by_cases r:ys.length<19
    ·have:lA ys=19-(ys.length:Int):=by unfold lA;rw[dj r]
     omega
    ·omega
   have hw:lA ys=kQ ys-(ys.length:Int):=by unfold lA;rw[dk (by omega)]
   have hb:my (ys.take 19)=none:=by
    by_cases g:ys.length=19
    ·rw[dj g]at i;exact i
    ·exact k2 (by omega)
   obtain⟨j,m,c⟩:=Pp hb;rw[Pq a]at j m c;rw[vk ys a]at c
   cases e
   refine⟨⟨j,m⟩,fun x hx=>k1 x (iW hx),fun u=>?_⟩;rw[u]at c;simp[uw]at c;rw[iU];omega
variable {A hd now:Int} {n:Nat} {s:SV} {acc:List Int} {t:lS}
theorem wM(a:d≠[])(h:nP s.part d=.bad t ys):lD A hd now (n+1) s acc d=.bad t acc:=by
 rw[lD,dk a,h]
theorem wN(a:d≠[])(h:nP s.part d=.more ys):lD A hd now (n+1) s acc d=lD A hd now n { s with part:=ys } acc (d.drop (lN s.part d)):=by
 rw[lD,dk a,h]
variable {l:List Int}
theorem wO(a:d≠[])(h:nP s.part d=.whole k b)(c:lP A hd now { s with part:=[] } k b=.bad t l):lD A hd now (n+1) s acc d=.bad t acc:=by
 rw[lD,dk a,h];simp only[c]
theorem wP(a:d≠[])(h:nP s.part d=.whole k b)(c:lP A hd now { s with part:=[] } k b=.shut l):lD A hd now (n+1) s acc d=.shut acc:=by
 rw[lD,dk a,h];simp only[c]
variable {s':SV} {add:List Int}
theorem wQ(a:d≠[])(h:nP s.part d=.whole k b)(c:lP A hd now { s with part:=[] } k b=.go s' add):lD A hd now (n+1) s acc d=lD A hd now n s' (acc++add) (d.drop (lN s.part d)):=by
 rw[lD,dk a,h];simp only[c]
theorem AF(h:lP A hd now s k b=.go s' add):s'.part=s.part∧((s.st=1∧s'.st≠1∧add.length=19)∨add=[])∧(s'.st=1→s.st=1∧add=[]):=by
 unfold lP at h;split at h
 ·cases h
 ·rename_i hb;split at h
  ·rename_i f;subst f;have c:s.st=1:=by
    cases a:qY s.st 1
    ·exact absurd a hb
    ·unfold qY at a;simp at a;exact a
   split at h
   ·cases h
   ·cases h;exact⟨rfl,.inl ⟨c,by simp,by decide⟩,fun e=>by simp at e⟩
  ·split at h
   ·cases h;exact⟨rfl,.inr rfl,fun e=>by simp at e⟩
   ·split at h
    ·cases h
    ·cases h;exact⟨rfl,.inr rfl,fun e=>⟨e,rfl⟩⟩
theorem Ps(h:lP A hd now s k b=.shut l):l=[]:=by
 unfold lP at h;split at h
 ·cases h
 ·split at h
  ·split at h<;>cases h
  ·split at h
   ·cases h
   ·split at h<;>cases h;rfl
theorem Pt(h:lP A hd now s k b=.bad t l):l=[]:=by
 unfold lP at h;split at h
 ·cases h;rfl
 ·split at h
  ·split at h<;>cases h;rfl
  ·split at h
   ·cases h
   ·split at h<;>cases h
theorem wR:oo []:=⟨Bytes.nil,fun h=>by simp at h⟩
section
variable {w:World} {base tb sb:Nat} {now:Int} {sv:Value} {sent:List Int} {au id:Int} {p:Pz} {s:SV} {pv:Value}
def Ek (q:Option Nat) (w:World) (base tb sb:Nat) (now:Int) (sent:List Int) (au id:Int) (p:Pz) (n0:Nat) (s0:SV) (d0:List Int) (v:Value) (wr:World):Prop :=
  ∃ d,v=.string (strOfNums d)∧Bytes d∧d.length≤1152921504606846976∧kh q base tb sb w wr ∧
    ((∃ n s acc sv pv,d.length≤n∧lQ q wr base tb sb now sv (sent++acc) false false au id p s pv∧oo s.part∧acc.length≤19∧(s.st=1→acc=[])∧lD p.au p.hold now n0 s0 [] d0=lD p.au p.hold now n s acc d) ∨
     (∃ acc sv,TS wr base tb sb now sv (sent++acc) true true (j5 au id p 0 0 0 0 (.slice none 0 0))∧lD p.au p.hold now n0 s0 [] d0=.shut acc))
theorem Pu(h:lQ q w base tb sb now sv sent false false au id p s pv)(ah:s.st≠0)(J:oo s.part)(hl:sent.length≤40000){d:List Int}(hd:Bytes d)(ai:d.length≤1152921504606846976):Calls Tryz.prog 148 #[.pointer (some ⟨tb,0,none⟩),.string (strOfNums d)] w fun e w'=>FQ q w base tb sb now sent au id p (lD p.au p.hold now d.length s [] d) e w':=by
 have Z:Hid (Ek q w base tb sb now sent au id p d.length s d (.string (strOfNums d)) w):=⟨d,rfl,hd,ai,kh.refl q _ _ _ _,.inl ⟨d.length,s,[],sv,pv,dx _,by rw[gZ];exact h,J,by simp,fun _=>rfl,rfl⟩⟩;have Hl:Hid (_):=hl;have hT:=h.ts;obtain⟨⟨c0,c1,c2,c3,c4⟩,z2,z3,z4⟩:=hT.facts;have b9:=jV hT.s 9;simp[j5]at b9;have aj:(s.st == 0)=false:=by simpa using ah
 clear h hT J hl hd ai ah;go_enter Tryz.func148,Tryz.ntmps148
 go_wp2_with fail
 clear c0 c1 c2 c3 c4 z2 z3 z4 b9 aj
 go_loopw [1] (fun v wr=>Ek q w base tb sb now sent au id p d.length s d v wr) (fun v _=>match v with | .string x=>x.size|_=>0)
 case atStart=>exact Z.out
 case round =>
  obtain⟨d1,rfl,ak,al,am,aa⟩:=hrel;have C:Hid (_):=am;have K:Hid (_):=ak;have N:Hid (_):=al;clear am ak al;rcases aa with⟨n,s1,acc,y,L,hn,hS,J,ha,W,heq⟩|⟨acc,y,hT,heq⟩
  ·have HS:Hid (_):=hS;have R:Hid (_):=J;have ab:Hid (_):=W;have Hn:Hid (d1.length≤n∧acc.length≤19):=⟨hn,ha⟩;clear hS J W hn ha;obtain⟨⟨c0,c1,c2,c3,c4⟩,z2,z3,z4⟩:=HS.out.ts.facts
   by_cases g:d1=[]
   ·subst g;have m0:=Ei;rw[wL]at heq;have HF:Hid (_):=heq;clear heq
    go_wp2_with fail
    refine iY (v:=.tuple #[]) (by simp[results,Tryz.results148,go_sem]) rfl ?_;rw[HF.out];exact⟨C.out,⟨_,rfl⟩,y,L,HS.out⟩
   ·have f:0<d1.length:=(by cases d1 with|nil=>exact absurd rfl g|cons x xs=>simp);have m0:=Eh (xs:=d1) f;obtain⟨n,rfl⟩:∃n',n=n'+1:=⟨n-1,by have:=Hn.out.1;omega⟩;have E:=Ej R.out f;have z:=Pa HS.out rfl R.out K.out f N.out;rcases a:nP s1.part d1 with⟨t,ys⟩|⟨ys⟩|⟨k,b⟩
    ·rw[a]at z;rw[wM g a]at heq;have HF:Hid (_):=heq;have U:Hid (Calls Tryz.prog 156 #[.pointer (some ⟨sb,13,none⟩),.string (strOfNums d1)] wr fun e w'=>e=.panicked [{ v:=t.val,recovered:=false }]∧kh q base tb sb wr w'∧∃c,ko q w' base tb sb now y (sent++acc) false false ((j5 au id p s1.st s1.hold s1.heard s1.spoke L).setIfInBounds 13 c) c ys):=z.mono fun e w' h=>⟨h.2.1,h.1,h.2.2⟩
     clear heq z a E g f
     go_wp2_with (go_at_call 156;go_loud (refine U.out.mono ?_);go_loud (rintro e w1 ⟨rfl,m,c,i⟩))
     refine⟨rfl,?_⟩;rw[HF.out];exact⟨C.out.trans m,rfl,y,{ s1 with part:=ys },c,i⟩
    ·rw[a]at z;rw[wN g a]at heq;have X:=AD R.out K.out f a;have U:Hid (Calls Tryz.prog 156 #[.pointer (some ⟨sb,13,none⟩),.string (strOfNums d1)] wr fun e w'=>e=.returned (.tuple #[.string (strOfNums (d1.drop (lN s1.part d1))),.agg #[.int .i64 0,.string (strOfNums [])],.bool false])∧kh q base tb sb wr w'∧∃c,ko q w' base tb sb now y (sent++acc) false false ((j5 au id p s1.st s1.hold s1.heard s1.spoke L).setIfInBounds 13 c) c ys):=z.mono fun e w' h=>⟨h.2.1,h.1,h.2.2⟩
     have Y:Hid (_):=heq;have an:Hid (_):=X;have ao:Hid (0<lN s1.part d1∧lN s1.part d1≤d1.length):=⟨E.1,E.2.1⟩;obtain⟨d2,j⟩:∃x,x=d1.drop (lN s1.part d1):=⟨_,rfl⟩;have o:Hid (d2.length<d1.length∧Bytes d2∧d2=d1.drop (lN s1.part d1)):=⟨by rw[j,iU];omega,fun x hx=>K.out x (iW (by rw[←j];exact hx)),j⟩;rw[←j]at U Y;clear heq z a E g f X j
     go_wp2_with (go_at_call 156;go_loud (refine U.out.mono ?_);go_loud (rintro e w1 ⟨rfl,m,c,i⟩))
     have ad:Below w1.heap.size w1 (w1.alloc (.cells #[.int .i64 0,.string (strOfNums [])] 247)):=(iD _ _).alloc (dx _) _;have B:Hid (ko q _ base tb sb now y (sent++acc) false false ((j5 au id p s1.st s1.hold s1.heard s1.spoke L).setIfInBounds 13 c) c ys):=i.below ad;have F:Hid (kh q base tb sb w _):=C.out.trans (m.trans (kh.below ad i.ts.lt.2.2));clear i m ad;refine⟨⟨d2,rfl,o.out.2.1,by have:=o.out.1;have:=N.out;omega,F.out,.inl ⟨n,{ s1 with part:=ys },acc,y,c,by have:=o.out.1;have:=Hn.out.1;omega,B.out,an.out,Hn.out.2,ab.out,Y.out⟩⟩,?_⟩;simp only[iE];exact o.out.1
    ·rw[a]at z;obtain⟨hk,hb,V⟩:=AE R.out K.out f a;have U:Hid (Calls Tryz.prog 156 #[.pointer (some ⟨sb,13,none⟩),.string (strOfNums d1)] wr fun e w'=>e=.returned (.tuple #[.string (strOfNums (d1.drop (lN s1.part d1))),.agg #[.int .i64 k,.string (strOfNums b)],.bool true])∧kh q base tb sb wr w'∧∃c,ko q w' base tb sb now y (sent++acc) false false ((j5 au id p s1.st s1.hold s1.heard s1.spoke L).setIfInBounds 13 c) c []):=z.mono fun e w' h=>⟨h.2.1,h.1,h.2.2⟩
     obtain⟨d2,j⟩:∃x,x=d1.drop (lN s1.part d1):=⟨_,rfl⟩;have o:Hid (d2.length<d1.length∧Bytes d2∧d2=d1.drop (lN s1.part d1)):=⟨by rw[j,iU];omega,fun x hx=>K.out x (iW (by rw[←j];exact hx)),j⟩;have I:Hid (∀v wx,lQ q wx base tb sb now y (sent++acc) false false au id p { s1 with part:=[] } v→Calls Tryz.prog 157 #[.pointer (some ⟨tb,0,none⟩),.agg #[.int .i64 k,.string (strOfNums b)]] wx fun e w'=>FQ q wx base tb sb now (sent++acc) au id p (lP p.au p.hold now { s1 with part:=[] } k b) e w'):=fun v wx hx=>Pn hx (by have:=Hl.out;have:=Hn.out.2;rw[iF];omega) hk hb V
     rw[←j]at U;rcases u:lP p.au p.hold now { s1 with part:=[] } k b with⟨s2,add⟩|⟨add⟩|⟨t,add⟩
     ·rw[wQ g a u,←j]at heq;obtain⟨q1,q2,q3⟩:=AF u;have Y:Hid (_):=heq;have HQ:Hid (oo s2.part∧(acc++add).length≤19∧(s2.st=1→acc++add=[])):=by
       refine⟨by rw[q1];exact wR,?_,fun e=>?_⟩
       ·rcases q2 with⟨r1,_,r2⟩|r
        ·rw[ab.out r1,ig];omega
        ·rw[r,gZ];exact Hn.out.2
       ·obtain⟨r1,r2⟩:=q3 e;rw[ab.out r1,r2];rfl
      rw[u]at I;clear heq z a E g f j hk hb V u q1 q2 q3
      go_wp2_with (first
       |(go_at_call 156;go_loud (refine U.out.mono ?_);go_loud (rintro e w1 ⟨rfl,m,c,i⟩);go_loud (have B:Hid (_):=i);go_loud (have F:Hid (_):=m);clear i m)
       |(go_at_call 157;go_loud (refine js (I.out c _ (B.out.below (by(repeat(first|exact iD _ _|refine iG ?_|refine iH ?_ (by first|omega|(simp only[iI,iJ,iK];omega)|simp) _|refine iL ?_ (by first|omega|simp) _|assumption))))) ?_);go_loud (rintro e w3 ⟨G,⟨v3,rfl⟩,M,ae,H⟩)))
      have af:Hid (kh q base tb sb w w3):=C.out.trans (F.out.trans ((kh.below (by(repeat(first|exact iD _ _|refine iG ?_|refine iH ?_ (by first|omega|(simp only[iI,iJ,iK];omega)|simp) _|refine iL ?_ (by first|omega|simp) _|assumption))) B.out.ts.lt.2.2).trans G));have ag:Hid (_):=H;clear H G
      go_wp2_with fail
      refine⟨⟨d2,rfl,o.out.2.1,by have:=o.out.1;have:=N.out;omega,af.out,.inl ⟨n,s2,acc++add,M,ae,by have:=o.out.1;have:=Hn.out.1;omega,by rw[←iz];exact ag.out,HQ.out.1,HQ.out.2.1,HQ.out.2.2,Y.out⟩⟩,?_⟩;simp only[iE];exact o.out.1
     ·rw[wP g a u]at heq;obtain rfl:=Ps u;have Y:Hid (_):=heq;rw[u]at I;clear heq z a E g f j hk hb V u
      go_wp2_with (first
       |(go_at_call 156;go_loud (refine U.out.mono ?_);go_loud (rintro e w1 ⟨rfl,m,c,i⟩);go_loud (have B:Hid (_):=i);go_loud (have F:Hid (_):=m);clear i m)
       |(go_at_call 157;go_loud (refine js (I.out c _ (B.out.below (by(repeat(first|exact iD _ _|refine iG ?_|refine iH ?_ (by first|omega|(simp only[iI,iJ,iK];omega)|simp) _|refine iL ?_ (by first|omega|simp) _|assumption))))) ?_);go_loud (rintro e w3 ⟨G,⟨v3,rfl⟩,M,H⟩)))
      have af:Hid (kh q base tb sb w w3):=C.out.trans (F.out.trans ((kh.below (by(repeat(first|exact iD _ _|refine iG ?_|refine iH ?_ (by first|omega|(simp only[iI,iJ,iK];omega)|simp) _|refine iL ?_ (by first|omega|simp) _|assumption))) B.out.ts.lt.2.2).trans G));have ag:Hid (_):=H;clear H G
      go_wp2_with fail
      refine⟨⟨d2,rfl,o.out.2.1,by have:=o.out.1;have:=N.out;omega,af.out,.inr ⟨acc,M,by have:=ag.out;rw[gZ]at this;exact this,Y.out⟩⟩,?_⟩;simp only[iE];exact o.out.1
     ·rw[wO g a u]at heq;obtain rfl:=Pt u;have Y:Hid (_):=heq;rw[u]at I;clear heq z a E g f j hk hb V u
      go_wp2_with (first
       |(go_at_call 156;go_loud (refine U.out.mono ?_);go_loud (rintro e w1 ⟨rfl,m,c,i⟩);go_loud (have B:Hid (_):=i);go_loud (have F:Hid (_):=m);clear i m)
       |(go_at_call 157;go_loud (refine js (I.out c _ (B.out.below (by(repeat(first|exact iD _ _|refine iG ?_|refine iH ?_ (by first|omega|(simp only[iI,iJ,iK];omega)|simp) _|refine iL ?_ (by first|omega|simp) _|assumption))))) ?_);go_loud (rintro e w3 ⟨G,rfl,M,s3,ae,H⟩)))
      refine⟨rfl,?_⟩;rw[Y.out];exact⟨C.out.trans (F.out.trans ((kh.below (by(repeat(first|exact iD _ _|refine iG ?_|refine iH ?_ (by first|omega|(simp only[iI,iJ,iK];omega)|simp) _|refine iL ?_ (by first|omega|simp) _|assumption))) B.out.ts.lt.2.2).trans G)),rfl,M,s3,ae,by have:=H;rw[gZ]at this;exact this⟩
  ·have HT:Hid (_):=hT;have HF:Hid (_):=heq;obtain⟨⟨c0,c1,c2,c3,c4⟩,z2,z3,z4⟩:=hT.facts;clear hT heq
   by_cases g:d1=[]
   ·subst g;have m0:=Ei
    go_wp2_with fail
    refine iY (v:=.tuple #[]) (by simp[results,Tryz.results148,go_sem]) rfl ?_;rw[HF.out];exact⟨C.out,⟨_,rfl⟩,y,HT.out⟩
   ·have m0:=Eh (xs:=d1) (by cases d1 with|nil=>exact absurd rfl g|cons x xs=>simp)
    go_wp2_with fail
    refine iY (v:=.tuple #[]) (by simp[results,Tryz.results148,go_sem]) rfl ?_;rw[HF.out];exact⟨C.out,⟨_,rfl⟩,y,HT.out⟩
end
end
section
open Go Go.RowKit
open Go.Proofs.YtjnkcibpkkjniaaGreat.kj (oC kH wu)
def nw (au hold id:Int) (bb:Nat):Nat→Value→World→Prop
 |0,v,w=>∃b c,v=.slice (some ⟨b,0,none⟩) 1 c∧b<w.heap.size∧w.cell? ⟨b,0,none⟩=some (.int .u8 4)
 |1,v,_=>v=.string (strOfNums [4])
 |2,v,_=>v=.pointer (some ⟨bb,0,none⟩)
 |3,v,_=>v=.int .i64 au
 |4,v,_=>v=.string (strOfNums (kB au))
 |5,v,_=>v=.string (strOfNums (4::kB au))
 |6,v,_=>v=.pointer (some ⟨bb,1,none⟩)
 |7,v,_=>v=.int .i64 hold
 |8,v,_=>v=.string (strOfNums (kB hold))
 |9,v,_=>v=.string (strOfNums (4::(kB au++kB hold)))
 |10,v,_=>v=.pointer (some ⟨bb,2,none⟩)
 |11,v,_=>v=.int .u32 id
 |12,v,_=>v=.string (strOfNums (nY id))
 |13,v,_=>v=.string (strOfNums (4::(kB au++(kB hold++nY id))))
 |14,v,_=>v=.string (strOfNums (4::(kB au++(kB hold++(nY id++[0])))))
 |_,v,_=>v=.string (strOfNums (j9 1 (4::(kB au++(kB hold++(nY id++[0]))))))
variable {au hold id:Int} {bb:Nat}
theorem Pv{w w':World}(hB:Below w.heap.size w w'):∀j u,nw au hold id bb j u w→nw au hold id bb j u w':=by
 intro j u h;unfold nw at h ⊢;split at h<;>first|exact h|skip
 obtain⟨b,c,e,a,f⟩:=h;exact⟨b,c,e,dA a hB.size,(hB.cell (p:=⟨b,0,none⟩) a).trans f⟩
noncomputable def sx:Array Oper:=match Tryz.f155.body with
 |some (.seq _ (.seq (.region _ ops _) _))=>ops
 |some (.seq _ (.region _ ops _))=>ops
 |_=>#[]
theorem Px:kH sx [1] 19=true:=by kernel_rfl
theorem Py{Q:Exit→Act→World→Prop}{w0:World}(x:bb<w0.heap.size)(c0:w0.cell? ⟨bb,0,none⟩=some (.int .i64 au))(c1:w0.cell? ⟨bb,1,none⟩=some (.int .i64 hold))(c2:w0.cell? ⟨bb,2,none⟩=some (.int .u32 id))(i:Nat)(o:Oper)(listed:Array Bool)(a:Act)(w:World)(y:sx[i]?=some o)(hr:i∈Region.ready .any sx listed)(B:oC sx (nw au hold id bb) [(1,.pointer (some ⟨bb,0,none⟩))] 19 listed a w)(C:Below w0.heap.size w0 w)(K:Act→World→Prop)(m:∀v w',nw au hold id bb i v w'→Below w.heap.size w w'→K (a.put o.dst v) w'):o.wp Tryz.prog a w K Q:=by
 have J:i<17:=by
  have:=(dp.1 y).1;have L:sx.size=17:=by kernel_rfl
  omega
 have f1:a.tmps[1]?=some (.pointer (some ⟨bb,0,none⟩)):=B.fix (1,.pointer (some ⟨bb,0,none⟩)) (by simp);have M:=(C.cell (p:=⟨bb,0,none⟩) x).trans c0;have N:=(C.cell (p:=⟨bb,1,none⟩) x).trans c1;have R:=(C.cell (p:=⟨bb,2,none⟩) x).trans c2;have f:∀(j:Nat)(o':Oper)(d:Nat),sx[j]?=some o'→o'.dst=some d→(∃e∈o.after,e.on=j∧Region.binds .any e=true)→∃v,a.tmps[d]?=some v∧nw au hold id bb j v w:=fun j o' d I hd he=>B.dep y hr I hd he
 clear hr B;obtain rfl|rfl|rfl|rfl|rfl|rfl|rfl|rfl|rfl|rfl|rfl|rfl|rfl|rfl|rfl|rfl|rfl:i=0∨i=1∨i=2∨i=3∨i=4∨i=5∨i=6∨i=7∨i=8∨i=9∨i=10∨i=11∨i=12∨i=13∨i=14∨i=15∨i=16:=by omega
 all_goals
  simp only[sx,Tryz.f155]at y;simp only[fR,gx,fS,dR]at y;subst y
 ·unfold Oper.wp execOp;go_simp;refine m _ _ ⟨w.heap.size,1,rfl,by simp,by simp⟩ (by(repeat(first|exact iD _ _|refine iG ?_|refine iH ?_ (by first|omega|(simp only[iI,iJ,iK];omega)|simp) _|refine iL ?_ (by first|omega|simp) _|assumption)))
 ·obtain⟨r,h,b,c,rfl,u,p2⟩:=f 0 _ _ rfl rfl ⟨⟨0,.data⟩,by simp,rfl,rfl⟩;have kc:=Ab w b c 4 p2;unfold Oper.wp execOp;simp only[Act.eval,du,h,ez];go_simp;exact m _ _ rfl (iD _ _)
 ·unfold Oper.wp execOp;simp only[Act.eval,du,f1,ez];go_simp;exact m _ _ rfl (iD _ _)
 ·obtain⟨r,h,g⟩:=f 2 _ _ rfl rfl ⟨⟨2,.data⟩,by simp,rfl,rfl⟩;simp only[nw]at g;subst g;unfold Oper.wp execOp;simp only[Act.eval,du,h,ez];go_simp;exact m _ _ rfl (iD _ _)
 ·obtain⟨r,h,g⟩:=f 3 _ _ rfl rfl ⟨⟨3,.data⟩,by simp,rfl,rfl⟩;simp only[nw]at g;subst g;unfold Oper.wp execOp;simp only[];go_simp;refine(Ac au w).mono ?_;rintro e w1 ⟨rfl,hB⟩;exact m _ _ rfl hB
 ·obtain⟨r,h,g⟩:=f 1 _ _ rfl rfl ⟨⟨1,.data⟩,by simp,rfl,rfl⟩;simp only[nw]at g;subst g;obtain⟨H,z,u⟩:=f 4 _ _ rfl rfl ⟨⟨4,.data⟩,by simp,rfl,rfl⟩;simp only[nw]at u;subst u;have E:=qW;have F:=iE;have k2:=p7;have G:=tq;have ka:=vj;unfold Oper.wp execOp;simp only[Act.eval,du,h,z,ez];go_simp;exact m _ _ rfl (iD _ _)
 ·unfold Oper.wp execOp;simp only[Act.eval,du,f1,ez];go_simp;exact m _ _ rfl (iD _ _)
 ·obtain⟨r,h,g⟩:=f 6 _ _ rfl rfl ⟨⟨6,.data⟩,by simp,rfl,rfl⟩;simp only[nw]at g;subst g;unfold Oper.wp execOp;simp only[Act.eval,du,h,ez];go_simp;exact m _ _ rfl (iD _ _)
 ·obtain⟨r,h,g⟩:=f 7 _ _ rfl rfl ⟨⟨7,.data⟩,by simp,rfl,rfl⟩;simp only[nw]at g;subst g;unfold Oper.wp execOp;simp only[];go_simp;refine(Ac hold w).mono ?_;rintro e w1 ⟨rfl,hB⟩;exact m _ _ rfl hB
 ·obtain⟨r,h,g⟩:=f 5 _ _ rfl rfl ⟨⟨5,.data⟩,by simp,rfl,rfl⟩;simp only[nw]at g;subst g;obtain⟨H,z,u⟩:=f 8 _ _ rfl rfl ⟨⟨8,.data⟩,by simp,rfl,rfl⟩;simp only[nw]at u;subst u;have E:=qW;have F:=iE;have k2:=p7;have G:=tq;have ka:=vj;unfold Oper.wp execOp;simp only[Act.eval,du,h,z,ez];go_simp;exact m _ _ rfl (iD _ _)
 ·unfold Oper.wp execOp;simp only[Act.eval,du,f1,ez];go_simp;exact m _ _ rfl (iD _ _)
 ·obtain⟨r,h,g⟩:=f 10 _ _ rfl rfl ⟨⟨10,.data⟩,by simp,rfl,rfl⟩;simp only[nw]at g;subst g;unfold Oper.wp execOp;simp only[Act.eval,du,h,ez];go_simp;exact m _ _ rfl (iD _ _)
 ·obtain⟨r,h,g⟩:=f 11 _ _ rfl rfl ⟨⟨11,.data⟩,by simp,rfl,rfl⟩;simp only[nw]at g;subst g;unfold Oper.wp execOp;simp only[];go_simp;refine(Og id w).mono ?_;rintro e w1 ⟨rfl,hB⟩;exact m _ _ rfl hB
 ·obtain⟨r,h,g⟩:=f 9 _ _ rfl rfl ⟨⟨9,.data⟩,by simp,rfl,rfl⟩;simp only[nw]at g;subst g;obtain⟨H,z,u⟩:=f 12 _ _ rfl rfl ⟨⟨12,.data⟩,by simp,rfl,rfl⟩;simp only[nw]at u;subst u;have E:=qW;have F:=iE;have k2:=p7;have G:=tq;have ka:=vj;unfold Oper.wp execOp;simp only[Act.eval,du,h,z,ez];go_simp;exact m _ _ rfl (iD _ _)
 ·obtain⟨r,h,g⟩:=f 13 _ _ rfl rfl ⟨⟨13,.data⟩,by simp,rfl,rfl⟩;simp only[nw]at g;subst g;have E:=qW;have F:=iE;have k2:=p7;have G:=tq;have ka:=vj;have U:(⟨#[0]⟩:ByteArray)=strOfNums [0]:=rfl;unfold Oper.wp execOp;simp only[Act.eval,du,h,ez];go_simp;exact m _ _ rfl (iD _ _)
 ·obtain⟨r,h,g⟩:=f 14 _ _ rfl rfl ⟨⟨14,.data⟩,by simp,rfl,rfl⟩;simp only[nw]at g;subst g;unfold Oper.wp execOp;simp only[];go_simp;refine(Ae 1 _ (by simp[p7,tq]) w).mono ?_;rintro e w1 ⟨rfl,hB⟩;exact m _ _ rfl hB
 ·obtain⟨r,h,g⟩:=f 15 _ _ rfl rfl ⟨⟨15,.data⟩,by simp,rfl,rfl⟩;simp only[nw]at g;subst g;unfold Oper.wp execOp;simp only[Act.eval,du,h,ez];go_simp;exact m _ _ rfl (iD _ _)
theorem PD(au hold id:Int)(w:World):Calls Tryz.prog 155 #[.agg #[.int .i64 au,.int .i64 hold,.int .u32 id]] w fun e w'=>e=.returned (.string (strOfNums (j9 1 (4::(kB au++(kB hold++(nY id++[0])))))))∧Below w.heap.size w w':=by
 have c:=fun(Q:Exit→Act→World→Prop)=>Py (Q:=Q) (au:=au) (hold:=hold) (id:=id) (bb:=w.heap.size) (w0:=w.alloc (.cells #[.int .i64 au,.int .i64 hold,.int .u32 id] 245)) (by simp) (by simp) (by simp) (by simp)
 have r:Hid (∀Q,_):=c;clear c;go_enter Tryz.func155,Tryz.ntmps155
 go_wp2_with fail
 refine wu (ops:=sx) (val:=nw au hold id w.heap.size) (fix:=[(1,.pointer (some ⟨w.heap.size,0,none⟩))]) (T:=19) (Sok:=fun _ w'=>Below (w.alloc (.cells #[.int .i64 au,.int .i64 hold,.int .u32 id] 245)).heap.size (w.alloc (.cells #[.int .i64 au,.int .i64 hold,.int .u32 id] 245)) w') (by kernel_rfl) Px (fun i o listed a w1 y hr h f K z=>r.out _ i o listed a w1 y hr h f K fun v w' m hB=>z v w' m (fun j u _=>Pv hB j u) (f.trans (hB.mono f.size))) (fun listed a w1 h g f=>?_) rfl rfl ?_ ?_
 ·obtain⟨v,m,rfl⟩:=h.val 16 _ 2 rfl (g 16 (by rw[show sx.size=17 by kernel_rfl];decide)) rfl;have hB:Below w.heap.size w w1:=jd ((iD _ _).alloc (dx _) _) (f.mono (by simp));obtain⟨B,C⟩:=a;have kG:=h.defers;simp only at m kG;subst kG
  go_wp2_with fail
  exact iZ (fw (t:=2) (by rfl) _ _ _) rfl ⟨by rw[du,m];rfl,hB⟩
 ·intro x hx;simp at hx;subst hx;rfl
 ·exact⟨rfl,rfl,rfl,dx _,fun _ _=>rfl⟩
end
section
open Go Go.RowKit
open Go.Proofs.YtjnkcibpkkjniaaGreat.kj (oC kH wu mg)
def lZ (tb sb:Nat) (au ph id:Int):Nat→Value→Prop
 |0,v=>v=.pointer (some ⟨tb,0,none⟩)
 |1,v=>v=.pointer (some ⟨tb,0,none⟩)
 |2,v=>v=.pointer (some ⟨tb,0,none⟩)
 |3,v=>v=.pointer (some ⟨tb,0,none⟩)
 |4,v=>v=.pointer (some ⟨sb,0,none⟩)
 |5,v=>v=.pointer (some ⟨sb,0,none⟩)
 |6,v=>v=.pointer (some ⟨sb,0,none⟩)
 |7,v=>v=.int .i64 au
 |8,v=>v=.pointer (some ⟨tb,0,none⟩)
 |9,v=>v=.pointer (some ⟨tb,0,none⟩)
 |10,v=>v=.pointer (some ⟨tb,0,none⟩)
 |11,v=>v=.pointer (some ⟨sb,0,none⟩)
 |12,v=>v=.pointer (some ⟨sb,0,none⟩)
 |13,v=>v=.pointer (some ⟨sb,2,none⟩)
 |14,v=>v=.pointer (some ⟨sb,3,none⟩)
 |15,v=>v=.int .i64 ph
 |16,v=>v=.pointer (some ⟨tb,0,none⟩)
 |17,v=>v=.pointer (some ⟨tb,0,none⟩)
 |18,v=>v=.pointer (some ⟨tb,0,none⟩)
 |19,v=>v=.pointer (some ⟨sb,0,none⟩)
 |20,v=>v=.pointer (some ⟨sb,0,none⟩)
 |21,v=>v=.pointer (some ⟨sb,1,none⟩)
 |22,v=>v=.int .u32 id
 |23,v=>v=.agg #[.int .i64 au,.int .i64 ph,.int .u32 id]
 |24,v=>v=.string (strOfNums (j9 1 (4::(kB au++(kB ph++(nY id++[0]))))))
 |_,_=>True
noncomputable def tz:Array Oper:=match Tryz.f147.body with
 |some (.seq _ (.seq _ (.region _ ops _)))=>ops
 |_=>#[]
theorem PE:kH tz [0] 66=true:=by kernel_rfl
theorem wT:tz.size=26:=by kernel_rfl
def mX (w0:World) (base tb sb:Nat) (now:Int) (sv:Value) (sent:List Int) (cl ov:Bool) (S:Array Value) (O:List Int) (listed:Array Bool) (w:World):Prop :=
 if listed.getD 25 false=true then ∃sv',TS w base tb sb now sv' (sent++O) cl ov (S.setIfInBounds 12 (.int .i64 now))∧Rest base tb sb w0 w else TS w base tb sb now sv sent cl ov S∧Rest base tb sb w0 w
section
variable {w0 w:World} {base tb sb:Nat} {now:Int} {sv:Value} {sent:List Int} {cl ov:Bool} {S:Array Value} {O:List Int} {listed:Array Bool}
theorem mX.pre(h:mX w0 base tb sb now sv sent cl ov S O listed w)(a:listed.getD 25 false=false):TS w base tb sb now sv sent cl ov S∧Rest base tb sb w0 w:=by
 unfold mX at h;rw[dk (by rw[a];decide)]at h;exact h
theorem mX.post(h:mX w0 base tb sb now sv sent cl ov S O listed w)(a:25<listed.size){w':World}(k:∃sv',TS w' base tb sb now sv' (sent++O) cl ov (S.setIfInBounds 12 (.int .i64 now))∧Rest base tb sb w0 w'):mX w0 base tb sb now sv sent cl ov S O (listed.setIfInBounds 25 true) w':=by
 unfold mX;rw[dj (by rw[mg _ _ _ a];rfl)];exact k
theorem mX.keep(h:mX w0 base tb sb now sv sent cl ov S O listed w){i:Nat}(a:i≠25):mX w0 base tb sb now sv sent cl ov S O (listed.setIfInBounds i true) w:=by
 unfold mX at h ⊢;have e:(listed.setIfInBounds i true).getD 25 false=listed.getD 25 false:=by
  rw[du,du,dI a]
 rw[e];exact h
theorem mX.below(h:mX w0 base tb sb now sv sent cl ov S O listed w){i:Nat}(a:i≠25){w':World}(hB:Below w.heap.size w w'):mX w0 base tb sb now sv sent cl ov S O (listed.setIfInBounds i true) w':=by
 have k:=h.keep a;unfold mX at k ⊢;split at k
 ·rename_i e;rw[dj e];obtain⟨sv',k1,k2⟩:=k;exact⟨sv',k1.below hB,k2.trans (Rest.below hB k1.lt.2.2)⟩
 ·rename_i e;rw[dk e];exact⟨k.1.below hB,k.2.trans (Rest.below hB k.1.lt.2.2)⟩
theorem mX.cells(h:mX w0 base tb sb now sv sent cl ov S O listed w):w.cell? ⟨tb,0,none⟩=some (.pointer (some ⟨sb,0,none⟩))∧∀i,i≠12→w.cell? ⟨sb,i,none⟩=S[i]?:=by
 unfold mX at h;split at h
 ·obtain⟨sv',k1,k2⟩:=h;exact⟨jV k1.t 0,fun i a=>by rw[jV k1.s i,dI (dE a)]⟩
 ·exact⟨jV h.1.t 0,fun i a=>jV h.1.s i⟩
end
theorem PF{Q:Exit→Act→World→Prop}{w0:World}{base tb sb:Nat}{now:Int}{sv:Value}{sent:List Int}{cl ov:Bool}{S:Array Value}{au ph id:Int}(N:S[0]?=some (.int .i64 au))(s1:S[1]?=some (.int .u32 id))(R:S[3]?=some (.int .i64 ph))(hsz:S.size=14)(G:(S[12]'(by omega)).oneCell'=true)(Z:sent.length≤60000)(i:Nat)(o:Oper)(listed:Array Bool)(a:Act)(w:World)(y:tz[i]?=some o)(hr:i∈Region.ready .any tz listed)(z:oC tz (fun i v _=>lZ tb sb au ph id i v) [(0,.pointer (some ⟨tb,0,none⟩))] 66 listed a w)(c:mX w0 base tb sb now sv sent cl ov S (j9 1 (4::(kB au++(kB ph++(nY id++[0]))))) listed w)(K:Act→World→Prop)(m:∀v w',lZ tb sb au ph id i v→mX w0 base tb sb now sv sent cl ov S (j9 1 (4::(kB au++(kB ph++(nY id++[0]))))) (listed.setIfInBounds i true) w'→K (a.put o.dst v) w'):o.wp Tryz.prog a w K Q:=by
 have U:i<26:=by
  have:=(dp.1 y).1;rw[wT]at this;exact this
 have H:Bytes (j9 1 (4::(kB au++(kB ph++(nY id++[0]))))):=yc (by omega) (Bytes.cons (by omega) ((yb _).app ((yb _).app (Bytes.app (by unfold nY;exact Bytes.cons (by omega) (Bytes.cons (by omega) (Bytes.cons (by omega) (Bytes.cons (by omega) Bytes.nil)))) (Bytes.cons (by omega) Bytes.nil)))));have V:(j9 1 (4::(kB au++(kB ph++(nY id++[0]))))).length=29:=by rw[rM];simp[p7,tq]
 have f0:a.tmps[0]?=some (.pointer (some ⟨tb,0,none⟩)):=z.fix (0,.pointer (some ⟨tb,0,none⟩)) (by simp);obtain⟨c0,cs⟩:=c.cells;have e0:=(cs 0 (by decide)).trans N;have e1:=(cs 1 (by decide)).trans s1;have e3:=(cs 3 (by decide)).trans R;have x:25<listed.size:=by rw[z.ky,wT];decide
 have B:listed.getD i false=false:=by
  obtain⟨C,_⟩:=ga.1 hr;have hsz:i<listed.size:=by rw[z.ky,wT];exact U
  rw[du,dq hsz]at C ⊢;simpa using C
 have E:i=25→listed.getD 25 false=false:=fun e=>e▸B
 have f:∀(j:Nat)(o':Oper)(d:Nat),tz[j]?=some o'→o'.dst=some d→(∃e∈o.after,e.on=j∧Region.binds .any e=true)→∃v,a.tmps[d]?=some v∧lZ tb sb au ph id j v:=fun j o' d W hd he=>z.dep y hr W hd he
 clear hr z B cs;obtain rfl|rfl|rfl|rfl|rfl|rfl|rfl|rfl|rfl|rfl|rfl|rfl|rfl|rfl|rfl|rfl|rfl|rfl|rfl|rfl|rfl|rfl|rfl|rfl|rfl|rfl:i=0∨i=1∨i=2∨i=3∨i=4∨i=5∨i=6∨i=7∨i=8∨i=9∨i=10∨i=11∨i=12∨i=13∨i=14∨i=15∨i=16∨i=17∨i=18∨i=19∨i=20∨i=21∨i=22∨i=23∨i=24∨i=25:=by omega
 all_goals
  simp only[tz,Tryz.f147]at y;simp only[fR,gx,fS,dR]at y;subst y
 ·unfold Oper.wp execOp;simp only[Act.eval,du,f0,ez];go_simp;exact m _ _ rfl (c.keep (by decide))
 ·unfold Oper.wp execOp;simp only[Act.eval,du,f0,ez];go_simp;exact m _ _ rfl (c.keep (by decide))
 ·obtain⟨r,h,g⟩:=f 1 _ _ rfl rfl ⟨⟨1,.data⟩,by simp,rfl,rfl⟩;simp only[lZ]at g;subst g;unfold Oper.wp execOp;simp only[Act.eval,du,h,ez];go_simp;exact m _ _ rfl (c.keep (by decide))
 ·obtain⟨r,h,g⟩:=f 2 _ _ rfl rfl ⟨⟨2,.data⟩,by simp,rfl,rfl⟩;simp only[lZ]at g;subst g;unfold Oper.wp execOp;simp only[Act.eval,du,h,ez];go_simp;exact m _ _ rfl (c.keep (by decide))
 ·obtain⟨r,h,g⟩:=f 3 _ _ rfl rfl ⟨⟨3,.data⟩,by simp,rfl,rfl⟩;simp only[lZ]at g;subst g;unfold Oper.wp execOp;simp only[Act.eval,du,h,ez];go_simp;exact m _ _ rfl (c.keep (by decide))
 ·obtain⟨r,h,g⟩:=f 4 _ _ rfl rfl ⟨⟨4,.data⟩,by simp,rfl,rfl⟩;simp only[lZ]at g;subst g;unfold Oper.wp execOp;simp only[Act.eval,du,h,ez];go_simp;exact m _ _ rfl (c.keep (by decide))
 ·obtain⟨r,h,g⟩:=f 5 _ _ rfl rfl ⟨⟨5,.data⟩,by simp,rfl,rfl⟩;simp only[lZ]at g;subst g;unfold Oper.wp execOp;simp only[Act.eval,du,h,ez];go_simp;exact m _ _ rfl (c.keep (by decide))
 ·obtain⟨r,h,g⟩:=f 6 _ _ rfl rfl ⟨⟨6,.data⟩,by simp,rfl,rfl⟩;simp only[lZ]at g;subst g;unfold Oper.wp execOp;simp only[Act.eval,du,h,ez];go_simp;exact m _ _ rfl (c.keep (by decide))
 ·unfold Oper.wp execOp;simp only[Act.eval,du,f0,ez];go_simp;exact m _ _ rfl (c.keep (by decide))
 ·obtain⟨r,h,g⟩:=f 8 _ _ rfl rfl ⟨⟨8,.data⟩,by simp,rfl,rfl⟩;simp only[lZ]at g;subst g;unfold Oper.wp execOp;simp only[Act.eval,du,h,ez];go_simp;exact m _ _ rfl (c.keep (by decide))
 ·obtain⟨r,h,g⟩:=f 9 _ _ rfl rfl ⟨⟨9,.data⟩,by simp,rfl,rfl⟩;simp only[lZ]at g;subst g;unfold Oper.wp execOp;simp only[Act.eval,du,h,ez];go_simp;exact m _ _ rfl (c.keep (by decide))
 ·obtain⟨r,h,g⟩:=f 10 _ _ rfl rfl ⟨⟨10,.data⟩,by simp,rfl,rfl⟩;simp only[lZ]at g;subst g;unfold Oper.wp execOp;simp only[Act.eval,du,h,ez];go_simp;exact m _ _ rfl (c.keep (by decide))
 ·obtain⟨r,h,g⟩:=f 11 _ _ rfl rfl ⟨⟨11,.data⟩,by simp,rfl,rfl⟩;simp only[lZ]at g;subst g;unfold Oper.wp execOp;simp only[Act.eval,du,h,ez];go_simp;exact m _ _ rfl (c.keep (by decide))
 ·obtain⟨r,h,g⟩:=f 12 _ _ rfl rfl ⟨⟨12,.data⟩,by simp,rfl,rfl⟩;simp only[lZ]at g;subst g;unfold Oper.wp execOp;simp only[Act.eval,du,h,ez];go_simp;exact m _ _ rfl (c.keep (by decide))
 ·obtain⟨r,h,g⟩:=f 13 _ _ rfl rfl ⟨⟨13,.data⟩,by simp,rfl,rfl⟩;simp only[lZ]at g;subst g;unfold Oper.wp execOp;simp only[Act.eval,du,h,ez];go_simp;exact m _ _ rfl (c.keep (by decide))
 ·obtain⟨r,h,g⟩:=f 14 _ _ rfl rfl ⟨⟨14,.data⟩,by simp,rfl,rfl⟩;simp only[lZ]at g;subst g;unfold Oper.wp execOp;simp only[Act.eval,du,h,ez];go_simp;exact m _ _ rfl (c.keep (by decide))
 ·unfold Oper.wp execOp;simp only[Act.eval,du,f0,ez];go_simp;exact m _ _ rfl (c.keep (by decide))
 ·obtain⟨r,h,g⟩:=f 16 _ _ rfl rfl ⟨⟨16,.data⟩,by simp,rfl,rfl⟩;simp only[lZ]at g;subst g;unfold Oper.wp execOp;simp only[Act.eval,du,h,ez];go_simp;exact m _ _ rfl (c.keep (by decide))
 ·obtain⟨r,h,g⟩:=f 17 _ _ rfl rfl ⟨⟨17,.data⟩,by simp,rfl,rfl⟩;simp only[lZ]at g;subst g;unfold Oper.wp execOp;simp only[Act.eval,du,h,ez];go_simp;exact m _ _ rfl (c.keep (by decide))
 ·obtain⟨r,h,g⟩:=f 18 _ _ rfl rfl ⟨⟨18,.data⟩,by simp,rfl,rfl⟩;simp only[lZ]at g;subst g;unfold Oper.wp execOp;simp only[Act.eval,du,h,ez];go_simp;exact m _ _ rfl (c.keep (by decide))
 ·obtain⟨r,h,g⟩:=f 19 _ _ rfl rfl ⟨⟨19,.data⟩,by simp,rfl,rfl⟩;simp only[lZ]at g;subst g;unfold Oper.wp execOp;simp only[Act.eval,du,h,ez];go_simp;exact m _ _ rfl (c.keep (by decide))
 ·obtain⟨r,h,g⟩:=f 20 _ _ rfl rfl ⟨⟨20,.data⟩,by simp,rfl,rfl⟩;simp only[lZ]at g;subst g;unfold Oper.wp execOp;simp only[Act.eval,du,h,ez];go_simp;exact m _ _ rfl (c.keep (by decide))
 ·obtain⟨r,h,g⟩:=f 21 _ _ rfl rfl ⟨⟨21,.data⟩,by simp,rfl,rfl⟩;simp only[lZ]at g;subst g;unfold Oper.wp execOp;simp only[Act.eval,du,h,ez];go_simp;exact m _ _ rfl (c.keep (by decide))
 ·obtain⟨r,h,g⟩:=f 7 _ _ rfl rfl ⟨⟨7,.data⟩,by simp,rfl,rfl⟩;simp only[lZ]at g;subst g;obtain⟨X,Y,F⟩:=f 15 _ _ rfl rfl ⟨⟨15,.data⟩,by simp,rfl,rfl⟩;simp only[lZ]at F;subst F;obtain⟨u2,h2,p2⟩:=f 22 _ _ rfl rfl ⟨⟨22,.data⟩,by simp,rfl,rfl⟩;simp only[lZ]at p2;subst p2;unfold Oper.wp execOp;simp only[Act.eval,du];go_simp;exact m _ _ rfl (c.keep (by decide))
 ·obtain⟨r,h,g⟩:=f 23 _ _ rfl rfl ⟨⟨23,.data⟩,by simp,rfl,rfl⟩;simp only[lZ]at g;subst g;unfold Oper.wp execOp;simp only[];go_simp;refine(PD au ph id w).mono ?_;rintro e w1 ⟨rfl,hB⟩;exact m _ _ rfl (c.below (by decide) hB)
 ·obtain⟨r,h,g⟩:=f 0 _ _ rfl rfl ⟨⟨0,.data⟩,by simp,rfl,rfl⟩;simp only[lZ]at g;subst g;obtain⟨X,Y,F⟩:=f 24 _ _ rfl rfl ⟨⟨24,.data⟩,by simp,rfl,rfl⟩;simp only[lZ]at F;subst F;unfold Oper.wp execOp;simp only[];go_simp;have M:=c.pre (E rfl);refine(Af M.1 (u:=S[12]) (dq (by omega)) G H (by omega)).mono ?_;rintro e w1 ⟨⟨v,rfl⟩,I,J,L⟩;exact m _ _ trivial (c.post x ⟨I,J,M.2.trans L⟩)
end
end Go.Proofs.YtjnkcibpkkjniaaGreat
