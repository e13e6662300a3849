import Derived.Test.YtjnkcibpkkjniaaGreatA00
import Derived.Test.YtjnkcibpkkjniaaGreatA12
set_option linter.all false
set_option maxHeartbeats 2000000
set_option maxRecDepth 20000
namespace Go.Proofs.YtjnkcibpkkjniaaGreat
section
open Go.RowKit
def xT (au hold:Int) (id:List Int):List Int:=4::(ly au++(ly hold++id))
theorem T5(w:World)(C:Array Value)(t:TypeId)(o q:Obj)(i:Nat):(((w.alloc (.cells C t)).alloc o).alloc q).cell? ⟨w.heap.size,i,none⟩=C[i]?:=by
 rw[iP _ _ _ (by simp;omega),iP _ _ _ (by simp),iM]
theorem T6(w:World)(C:Array Value)(t:TypeId)(o q:Obj)(i:Nat):(((w.alloc o).alloc (.cells C t)).alloc q).cell? ⟨w.heap.size+1,i,none⟩=C[i]?:=by
 rw[iP _ _ _ (by simp),iN _ _ _ _ (by simp)]
theorem T7(w:World)(C:Array Value)(t:TypeId)(o q:Obj)(i:Nat):(((w.alloc o).alloc q).alloc (.cells C t)).cell? ⟨w.heap.size+2,i,none⟩=C[i]?:=by
 rw[iN _ _ _ _ (by simp)]
theorem Gh(au hold id:Int)(w:World):Calls Tryz.prog 30 #[.int .i64 au,.int .i64 hold,.int .i64 id] w fun e w'=>e=.returned (.string (strOfNums (ld 1 (xT au hold [0,0,0,IntKind.u8.wrap id,0]))))∧Below w.heap.size w w':=by
 have kc:=Qi;have a:=sK;have c:=jf;have d:(⟨#[4]⟩:ByteArray)=strOfNums [4]:=rfl;have k2:=rf;have ka:=xB;have f:=T5;have g:=T6;have h:=T7;go_enter Tryz.func30,Tryz.ntmps30
 go_wp2_with fail
 go_region_with (first
  |(go_at_call 32;go_loud (refine(Ej _ _).mono ?_);go_loud (rintro e w' ⟨rfl,rfl⟩))
  |(go_at_call 15;go_loud (refine(Ew _ _ (by simp[rf]) _).mono ?_);go_loud (rintro e w' ⟨rfl,hB⟩)))
 all_goals(go_wp2_with fail;go_ret;exact⟨rfl,jC ji (hB.mono (by simp only[iO,jl];omega))⟩)
end
end Go.Proofs.YtjnkcibpkkjniaaGreat
namespace Go.Proofs.YtjnkcibpkkjniaaGreat.kN
section
open Go Go.Conc Go.RowKit Go.Proofs.YtjnkcibpkkjniaaGreat.kx
def oZ (hd:Int) (i:Nat):List Int:=ld 1 (xT (100+(i:Int)) hd [0,0,0,IntKind.u8.wrap (1+(i:Int)),0])++ld 4 []
def sS (hd:Int):List Int:=ld 1 (xT 65000 hd [0,0,0,IntKind.u8.wrap 200,0])++ld 4 []
def nz (hd:Int):Nat→List ky
 |0=>[]
 |k+1=>nz hd k++[⟨k,1,[]⟩,⟨k,2,oZ hd k⟩]
theorem BQ(hd:Int):∀k,(nz hd k).length=2*k
 |0=>rfl
 |k+1=>by simp[nz,BQ hd k];omega
theorem Gi{hd:Int}{x:ky}:∀k,x∈nz hd k→∃i,i<k∧(x=⟨i,1,[]⟩∨x=⟨i,2,oZ hd i⟩)
 |0,h=>by simp[nz]at h
 |k+1,h=>by
  simp only[nz,gV,fN,fO,fP]at h;rcases h with h|h
  ·obtain⟨i,c,a⟩:=Gi k h;exact⟨i,by omega,a⟩
  ·exact⟨k,by omega,h⟩
theorem T8(hd:Int)(k:Nat):lU (nz hd (k+1))=lU (nz hd k)++[.int .i64 (k:Int),.int .i64 1,.string ⟨#[]⟩,.int .i64 (k:Int),.int .i64 2,.string (strOfNums (oZ hd k))]:=by
 simp[nz,lU,qP];rfl
theorem Gj{hd:Int}{i:Nat}:∀k,k≤i→kF i (nz hd k)=[]
 |0,_=>rfl
 |k+1,h=>by
  have e:=Gj (hd:=hd) k (by omega:k≤i);unfold kF at e ⊢;have a:¬((k:Int)=(i:Int)):=by omega
  simp[nz,j5,e,a]
theorem Gk{hd:Int}{i:Nat}:∀k,i<k→kF i (nz hd k)=[⟨i,1,[]⟩,⟨i,2,oZ hd i⟩]
 |0,h=>absurd h (ik _)
 |k+1,h=>by
  by_cases a:i=k
  ·subst a;have e:=Gj (hd:=hd) i (dD i);unfold kF at e ⊢;simp[nz,j5,e]
  ·have e:=Gk (hd:=hd) k (by omega:i<k);have c:¬((k:Int)=(i:Int)):=by omega
   unfold kF at e ⊢;simp[nz,j5,e,c]
structure tC (n:Nat) (hd:Int):Prop where
 n1:1≤n
 n8:n≤8
 h:hd=0∨3≤hd∧hd≤65535
 t:∀i,i<n→pS (100+(i:Int)) hd 65000 200 0 n6 [⟨i,1,[]⟩,⟨i,2,oZ hd i⟩]=(⟨3,hd,0,0,[]⟩,sS hd,false)
 b:∀i,i<n→Bytes (oZ hd i)∧(oZ hd i).length≤1152921504606846976
theorem tC.two:tC 2 9:=⟨by decide,by decide, .inr (by decide),fun i hi=>by
  obtain rfl | rfl:i=0∨i=1:=by omega
  ·rfl
  ·rfl,fun i hi=>by
  obtain rfl | rfl:i=0∨i=1:=by omega
  ·have h:(∀ y∈oZ 9 0,0≤y∧y < 256)∧(oZ 9 0).length≤1152921504606846976:=by decide
   exact h
  ·have h:(∀ y∈oZ 9 1,0≤y∧y < 256)∧(oZ 9 1).length≤1152921504606846976:=by decide
   exact h⟩
def oQ (w:World) (sp n:Nat) (hd:Int) (s:SV) (K:Nat→Prop):Prop:=∃d,om w sp n 0 65000 200 d K∧∀i,i<n→(d i).s=s∧(d i).p.au=100+(i:Int)∧(d i).p.hold=hd∧(s.st=0→(d i).v=.slice none 0 0)
theorem oQ.keep{w w':World}{sp n:Nat}{hd:Int}{s:SV}{K a:Nat→Prop}(h:oQ w sp n hd s K)(hB:∀b,b<w.heap.size→K b∨w'.heap[b]?=w.heap[b]?)(f:w.heap.size≤w'.heap.size)(g:∀b,a b→K b∨(w.heap.size≤b∧b<w'.heap.size)):oQ w' sp n hd s a:=by
 obtain⟨d,c,i⟩:=h;exact⟨d,c.keep (fun b hb=>⟨fun _=>hB b hb,fun e=>(hB b hb).resolve_left fun k=>(c.1 b k).2 e⟩) f g,i⟩
variable {w:World} {sp n:Nat} {hd:Int} {K:Nat→Prop}
theorem oQ.state{s:SV}(h:oQ w sp n hd s K)(i:Nat)(a:i<n)(T:Tape):Calls Tryz.prog 18 #[.pointer (some ⟨sp,0,none⟩),.int .i64 (i:Int)] (again w T) fun e w'=>e=.returned (.int .i64 s.st)∧w'=again w T:=by
 obtain⟨d,⟨_,h|⟨_,xb,xc,Z,c,_⟩⟩,f⟩:=h
 ·omega
 ·obtain⟨C,hC,hF⟩:=c.ss.blk;refine S7 (again w T) sp xb n xc i s.st ((m7 w T _).trans (kh c.kp 1)) a ((m7 w T _).trans ((kh hC _).trans ?_));rw[show i*14+9=14*i+9 by omega,hF.at_ i a 9 (by decide),←(f i a).1];rfl
variable {v:Value}
theorem T9(c:tC n hd){lm:Int}(o:0≤lm){gs:Nat→Nat×Nat}(j:nI w v n (tB hd lm 0 gs)):Calls Tryz.prog 20 #[.agg #[.int .i64 65000,.int .u32 200,.int .u32 168430090,v]] w fun e w'=>∃sp,e=.returned (.tuple #[.pointer (some ⟨sp,0,none⟩),.agg #[.int .i64 0,.int .i64 0]])∧Below w.heap.size w w'∧oQ w' sp n hd n6 (fun b=>b<w.heap.size):=by
 have q:=j;obtain⟨⟨ao,cap,rfl,_⟩,_⟩:=q;refine(BK 65000 200 168430090 ao n cap (tB hd lm 0 gs) w j).mono ?_;rintro e w' ⟨p,rfl,hB,h⟩;have l:=c.n8;have r:mE 65000 200 n (tB hd lm 0 gs)=(0,0):=TV l (by simp[qJ,nR,l]) fun i a=>TU hd c.h lm o gs i (by omega)
 rw[r]at h ⊢;have d:=c.n1;rcases h with⟨h,_⟩|⟨_,_,sp,sv,rfl,kp,hb,⟨h,_⟩|⟨xb,xc,Z,pz,_,rfl,hx,f,g,hp,m⟩⟩
 ·exact absurd rfl h
 ·omega
 have t:=hB.size;exact⟨sp,rfl,hB,fun i=>oo (pz i),⟨fun b s=>⟨by omega,by omega⟩,.inr ⟨d,xb,xc,Z,⟨hb,g,f,fun i a h=>(m i a sp (vm h)).2 rfl⟩,fun b s=>⟨by omega,fun i a h=>by have:=(m i a b (vm h)).1;omega⟩⟩⟩,fun i a=>⟨rfl,(hp i a).1,(hp i a).2,fun _=>rfl⟩⟩
theorem Gl{x:Nat→List Int×Bool}:∀n,(∀i,i<n→tz (x i)=true)→mB x n=List.range n
 |0,_=>rfl
 |n+1,h=>by
  unfold mB;rw[dr (h n (by omega)),Gl n fun i a=>h i (by omega),List.range_succ]
variable {cs:List Frame} {Q:Frame→List Frame→World→Prop}
theorem Ua(f:tC n hd){c:Frame}{D:List Frame}{G:Frame}{ac:Act}{ops:Array Oper}{i:Nat}{l:List Nat}{kk:List Item}(q:c=G.at ac (.inRegion ops (i::l)::kk))(hS:oQ w sp n hd n6 K){m:Value}(hI:pO w m (nz hd n) K)(k:∀w' nb nc,oQ w' sp n hd ⟨3,hd,0,0,[]⟩ K→(∀i,i<n→w'.cell? ⟨nb,3*i,none⟩=some (.int .i64 (i:Int))∧w'.cell? ⟨nb,3*i+1,none⟩=some (.string (strOfNums (sS hd)))∧w'.cell? ⟨nb,3*i+2,none⟩=some (.bool false))→(∀b,K b→w'.heap[b]?=w.heap[b]?)→GX cs Q (c.finish (.slice (some ⟨nb,0,none⟩) n nc)) D w'):GX cs Q ((base 17).at { tmps:=#[.pointer (some ⟨sp,0,none⟩),.int .i64 0,m]++Array.replicate 19 undef,defers:=[] } [.code (Tryz.f17.body.getD .skip)]) (c::D) w:=by
 obtain⟨d,H,e⟩:=hS;have I:=f.n1;have J:=f.n8;have r:∀i,i<n→lF 65000 200 (lC 0 0) d (fun i=>kF i (nz hd n)) i=(⟨3,hd,0,0,[]⟩,sS hd,false):=fun i a=>by
  unfold lF;rw[(e i a).1,(e i a).2.1,(e i a).2.2.1];show pS (100+(i:Int)) hd 65000 200 0 n6 (kF i (nz hd n))=_;rw[Gk n a];exact f.t i a
 refine BF q H (by omega) (by decide) (t:=0) (by decide) (fun i a=>?_) hI (by rw[BQ];omega) (fun x hx=>?_) (fun w' E d' L M N O=>?_)
 ·obtain⟨s,_,z,P⟩:=e i a;refine⟨s▸xM,fun _=>P rfl,?_⟩;rw[z];rcases f.h with h|h<;>omega
 ·obtain⟨i,a,rfl|rfl⟩:=Gi n hx
  ·exact⟨fun y R=>(by cases R),eP _⟩
  ·exact f.b i a
 obtain⟨g,cap,ao,A,F,hb,o⟩:=BP N.1;have hp:mB (fun i=>(lF 65000 200 (lC 0 0) d (fun i=>kF i (nz hd n)) i).2) n=List.range n:=Gl n fun i a=>by
  rw[r i a];simp[tz,sS,ld,mark]
 rw[hp]at A F o;have C:List.range n≠[]:=by simp;omega
 obtain rfl:=F C;rw[iX]at A;obtain rfl:=A;refine k w' g cap ⟨d',L,fun i a=>?_⟩ (fun i a=>?_) O
 ·obtain⟨s,S,z,_⟩:=M i a;exact⟨by rw[s,r i a],S.trans (e i a).2.1,z.trans (e i a).2.2.1,fun h=>absurd h (by decide:¬((3:Int)=0))⟩
 ·have p:∀j u,(rW (fun i=>(lF 65000 200 (lC 0 0) d (fun i=>kF i (nz hd n)) i).2) i)[j]?=some u→w'.cell? ⟨g,3*i+j,none⟩=some u:=fun j u h=>o i i (by simp[a]) j u h
  unfold rW at p;simp only[r i a]at p;exact⟨p 0 _ rfl,p 1 _ rfl,p 2 _ rfl⟩
noncomputable def wu:Code:=match Tryz.f14.body with|some (.seq _ (.seq _ (.seq _ (.seq _ (.seq (.seq _ (.block _ (.loop c))) _)))))=>c|_=>.skip
noncomputable def pF:Code:=match Tryz.f14.body with|some (.seq _ (.seq _ (.seq _ (.seq _ (.seq _ r)))))=>r|_=>.skip
variable {xs:List Frame} {w0:World} {B:Nat}
theorem Ub(hM:tC n hd){old:Nat}(bs:old≤B)(hk:∀(a:Act)(w:World)(v:Value),a.defers=[]→a.tmps.size=83→a.tmps[0]?=some (.int .i64 (n:Int))→a.tmps[1]?=some (.int .i64 hd)→a.tmps[9]?=some (.pointer (some ⟨sp,0,none⟩))→a.tmps[11]?=some v→oQ w sp n hd n6 (fun b=>b<old∨v.ownBlock=some b)→w.ownsRow B 43 3 v (2*n) (lU (nz hd n))→(∀b,b<old→w.heap[b]?=w0.heap[b]?) →
   GX cs Q ((base 14).at a [.code pF]) xs w):∀(m k:Nat),k+m=n→∀(a:Act)(w:World)(v:Value),a.defers=[]→a.tmps.size=83→a.tmps[0]?=some (.int .i64 (n:Int))→a.tmps[1]?=some (.int .i64 hd)→a.tmps[9]?=some (.pointer (some ⟨sp,0,none⟩))→a.tmps[11]?=some v→a.tmps[12]?=some (.int .i64 (k:Int))→B≤w.heap.size→oQ w sp n hd n6 (fun b=>b<old∨v.ownBlock=some b)→w.ownsRow B 43 3 v (2*k) (lU (nz hd k))→(∀b,b<old→w.heap[b]?=w0.heap[b]?) →
   GX cs Q ((base 14).at a [.code wu,.inLoop wu,.inBlock 0,.code pF]) xs w:=by
 have G:Hid (_):=hk;clear hk;intro m
 induction m with
 |zero =>
  intro k H a w v f hsz f0 f1 f9 f11 f12 r hS o A;obtain rfl:k=n:=by omega
  obtain⟨ao,C,rfl,_⟩:=mV o;have d:=fun a D I J L M N=>G.out a w (.slice ao (2*k) C) D I J L M N hS o A
  have HF:Hid (_):=d;clear d G hS o A;obtain⟨tm,df⟩:=a;simp only at f hsz f0 f1 f9 f11 f12;subst f;obtain⟨k0,k1,k2,k3,k4,k5,k6,k7,k8,k9,O,R,S,U,V,W,X,Y,Z,aa,ab,ad,ae,af,ag,ah,ai,aj,ak,al,am,an,ap,aq,ar,au,av,aw,ax,ay,az,aA,aB,aC,aD,aE,aF,aG,aH,aI,aJ,aK,aL,aM,aN,aO,aP,aQ,aR,aS,aT,aU,aV,aW,aX,aY,aZ,a0,a1,a2,a3,a4,a5,a6,a7,a8,a9,ba,bb,bc,bd,be,bf,rfl⟩:=vU hsz;simp only[fV,gB,fW,dW]at f0 f1 f9 f11 f12;subst f0 f1 f9 f11 f12;clear hsz
  (have bg:=nF;have bh:=ow;have bi:=nZ;have bj:=m7;have bk:=nG;have bl:=nH);unfold wu;simp only[Tryz.f14];refine GX.seq ?_;refine GX.seq ?_
  ((refine GX.region ?_);walk_nrm)
  iterate 3 ((refine GX.vz w ?_);walk_nrm)
  refine GX.kT ?_;refine GX.cond (t:=false) (by kernel_rfl) rfl ?_;simp only[dL,dp];refine GX.exit rfl ?_;exact HF.out _ rfl rfl rfl rfl rfl rfl
 |succ m ih =>
  intro k H a w v f hsz f0 f1 f9 f11 f12 r hS o A;have bt:decide (k<n)=true:=by simp;omega
  have h8:=hM.n8;have bu:IntKind.i64.wrap (100+(k:Int))=100+(k:Int):=by rw[iC]<;>omega
  have bv:IntKind.i64.wrap (1+(k:Int))=1+(k:Int):=by rw[iC]<;>omega
  have bw:IntKind.i64.wrap ((k:Int)+1)=((k+1:Nat):Int):=by rw[iC]<;>omega
  have E:=jA o;have IH:Hid (_):=ih (k+1) (by omega);have HS:Hid (oQ w sp n hd n6 (fun b=>b<old∨v.ownBlock=some b)):=hS;have HR:Hid (_):=o;have HO:Hid (_):=A;have HL:Hid (_):=E;have y:Hid (B≤w.heap.size∧k+1≤8):=⟨r,by omega⟩;obtain⟨ao,C,rfl,_⟩:=mV o;clear ih G hS o A E r h8;obtain⟨tm,df⟩:=a;simp only at f hsz f0 f1 f9 f11 f12;subst f;obtain⟨k0,k1,k2,k3,k4,k5,k6,k7,k8,k9,O,R,S,U,V,W,X,Y,Z,aa,ab,ad,ae,af,ag,ah,ai,aj,ak,al,am,an,ap,aq,ar,au,av,aw,ax,ay,az,aA,aB,aC,aD,aE,aF,aG,aH,aI,aJ,aK,aL,aM,aN,aO,aP,aQ,aR,aS,aT,aU,aV,aW,aX,aY,aZ,a0,a1,a2,a3,a4,a5,a6,a7,a8,a9,ba,bb,bc,bd,be,bf,rfl⟩:=vU hsz;simp only[fV,gB,fW,dW]at f0 f1 f9 f11 f12;subst f0 f1 f9 f11 f12;clear hsz
  (have bg:=nF;have bh:=ow;have bi:=nZ;have bj:=m7;have bk:=nG;have bl:=nH);unfold wu;simp only[Tryz.f14];refine GX.seq ?_;refine GX.seq ?_
  ((refine GX.region ?_);walk_nrm)
  iterate 3 ((refine GX.vz w ?_);walk_nrm)
  refine GX.kT ?_;refine GX.cond (t:=true) (by kernel_rfl) rfl ?_;simp only[dn];refine GX.pd ?_;refine GX.seq ?_;refine GX.block ?_
  ((refine GX.region ?_);walk_nrm)
  iterate 9 ((refine GX.vz w ?_);walk_nrm)
  refine GX.c rfl rfl (by kernel_rfl) (fun T K F=>?_);unfold execOp;go_simp;refine F _ _ _ (fun T'=>?_);clear F K;refine jP (Gh (100+(k:Int)) hd (1+(k:Int)) _) ?_;rintro e w4 ⟨rfl,s⟩;refine⟨_,rfl,?_⟩;walk_nrm;refine GX.c rfl rfl (by kernel_rfl) (fun T K F=>?_);unfold execOp;go_simp;refine F _ _ _ (fun T'=>?_);clear F K;refine jP (Ex _) ?_;rintro e g ⟨rfl,x⟩;refine⟨_,rfl,?_⟩;walk_nrm;have ks:=sK
  iterate 2 ((refine GX.vz g ?_);walk_nrm)
  rw[show ld 1 (xT (100+(k:Int)) hd [0,0,0,IntKind.u8.wrap (1+(k:Int)),0])++ld 4 []=oZ hd k from rfl];refine GX.vz (g.alloc (.cells #[.int .i64 (k:Int),.int .i64 1,.string ⟨#[]⟩,.int .i64 (k:Int),.int .i64 2,.string (strOfNums (oZ hd k))] 43)) ?_;have hI:=jL g (.cells #[.int .i64 (k:Int),.int .i64 1,.string ⟨#[]⟩,.int .i64 (k:Int),.int .i64 2,.string (strOfNums (oZ hd k))] 43);have l:Below g.heap.size g (g.alloc (.cells #[.int .i64 (k:Int),.int .i64 1,.string ⟨#[]⟩,.int .i64 (k:Int),.int .i64 2,.string (strOfNums (oZ hd k))] 43)):=(iJ _ _).alloc (dD _) _;generalize(g.alloc (.cells #[.int .i64 (k:Int),.int .i64 1,.string ⟨#[]⟩,.int .i64 (k:Int),.int .i64 2,.string (strOfNums (oZ hd k))] 43))=p at hI l ⊢;walk_nrm;have s4:w.heap.size≤w4.heap.size:=s.size;have s5:w4.heap.size≤g.heap.size:=x.size;have s6:=l.size;have c6:∀b,b<w.heap.size→p.heap[b]?=w.heap[b]?:=fun b hb=>(l.block b (by omega)).trans ((x.block b (by show b<w4.heap.size;omega)).trans (s.block b hb))
  obtain⟨i2,z2,z,hZ⟩:=zb;refine GX.append rfl rfl (by kernel_rfl) (.tmp 37) (.tmp 50) 44 rfl rfl rfl (fun T=>?_);obtain⟨v',i,q,r1,r2,_,r4⟩:=j4 (P:=Tryz.prog) (w:=again p T) B 44 44 43 i2 z2 3 32 Tryz.underlying44 z.info z.zero z.size z.bytes z.cells (by decide) (.slice ao (2*k) C) (2*k) (lU (nz hd k)) (lM HR.out fun j hj=>c6 j (HL.out j hj).2) ⟨g.heap.size,0,none⟩ 2 2 [.int .i64 (k:Int),.int .i64 1,.string ⟨#[]⟩,.int .i64 (k:Int),.int .i64 2,.string (strOfNums (oZ hd k))] rfl (fun j u hu=>by
   rw[show(⟨g.heap.size,0,none⟩:Addr).add j=⟨g.heap.size,j,none⟩ from by simp[jv]];exact(kh (w:=again p T) hI j).trans (by simpa using hu)) (by intro u hu;simp at hu;rcases hu with rfl|rfl|rfl|rfl|rfl|rfl<;>rfl) (by have:=y.out.2;unfold maxLen;omega) (by have:=y.out.2;omega) (by have:=y.out.1;show B≤p.heap.size;omega)
  refine⟨v',i,q,?_⟩;clear q;have l7:=jA r1;have s7:p.heap.size≤i.heap.size:=r2.size;rw[←T8,show 2*k+2=2*(k+1) by omega]at r1;have bm:Hid (_):=r1;have c7:∀b,b<w.heap.size→(Value.slice ao (2*k) C).ownBlock≠some b→i.heap[b]?=w.heap[b]?:=fun b hb hn=>(r2.block b (by show b<p.heap.size;omega) (dJ hn)).trans (c6 b hb)
  have bn:Hid (oQ i sp n hd n6 (fun b=>b<old∨v'.ownBlock=some b)):=HS.out.keep (fun b hb=>by
   by_cases h:(Value.slice ao (2*k) C).ownBlock=some b
   ·exact .inl (.inr h)
   ·exact .inr (c7 b hb h)) (by omega) (fun b hb=>by
   rcases hb with hb|hb
   ·exact .inl (.inl hb)
   ·rcases r4 with e|e
    ·exact .inl (.inr (e▸hb))
    ·rw[e]at hb
     cases hb
     exact .inr ⟨by show w.heap.size≤p.heap.size;omega,(l7 p.heap.size e).2⟩)
  have bo:Hid (∀b,b<old→i.heap[b]?=w0.heap[b]?):=fun b hb=>by
   have D:=y.out.1;exact(c7 b (by omega) fun e=>by have:=(HL.out b e).1;omega).trans (HO.out b hb)
  have bp:Hid (B≤i.heap.size):=by have D:=y.out.1;exact(show B≤i.heap.size by omega)
  obtain⟨bq,br,rfl,_⟩:=mV r1;clear r1 r2 r4 l7 c7 c6 hI s x l s4 s5 s6 s7 HS HR HO HL y z hZ ks;walk_nrm
  ((refine GX.vz i ?_);walk_nrm);refine GX.kT ?_;refine GX.inBlock ?_
  ((refine GX.region ?_);walk_nrm)
  iterate 3 ((refine GX.vz i ?_);walk_nrm)
  refine GX.kT ?_;refine GX.inLoop ?_;have d:=fun a D I J L M N h7=>IH.out a i (.slice bq (2*(k+1)) br) D I J L M N h7 bp.out bn.out bm.out bo.out
  unfold wu at d;simp only[Tryz.f14]at d;exact d _ rfl rfl rfl rfl rfl rfl rfl
theorem Gm{l:List ky}(h:w.ownsRow B 43 3 v l.length (lU l))(c:∀b,v.ownBlock=some b→K b):pO w v l K:=by
 rcases FV h with⟨rfl,ao,a,rfl⟩|⟨ib,io,a,rfl,d,e⟩
 ·exact⟨ao,0,0,a,rfl,fun h=>absurd rfl h,fun h=>absurd rfl h,fun j x hx=>by simp at hx⟩
 ·exact⟨_,ib,io,a,rfl,fun _=>rfl,fun _=>c _ d,e⟩
noncomputable def nM:Code:=match pF with | .seq _ (.seq _ (.seq (.seq _ (.block _ (.loop c))) _))=>c|_=>.skip
noncomputable def qs:Code:=match pF with | .seq _ (.seq _ (.seq _ r))=>r|_=>.skip
def BR (w:World) (n:Nat) (hd:Int) (nb:Nat):Prop:=∀i,i<n→w.cell? ⟨nb,3*i,none⟩=some (.int .i64 (i:Int))∧w.cell? ⟨nb,3*i+1,none⟩=some (.string (strOfNums (sS hd)))∧w.cell? ⟨nb,3*i+2,none⟩=some (.bool false)
theorem Uc(g:tC n hd){a:Act}(d:a.defers=[])(hsz:a.tmps.size=83)(f0:a.tmps[0]?=some (.int .i64 (n:Int)))(f1:a.tmps[1]?=some (.int .i64 hd))(f9:a.tmps[9]?=some (.pointer (some ⟨sp,0,none⟩)))(f11:a.tmps[11]?=some v)(hS:oQ w sp n hd n6 K)(f:w.ownsRow B 43 3 v (2*n) (lU (nz hd n)))(e:∀b,v.ownBlock=some b→K b)(h:∀(a:Act)(w':World) nb nc,a.defers=[]→a.tmps.size=83→a.tmps[0]?=some (.int .i64 (n:Int))→a.tmps[1]?=some (.int .i64 hd)→a.tmps[9]?=some (.pointer (some ⟨sp,0,none⟩))→a.tmps[13]?=some (.slice (some ⟨nb,0,none⟩) n nc)→a.tmps[14]?=some (.int .i64 0)→BR w' n hd nb→oQ w' sp n hd ⟨3,hd,0,0,[]⟩ K→(∀b,K b→w'.heap[b]?=w.heap[b]?) →
   GX cs Q ((base 14).at a [.code nM,.inLoop nM,.inBlock 2,.code qs]) xs w'):GX cs Q ((base 14).at a [.code pF]) xs w:=by
 have i:Hid (_):=h;have j:Hid (_):=hS;have l:Hid (pO w v (nz hd n) K):=Gm (by rw[BQ];exact f) e;have q:=g.n8;obtain⟨ao,cp,rfl,_⟩:=mV f;clear h hS f e;obtain⟨tm,df⟩:=a;simp only at d hsz f0 f1 f9 f11;subst d;obtain⟨k0,k1,k2,k3,k4,k5,k6,k7,k8,k9,r,s,u,x,y,z,A,C,D,E,F,G,H,I,J,L,M,N,O,P,R,S,T,U,V,W,X,Y,Z,aa,ab,ad,ae,af,ag,ah,ai,aj,ak,al,am,an,ap,aq,ar,au,av,aw,ax,ay,az,aA,aB,aC,aD,aE,aF,aG,aH,aI,aJ,aK,aL,aM,aN,aO,aP,aQ,aR,aS,aT,aU,aV,rfl⟩:=vU hsz;simp only[fV,gB,fW,dW]at f0 f1 f9 f11;subst f0 f1 f9 f11;clear hsz
 (have aW:=nF;have aX:=ow;have aY:=nZ;have aZ:=m7;have a0:=nG;have a1:=nH);unfold pF;simp only[Tryz.f14];refine GX.seq ?_
 ((refine GX.region ?_);walk_nrm)
 iterate 2 ((refine GX.vz w ?_);walk_nrm)
 refine GX.AL rfl rfl rfl (by kernel_rfl) rfl rfl rfl ?_;refine Ua g rfl j.out l.out (fun w2 nb nc m o p=>?_);rw[yF rfl];have HF:Hid (_):=fun a h1 h2 h3 h4 h5 h6 h7=>i.out a w2 nb nc h1 h2 h3 h4 h5 h6 h7 o m p
 clear i j l m o p;walk_nrm
 ((refine GX.vz w2 ?_);walk_nrm);refine GX.kT ?_;refine GX.seq ?_;refine GX.seq ?_
 ((refine GX.region ?_);walk_nrm)
 iterate 4 ((refine GX.vz w2 ?_);walk_nrm)
 refine GX.kT ?_;refine GX.cond (t:=false) (by kernel_rfl) rfl ?_;simp only[dL,dp];refine GX.pd ?_;refine GX.seq ?_;refine GX.seq ?_
 ((refine GX.region ?_);walk_nrm)
 ((refine GX.vz w2 ?_);walk_nrm);refine GX.kT ?_;refine GX.block ?_;refine GX.loop ?_;have c:=HF.out;unfold nM qs pF at c;simp only[Tryz.f14]at c;exact c _ rfl rfl rfl rfl rfl rfl rfl
theorem Gp{w1 w':World}(hB:Below w1.heap.size w1 w')(e:w1.heap=w.heap:=by rfl):Below w.heap.size w { w with heap:=w'.heap }:=⟨rfl,rfl,rfl,by rw[←e];exact hB.size,fun k a=>by rw[←e]at a ⊢;exact hB.block k a⟩
noncomputable def pG:Array Oper:=match nM with | .seq _ (.seq (.block _ (.seq _ (.seq (.region _ ops _) _))) _)=>ops|_=>#[]
def p5 (n nb nc k:Nat) (hd:Int):Nat→Value→World→Prop
 |0,v,_=>v=.slice (some ⟨nb,0,none⟩) n nc
 |1,v,_=>v=.int .i64 (k:Int)
 |2,v,_=>v=.pointer (some ⟨nb,k*3,none⟩)
 |3,v,_=>v=.agg #[.int .i64 (k:Int),.string (strOfNums (sS hd)),.bool false]
 |4,v,_=>v=.int .i64 (k:Int)
 |5,v,_=>v=.int .i64 hd
 |6,v,_=>v=.string (strOfNums (ld 1 (xT 65000 hd [0,0,0,IntKind.u8.wrap 200,0])))
 |7,v,_=>v=.string (strOfNums (ld 4 []))
 |8,v,_=>v=.string (strOfNums (sS hd))
 |9,v,_=>v=.agg #[.int .i64 (k:Int),.string (strOfNums (sS hd)),.bool false]
 |10,v,_=>v=.bool false
 |11,v,_=>v=.bool false
 |12,v,_=>v=.int .i64 3
 |13,v,_=>v=.bool false
 |_,_,_=>True
variable {nb nc k:Nat}
theorem Ud(w w':World)(i:Nat)(u:Value)(hB:Below w.heap.size w w')(h:p5 n nb nc k hd i u w):p5 n nb nc k hd i u w':=by
 unfold p5 at h ⊢;split at h<;>exact h
theorem Ue:lh (strip pG) [0,1,9,13,14,15] 83=true:=by kernel_rfl
theorem Uf:lO (strip pG)=true:=by kernel_rfl
theorem Ug:pG.size=15:=by kernel_rfl
theorem Uh:(pG[11]?).bind (·.dst)=some 78:=by kernel_rfl
variable {b:Frame} {kq:List Item}
theorem Ui(D:k<n)(N:n≤8)(m:nb<w0.heap.size)(c0:w0.cell? ⟨nb,k*3,none⟩=some (.int .i64 (k:Int)))(c1:w0.cell? ⟨nb,k*3+1,none⟩=some (.string (strOfNums (sS hd))))(c2:w0.cell? ⟨nb,k*3+2,none⟩=some (.bool false))(i:Nat)(o:Oper)(a:Act)(w:World)(l:List Nat)(O:i<14)(x:pG[i]?=some o)(f1:a.tmps[1]?=some (.int .i64 hd))(f13:a.tmps[13]?=some (.slice (some ⟨nb,0,none⟩) n nc))(f14:a.tmps[14]?=some (.int .i64 (k:Int)))(f15:a.tmps[15]?=some (.int .i64 3))(g:∀(j:Nat)(o':Oper)(d:Nat),pG[j]?=some o'→o'.dst=some d→(∃e∈o.after,e.on=j∧Region.binds .any e=true)→∃v,a.tmps[d]?=some v∧p5 n nb nc k hd j v w)(y:Below w0.heap.size w0 w)(q:∀v w',p5 n nb nc k hd i v w'→Below w.heap.size w w'→GX cs Q (b.at (a.put o.dst v) (.inRegion pG l::kq)) xs w'):GX cs Q (b.at a (.inRegion pG (i::l)::kq)) xs w:=by
 have r:=x;have P:=(y.cell (p:=⟨nb,k*3,none⟩) m).trans c0;have R:=(y.cell (p:=⟨nb,k*3+1,none⟩) m).trans c1;have S:=(y.cell (p:=⟨nb,k*3+2,none⟩) m).trans c2;have t:=Uh;have i1:(0:Int)≤(k:Int):=by omega
 have i2:(k:Int)<(n:Int):=by omega
 have E:=nF;have F:=nZ;have G:=m7;have H:=nG;have I:=nH;have U:=sK;clear c0 c1 c2;obtain rfl|rfl|rfl|rfl|rfl|rfl|rfl|rfl|rfl|rfl|rfl|rfl|rfl|rfl:i=0∨i=1∨i=2∨i=3∨i=4∨i=5∨i=6∨i=7∨i=8∨i=9∨i=10∨i=11∨i=12∨i=13:=by omega
 all_goals
  simp only[pG,nM,pF,Tryz.f14]at x;simp at x;subst x
 all_goals try
  first
  |(refine GX.v r rfl (by kernel_rfl) (fun T K f=>?_);unfold execOp;simp only[Act.eval,dA,f13,f14,f1,eE];go_simp;exact f _ _ (GX.lZ (q _ _ rfl (iJ _ _)) rfl rfl))
  |(obtain⟨z,s,h⟩:=g _ _ _ (by rfl) (by rfl) ⟨_,⟨List.Mem.head _⟩,rfl,rfl⟩;simp only[p5]at h;subst h;refine GX.v r rfl (by kernel_rfl) (fun T K f=>?_);unfold execOp;simp only[Act.eval,dA,s,eE];go_simp;exact f _ _ (GX.lZ (q _ _ rfl (iJ _ _)) rfl rfl))
  |(obtain⟨z,s,h⟩:=g _ _ _ (by rfl) (by rfl) ⟨_,⟨List.Mem.head _⟩,rfl,rfl⟩;obtain⟨V,J,C⟩:=g _ _ _ (by rfl) (by rfl) ⟨_,⟨List.Mem.tail _ (List.Mem.head _)⟩,rfl,rfl⟩;simp only[p5]at h C;subst h C;refine GX.v r rfl (by kernel_rfl) (fun T K f=>?_);unfold execOp;simp only[Act.eval,dA,s,J,eE];go_simp;exact f _ _ (GX.lZ (q _ _ rfl (iJ _ _)) rfl rfl))
 ·obtain⟨z,s,h⟩:=g 5 _ _ rfl rfl ⟨⟨5,.data⟩,by simp,rfl,rfl⟩;simp only[p5]at h
  try subst h
  refine GX.c r rfl (by kernel_rfl) (fun T K f=>?_);unfold execOp;simp only[];go_simp;refine f _ _ _ (fun L=>jP (Gh 65000 hd 200 _) ?_);rintro e w' ⟨rfl,hB⟩;exact⟨_,rfl,GX.lZ (q _ _ rfl (Gp hB)) rfl hB.os.symm⟩
 ·refine GX.c r rfl (by kernel_rfl) (fun T K f=>?_);unfold execOp;go_simp;refine f _ _ _ (fun L=>jP (Ex _) ?_);rintro e w' ⟨rfl,hB⟩;exact⟨_,rfl,GX.lZ (q _ _ rfl (Gp hB)) rfl hB.os.symm⟩
 ·obtain⟨M,A,u⟩:=g 11 _ _ rfl rfl ⟨⟨11,.guard⟩,by simp,rfl,rfl⟩;simp only[p5]at u;subst u;refine GX.v r (by simp[Region.wanted,yielded,t,A]) (by kernel_rfl) (fun T K f=>?_);unfold execOp;simp only[Act.eval,dA,f15,eE];go_simp;exact f _ _ (GX.lZ (q _ _ rfl (iJ _ _)) rfl rfl)
 ·obtain⟨M,A,u⟩:=g 11 _ _ rfl rfl ⟨⟨11,.guard⟩,by simp,rfl,rfl⟩;simp only[p5]at u;subst u;obtain⟨z,s,h⟩:=g 12 _ _ rfl rfl ⟨⟨12,.data⟩,by simp,rfl,rfl⟩;simp only[p5]at h
  try subst h
  refine GX.v r (by simp[Region.wanted,yielded,t,A]) (by kernel_rfl) (fun T K f=>?_);unfold execOp;simp only[Act.eval,dA,s,eE];go_simp;exact f _ _ (GX.lZ (q _ _ rfl (iJ _ _)) rfl rfl)
theorem Uj(o:Oper)(a:Act)(w:World)(l:List Nat)(f:pG[14]?=some o)(c:∀(j:Nat)(o':Oper)(d:Nat),pG[j]?=some o'→o'.dst=some d→(∃e∈o.after,e.on=j∧Region.binds .any e=true)→∃v,a.tmps[d]?=some v∧p5 n nb nc k hd j v w)(m:Below w0.heap.size w0 w)(hsz:a.tmps.size=83)(p:∀v w',((a.put o.dst v).tmps[81]?=some (.bool false)∧Below w0.heap.size w0 w')→GX cs Q (b.at (a.put o.dst v) (.inRegion pG l::kq)) xs w'):GX cs Q (b.at a (.inRegion pG (14::l)::kq)) xs w:=by
 have q:=f;have r:Hid (_):=hsz;clear hsz;have s:=nF;have t:=m7;have u:=nG;have x:=nH;simp only[pG,nM,pF,Tryz.f14]at f;simp at f;subst f;obtain⟨A,y,h⟩:=c 11 _ _ rfl rfl ⟨⟨11,.data⟩,by simp,rfl,rfl⟩;simp only[p5]at h
 try subst h
 obtain⟨C,z,i⟩:=c 13 _ _ rfl rfl ⟨⟨13,.data⟩,by simp,rfl,rfl⟩;simp only[p5]at i
 try subst i
 refine GX.v q rfl (by kernel_rfl) (fun T K g=>?_);unfold execOp;simp only[Act.eval,dA,y,z,eE];go_simp;refine g _ _ (GX.lZ (p (.bool false) _ ⟨?_,m⟩) rfl rfl);simp[Act.put,r.out]
end
end Go.Proofs.YtjnkcibpkkjniaaGreat.kN
