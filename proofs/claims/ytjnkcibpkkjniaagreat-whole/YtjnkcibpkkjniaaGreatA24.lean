import Derived.Test.YtjnkcibpkkjniaaGreatA00
import Derived.Test.YtjnkcibpkkjniaaGreatA23
set_option linter.all false
set_option maxHeartbeats 4000000
set_option maxRecDepth 20000
namespace Go.Proofs.YtjnkcibpkkjniaaGreat
section
open Go Go.RowKit
open Go.Proofs.YtjnkcibpkkjniaaGreat.kj (oC kH wu mg)
theorem PG{w:World}{base tb sb:Nat}{now:Int}{sv:Value}{sent:List Int}{cl ov:Bool}{au id:Int}{p:Pz}{hold heard spoke:Int}{pa:Option Addr}{pl pc:Nat}(h:TS w base tb sb now sv sent cl ov (j5 au id p 0 hold heard spoke (.slice pa pl pc)))(X:sent.length≤50000)(hid:0≤id):Calls Tryz.prog 147 #[.pointer (some ⟨tb,0,none⟩)] w fun e w'=>(∃v,e=.returned v)∧∃sv',TS w' base tb sb now sv' (sent++j9 1 (4::(kB au++(kB p.hold++(nY id++[0]))))) cl ov (j5 au id p 1 p.hold now now (.slice pa pl pc))∧Rest base tb sb w w':=by
 obtain⟨⟨c0,c1,c2,c3,c4⟩,z2,Y,Z⟩:=h.facts;obtain⟨B,f,C,E,F,ia,il,ic,ea,el,ec⟩:=p;simp only[j5]at h ⊢;obtain⟨e0,e1,e2,e3,e4,e5,e6,e7,e8,e9,G,H,I,J,y0,y1,y2,y3,y4,y5,y6,y7,y8,y9,L,M,N,O⟩:=oD h.s;have R:Hid (_):=h;have S:=h.ne;clear h;go_enter Tryz.func147,Tryz.ntmps147
 go_wp2_with fail
 go_region
 have k1:=R.out.kF 9 (.int .i64 1);have k2:=k1.1.kF 10 (.int .i64 f);have z:=k2.1.kF 11 (.int .i64 now);have c:=z.1.drew;have r:=(k1.2.trans (k2.2.trans z.2)).drew;simp only[ik,iq,iu]at c;generalize((((w.setCell ⟨sb,9,none⟩ (.int .i64 1)).setCell ⟨sb,10,none⟩ (.int .i64 f)).setCell ⟨sb,11,none⟩ (.int .i64 now)).drew)=w1 at c r ⊢
 go_wp2_with fail
 refine wu (ops:=tz) (val:=fun i v _=>lZ tb sb au f id i v) (fix:=[(0,.pointer (some ⟨tb,0,none⟩))]) (T:=66)
  (Sok:=mX w base tb sb now sv sent cl ov #[.int .i64 au,.int .u32 id,.int .i64 B,.int .i64 f,.int .i64 C,.int .i64 E,.int .i64 F,.slice ia il ic,.slice ea el ec,.int .i64 1,.int .i64 f,.int .i64 now,.int .i64 spoke,.slice pa pl pc] (j9 1 (4::(kB au++(kB f++(nY id++[0]))))))
  (by kernel_rfl) PE (fun i o listed a w2 U hr u g K V=>PF rfl rfl rfl rfl rfl (by omega) i o listed a w2 U hr u g K fun v w' W hS=>V v w' W (fun _ _ _ h=>h) hS) (fun listed a w2 u j g=>?_) ?_ ?_ ?_ ?_
 ·have l:=j 25 (by rw[wT];decide);unfold mX at g;rw[dj l]at g;obtain⟨sv',m,y⟩:=g;simp only[ik,iq,iu]at m;obtain⟨tm,df⟩:=a;have kG:=u.defers;simp only at kG;subst kG
  go_wp2_with fail
  exact iY (v:=.tuple #[]) (by simp[results,Tryz.results147,go_sem]) rfl ⟨⟨_,rfl⟩,_,m,y⟩
 ·rfl
 ·rfl
 ·intro x hx;simp at hx;subst hx;rfl
 ·unfold mX;rw[dk (by simp[du,wT])];exact⟨⟨c.t,c.s,c.own,c.lt,c.ne⟩,⟨r.os,r.size,r.heap⟩⟩
end
section
open Go Go.RowKit
variable {w:World} {base tb sb:Nat} {now au id hold heard spoke:Int} {sv:Value} {sent:List Int} {cl ov:Bool} {p:Pz}
theorem PH(h:TS w base tb sb now sv sent cl ov (j5 au id p 0 hold heard spoke (.slice none 0 0)))(g:sent.length≤50000)(hid:0≤id)(pe:Int)(s:ByteArray):Calls Tryz.prog 119 #[.pointer (some ⟨tb,0,none⟩),.agg #[.int .i64 pe,.int .i64 1,.string s]] w fun e w'=>(∃v,e=.returned v)∧∃sv',TP w' base tb sb now sv' (sent++j9 1 (4::(kB au++(kB p.hold++(nY id++[0]))))) cl ov (j5 au id p 1 p.hold now now (.slice none 0 0)) (.slice none 0 0) []∧Rest base tb sb w w':=by
 have i:Hid (_):=h;have j:Hid (_):=g;have l:Hid (0≤id):=hid;clear h g hid;go_enter Tryz.func119,Tryz.ntmps119
 go_wp2_with (go_at_call 147;go_loud (refine js (PG (TS.below i.out (by(repeat(first|exact iD _ _|refine iG ?_|refine iH ?_ (by first|omega|(simp only[iI,iJ,iK];omega)|simp) _|refine iL ?_ (by first|omega|simp) _|assumption)))) j.out l.out) ?_);go_loud (rintro e w1 ⟨⟨v,rfl⟩,a,c,f⟩))
 exact iY (v:=.tuple #[]) (by simp[results,Tryz.results119,go_sem]) rfl ⟨⟨_,rfl⟩,a,⟨c,rfl,iR _ _ _ _,(fun k m=>by cases m),kS.nil _ _⟩,(Rest.below (by(repeat(first|exact iD _ _|refine iG ?_|refine iH ?_ (by first|omega|(simp only[iI,iJ,iK];omega)|simp) _|refine iL ?_ (by first|omega|simp) _|assumption))) i.out.lt.2.2).trans f⟩
theorem PI{pv:Value}(h:TS w base tb sb now sv sent cl ov (j5 au id p 0 hold heard spoke pv))(pe:Int)(s:ByteArray):Calls Tryz.prog 119 #[.pointer (some ⟨tb,0,none⟩),.agg #[.int .i64 pe,.int .i64 2,.string s]] w fun e w'=>(∃v,e=.returned v)∧Below w.heap.size w w':=by
 have a:Hid (_):=h;clear h;go_enter Tryz.func119,Tryz.ntmps119
 go_wp2_with (go_at_call 148;go_loud (refine js (Po (TS.below a.out (by(repeat(first|exact iD _ _|refine iG ?_|refine iH ?_ (by first|omega|(simp only[iI,iJ,iK];omega)|simp) _|refine iL ?_ (by first|omega|simp) _|assumption)))) _) ?_);go_loud (rintro e w1 ⟨⟨v,rfl⟩,rfl⟩))
 exact iY (v:=.tuple #[]) (by simp[results,Tryz.results119,go_sem]) rfl ⟨⟨_,rfl⟩,by(repeat(first|exact iD _ _|refine iG ?_|refine iH ?_ (by first|omega|(simp only[iI,iJ,iK];omega)|simp) _|refine iL ?_ (by first|omega|simp) _|assumption))⟩
structure lV (s:SV):Prop where
 part:oo s.part
 st:0≤s.st∧s.st≤3
 idle:s.st=0→s=⟨0,0,0,0,[]⟩
 hold:0≤s.hold∧s.hold≤65535
 heard:kO s.heard
 spoke:kO s.spoke
def sA (s:SV) (sent:List Int):Prop:=(s.st=0→sent=[])∧(s.st=1→sent.length≤29)∧sent.length≤48
inductive TR
 |go (s:SV) (sent:List Int)
 |over (cl:Bool) (sent:List Int)
 |bad (t:lS) (sent:List Int)
def wU (au id hd:Int):List Int:=j9 1 (4::(kB au++(kB hd++(nY id++[0]))))
def ly (A hd au id now:Int) (s:SV) (sent:List Int) (k:Int) (d:List Int):TR :=
 if k=1 then(if s.st=0 then .go ⟨1,hd,now,now,[]⟩ (sent++wU au id hd) else .go s sent)
 else if k=2 then(if s.st=0 then .go s sent else match lD A hd now d.length s [] d with
  | .go s' add=>.go s' (sent++add)
  | .shut add=>.over true (sent++add)
  | .bad t add=>.bad t (sent++add))
 else if k=3 then .over false sent
 else .go s sent
theorem PK{a b:Int}(c:0≤a∧a≤65535)(hb:0≤b∧b≤65535):0≤su a b∧su a b≤65535:=by
 unfold su;split<;>omega
variable {A hd:Int}
theorem PL{s s':SV}{k:Int}{b add:List Int}(l:lV s)(i:s.st≠0)(c:0≤hd∧hd≤65535)(a:kO now)(hb:Bytes b)(h:lP A hd now s k b=.go s' add):lV s'∧s'.st≠0:=by
 obtain⟨f,p2,p3,p4,m,j⟩:=l;unfold lP at h;split at h
 ·cases h
 ·split at h
  ·split at h
   ·cases h
   ·cases h
    refine⟨⟨f,⟨by simp,by simp⟩,fun e=>by simp at e,PK c ?_,a,a⟩,by simp⟩;have g:Bytes ((b.drop 3).take 2):=fun x hx=>hb x (iW (iV hx))
    have:=uv g;have o:((b.drop 3).take 2).length≤2:=by simp;omega
    have r:(256:Int) ^ ((b.drop 3).take 2).length≤256 ^ 2:=by
     have:((b.drop 3).take 2).length=0∨((b.drop 3).take 2).length=1∨((b.drop 3).take 2).length=2:=by omega
     rcases this with e|e|e<;>rw[e]<;>decide
    omega
  ·split at h
   ·cases h
    exact⟨⟨f,⟨by simp,by simp⟩,fun e=>by simp at e,p4,a,j⟩,by simp⟩
   ·split at h
    ·cases h
    ·cases h
     exact⟨⟨f,p2,fun e=>absurd e i,p4,a,j⟩,i⟩
theorem PM(u:0≤hd∧hd≤65535)(F:kO now):∀(n:Nat)(s:SV)(acc d:List Int)(s':SV)(a:List Int),lV s→s.st≠0→Bytes d→lD A hd now n s acc d=.go s' a →
  lV s'∧s'.st≠0∧((s.st=1∧s'.st≠1∧a.length=acc.length+19)∨a=acc)∧(s'.st=1→s.st=1∧a=acc):=by
 intro n
 induction n with
 |zero =>
  intro s acc d s' a f j g h;simp only[lD,FR.go.injEq]at h;obtain⟨rfl,rfl⟩:=h;exact⟨f,j,.inr rfl,fun e=>⟨e,rfl⟩⟩
 |succ n z =>
  intro s acc d s' a f j g h
  by_cases c:d=[]
  ·rw[c,wL]at h;simp only[FR.go.injEq]at h;obtain⟨rfl,rfl⟩:=h;exact⟨f,j,.inr rfl,fun e=>⟨e,rfl⟩⟩
  ·have i:0<d.length:=by cases d with|nil=>exact absurd rfl c|cons x xs=>simp
   have m:Bytes (d.drop (lN s.part d)):=fun x hx=>g x (iW hx)
   rcases l:nP s.part d with⟨t,ys⟩|⟨ys⟩|⟨k,b⟩
   ·rw[wM c l]at h;cases h
   ·rw[wN c l]at h;have hp:=AD f.part g i l;exact z { s with part:=ys } acc _ s' a ⟨hp,f.st,fun e=>absurd e j,f.hold,f.heard,f.spoke⟩ j m h
   ·obtain⟨_,hb,_⟩:=AE f.part g i l;have y:lV { s with part:=[] }:=⟨wR,f.st,fun e=>absurd e j,f.hold,f.heard,f.spoke⟩;rcases o:lP A hd now { s with part:=[] } k b with⟨s2,add⟩|⟨add⟩|⟨t,add⟩
    ·rw[wQ c l o]at h;obtain⟨k1,k2⟩:=PL y j u F hb o;obtain⟨N,G,B⟩:=AF o;obtain⟨r1,r2,r,C⟩:=z s2 (acc++add) _ s' a k1 k2 m h;refine⟨r1,r2,?_,fun e=>?_⟩
     ·rcases G with⟨H,E,I⟩|rfl
      ·rcases r with⟨b1,_,_⟩|rfl
       ·exact absurd b1 E
       ·refine .inl ⟨H,fun e=>?_,by rw[iF,I]⟩;exact E (C e).1
      ·rw[gZ]at r;rcases r with⟨b1,b2,J⟩|r
       ·exact .inl ⟨(B b1).1,b2,J⟩
       ·exact .inr r
     ·obtain⟨K,L⟩:=C e;obtain⟨M,rfl⟩:=B K;exact⟨M,by rw[L,gZ]⟩
    ·rw[wP c l o]at h;cases h
    ·rw[wO c l o]at h;cases h
end
section
open Go Go.RowKit
variable {q:Option Nat}
def TQ (q:Option Nat) (w:World) (base tb sb:Nat) (now au id:Int) (p:Pz) (r:TR) (e:Ending) (w':World):Prop :=
 kh q base tb sb w w'∧match r with
  | .go s sent=>(∃v,e=.returned v)∧∃sv pv,lQ q w' base tb sb now sv sent false false au id p s pv∧(s.st=0→pv=.slice none 0 0)
  | .over cl sent=>(∃v,e=.returned v)∧∃sv,TS w' base tb sb now sv sent cl true (j5 au id p 0 0 0 0 (.slice none 0 0))
  | .bad t sent=>e=.panicked [{ v:=t.val,recovered:=false }]∧∃sv s pv,lQ q w' base tb sb now sv sent false false au id p s pv
theorem El{A hd now:Int}:∀(n:Nat)(s:SV)(acc d:List Int)(s':SV)(a:List Int),s.st≠0→lD A hd now n s acc d=.go s' a→s'.st≠0:=by
 intro n
 induction n with
 |zero =>
  intro s acc d s' a f h;simp only[lD,FR.go.injEq]at h;obtain⟨rfl,rfl⟩:=h;exact f
 |succ n i =>
  intro s acc d s' a f h
  by_cases c:d=[]
  ·rw[c,wL]at h;simp only[FR.go.injEq]at h;obtain⟨rfl,rfl⟩:=h;exact f
  ·rcases g:nP s.part d with⟨t,ys⟩|⟨ys⟩|⟨k,b⟩
   ·rw[wM c g]at h;cases h
   ·rw[wN c g]at h;exact i { s with part:=ys } acc _ s' a f h
   ·rcases e:lP A hd now { s with part:=[] } k b with⟨s2,add⟩|⟨add⟩|⟨t,add⟩
    ·rw[wQ c g e]at h;refine i s2 (acc++add) _ s' a ?_ h;unfold lP at e;split at e
     ·cases e
     ·split at e
      ·split at e<;>cases e
       simp
      ·split at e
       ·cases e;simp
       ·split at e<;>cases e
        exact f
    ·rw[wP c g e]at h;cases h
    ·rw[wO c g e]at h;cases h
section
variable {w:World} {base tb sb:Nat} {now:Int} {sv:Value} {sent:List Int} {au id:Int} {p:Pz} {s:SV} {pv:Value}
theorem PN{st hold heard spoke:Int}(h:TS w base tb sb now sv sent false false (j5 au id p st hold heard spoke pv))(a:st≠0):Calls Tryz.prog 147 #[.pointer (some ⟨tb,0,none⟩)] w fun e w'=>(∃v,e=.returned v)∧w'=w:=by
 obtain⟨i,j,l,m,o,ia,il,ic,ea,el,ec⟩:=p;simp only[j5]at h;obtain⟨⟨c0,c1,c2,c3,c4⟩,z2,r,u⟩:=h.facts;have g:=jV h.s 9;simp at g;have c:(st != 0)=true:=by simpa using a
 have f:(st == 0)=false:=by simpa using a
 clear h a;go_enter Tryz.func147,Tryz.ntmps147
 go_wp2_with fail
 first
  |exact iZ (v:=.tuple #[]) (by simp[results,Tryz.results147,go_sem]) rfl ⟨⟨_,rfl⟩,rfl⟩
  |exact iY (v:=.tuple #[]) (by simp[results,Tryz.results147,go_sem]) rfl ⟨⟨_,rfl⟩,rfl⟩
theorem TQ.none{w':World}(h:lQ q w base tb sb now sv sent false false au id p s pv)(a:s.st=0→pv=.slice none 0 0){v:Value}(hB:Below w.heap.size w w'):TQ q w base tb sb now au id p (.go s sent) (.returned v) w' :=
 ⟨kh.below hB h.ts.lt.2.2,⟨_,rfl⟩,sv,pv,ko.below h hB,a⟩
theorem PO(h:lQ q w base tb sb now sv sent false false au id p s pv)(a:lV s)(c:s.st=0→pv=.slice none 0 0)(f:sA s sent)(hid:0≤id){d:List Int}(hd:Bytes d)(j:d.length≤1152921504606846976)(pe k:Int):Calls Tryz.prog 119 #[.pointer (some ⟨tb,0,none⟩),.agg #[.int .i64 pe,.int .i64 k,.string (strOfNums d)]] w fun e w'=>TQ q w base tb sb now au id p (ly p.au p.hold au id now s sent k d) e w':=by
 have H:Hid (∀v w',Below w.heap.size w w'→TQ q w base tb sb now au id p (.go s sent) (.returned v) w'):=fun v w' hB=>TQ.none h c hB
 by_cases k1:k=1
 ·subst k1
  by_cases i:s.st=0
  ·have B:=c i;have I:=a.idle i;subst I B;have hm:ly p.au p.hold au id now ⟨0,0,0,0,[]⟩ sent 1 d=.go ⟨1,p.hold,now,now,[]⟩ (sent++wU au id p.hold):=by simp[ly]
   rw[hm];refine(PH (hold:=0) (heard:=0) (spoke:=0) h.ts (by have:=f.2.2;omega) hid pe _).mono ?_;rintro e w' ⟨J,sv',K,u⟩;exact⟨u.wide,J,sv',_,TP.wide K,fun e=>by simp at e⟩
  ·have hm:ly p.au p.hold au id now s sent 1 d=.go s sent:=by simp[ly,i]
   rw[hm];have C:Hid (_):=h;have L:Hid (∀w',Below w.heap.size w w'→Calls Tryz.prog 147 #[.pointer (some ⟨tb,0,none⟩)] w' fun e m=>(∃v,e=.returned v)∧m=w'):=fun w' hB=>PN (C.out.ts.below hB) i
   clear h a c f hd j i hm;go_enter Tryz.func119,Tryz.ntmps119
   go_wp2_with (go_at_call 147;go_loud (refine js (L.out _ (by(repeat(first|exact iD _ _|refine iG ?_|refine iH ?_ (by first|omega|(simp only[iI,iJ,iK];omega)|simp) _|refine iL ?_ (by first|omega|simp) _|assumption)))) ?_);go_loud (rintro e w1 ⟨⟨v,rfl⟩,rfl⟩))
   exact iY (v:=.tuple #[]) (by simp[results,Tryz.results119,go_sem]) rfl (H.out _ _ (by(repeat(first|exact iD _ _|refine iG ?_|refine iH ?_ (by first|omega|(simp only[iI,iJ,iK];omega)|simp) _|refine iL ?_ (by first|omega|simp) _|assumption))))
 ·by_cases k2:k=2
  ·subst k2
   by_cases i:s.st=0
   ·have hm:ly p.au p.hold au id now s sent 2 d=.go s sent:=by simp[ly,i]
    rw[hm];have E:=h.ts;rw[i]at E;refine(PI E pe _).mono ?_;rintro e w' ⟨⟨v,rfl⟩,hB⟩;exact H.out v w' hB
   ·have C:Hid (_):=h;have z:Hid (∀w',Below w.heap.size w w'→Calls Tryz.prog 148 #[.pointer (some ⟨tb,0,none⟩),.string (strOfNums d)] w' fun e m=>FQ q w' base tb sb now sent au id p (lD p.au p.hold now d.length s [] d) e m):=fun w' hB=>Pu (ko.below C.out hB) i a.part (by have:=f.2.2;omega) hd j
    have o:=h.ts.lt.2.2;rcases hm:lD p.au p.hold now d.length s [] d with⟨s',add⟩|⟨add⟩|⟨t,add⟩
    ·have g:ly p.au p.hold au id now s sent 2 d=.go s' (sent++add):=by simp[ly,i,hm]
     have x:s'.st≠0:=El _ _ _ _ _ _ i hm;rw[hm]at z;have F:Hid (_):=g;have M:Hid (_):=x;clear h a c f hd j i hm g x;go_enter Tryz.func119,Tryz.ntmps119
     go_wp2_with (go_at_call 148;go_loud (refine js (z.out _ (by(repeat(first|exact iD _ _|refine iG ?_|refine iH ?_ (by first|omega|(simp only[iI,iJ,iK];omega)|simp) _|refine iL ?_ (by first|omega|simp) _|assumption)))) ?_);go_loud (rintro e w1 ⟨u,⟨v,rfl⟩,r,y,l⟩))
     refine iY (v:=.tuple #[]) (by simp[results,Tryz.results119,go_sem]) rfl ?_;rw[F.out];exact⟨(kh.below (by(repeat(first|exact iD _ _|refine iG ?_|refine iH ?_ (by first|omega|(simp only[iI,iJ,iK];omega)|simp) _|refine iL ?_ (by first|omega|simp) _|assumption))) o).trans u,⟨_,rfl⟩,r,y,l,fun e=>absurd e M.out⟩
    ·have g:ly p.au p.hold au id now s sent 2 d=.over true (sent++add):=by simp[ly,i,hm]
     rw[hm]at z;have F:Hid (_):=g;clear h a c f hd j i hm g;go_enter Tryz.func119,Tryz.ntmps119
     go_wp2_with (go_at_call 148;go_loud (refine js (z.out _ (by(repeat(first|exact iD _ _|refine iG ?_|refine iH ?_ (by first|omega|(simp only[iI,iJ,iK];omega)|simp) _|refine iL ?_ (by first|omega|simp) _|assumption)))) ?_);go_loud (rintro e w1 ⟨u,⟨v,rfl⟩,r,l⟩))
     refine iY (v:=.tuple #[]) (by simp[results,Tryz.results119,go_sem]) rfl ?_;rw[F.out];exact⟨(kh.below (by(repeat(first|exact iD _ _|refine iG ?_|refine iH ?_ (by first|omega|(simp only[iI,iJ,iK];omega)|simp) _|refine iL ?_ (by first|omega|simp) _|assumption))) o).trans u,⟨_,rfl⟩,r,l⟩
    ·have g:ly p.au p.hold au id now s sent 2 d=.bad t (sent++add):=by simp[ly,i,hm]
     rw[hm]at z;have F:Hid (_):=g;clear h a c f hd j i hm g;go_enter Tryz.func119,Tryz.ntmps119
     go_wp2_with (go_at_call 148;go_loud (refine js (z.out _ (by(repeat(first|exact iD _ _|refine iG ?_|refine iH ?_ (by first|omega|(simp only[iI,iJ,iK];omega)|simp) _|refine iL ?_ (by first|omega|simp) _|assumption)))) ?_);go_loud (rintro e w1 ⟨u,rfl,r,s1,y,l⟩))
     refine⟨rfl,?_⟩;rw[F.out];exact⟨(kh.below (by(repeat(first|exact iD _ _|refine iG ?_|refine iH ?_ (by first|omega|(simp only[iI,iJ,iK];omega)|simp) _|refine iL ?_ (by first|omega|simp) _|assumption))) o).trans u,rfl,r,s1,y,l⟩
  ·by_cases G:k=3
   ·subst G;have hm:ly p.au p.hold au id now s sent 3 d=.over false sent:=by simp[ly]
    rw[hm];obtain⟨pa,pl,pc,rfl⟩:=h.slice;have C:Hid (_):=h;have o:=h.ts.lt.2.2;have N:Hid (∀w',Below w.heap.size w w'→Calls Tryz.prog 149 #[.pointer (some ⟨tb,0,none⟩)] w' fun e m=>(∃v,e=.returned v)∧TS m base tb sb now sv sent false true (j5 au id p 0 0 0 0 (.slice none 0 0))∧Rest base tb sb w' m):=fun w' hB=>Ds (C.out.ts.below hB)
    clear h a c f hd j hm;go_enter Tryz.func119,Tryz.ntmps119
    go_wp2_with (go_at_call 149;go_loud (refine js (N.out _ (by(repeat(first|exact iD _ _|refine iG ?_|refine iH ?_ (by first|omega|(simp only[iI,iJ,iK];omega)|simp) _|refine iL ?_ (by first|omega|simp) _|assumption)))) ?_);go_loud (rintro e w1 ⟨⟨v,rfl⟩,l,u⟩))
    exact iY (v:=.tuple #[]) (by simp[results,Tryz.results119,go_sem]) rfl ⟨(kh.below (by(repeat(first|exact iD _ _|refine iG ?_|refine iH ?_ (by first|omega|(simp only[iI,iJ,iK];omega)|simp) _|refine iL ?_ (by first|omega|simp) _|assumption))) o).trans u.wide,⟨_,rfl⟩,sv,l⟩
   ·have hm:ly p.au p.hold au id now s sent k d=.go s sent:=by simp[ly,k1,k2,G]
    rw[hm];have O:(k == 1)=false:=by simpa using k1
    have R:(k == 2)=false:=by simpa using k2
    have S:(k == 3)=false:=by simpa using G
    clear h a c f hd j hm k1 k2 G;go_enter Tryz.func119,Tryz.ntmps119
    go_wp2_with fail
    exact iY (v:=.tuple #[]) (by simp[results,Tryz.results119,go_sem]) rfl (H.out _ _ (by(repeat(first|exact iD _ _|refine iG ?_|refine iH ?_ (by first|omega|(simp only[iI,iJ,iK];omega)|simp) _|refine iL ?_ (by first|omega|simp) _|assumption))))
end
end
section
open Go Go.RowKit
structure tA (t:lS):Prop where
 c:0≤t.c∧t.c<256
 s:0≤t.s∧t.s<256
 d:Bytes t.d
 l:t.d.length≤100
def wV (t:lS):List Int:=j9 3 (t.c::t.s::t.d)
theorem PQ(v:Value)(w:World):(Instr.typeAssert (.iface 215 v) 20 215 true).run Tryz.prog w=.ok (.tuple #[v,.bool true]) w:=by
 simp[Instr.typeAssert,gz,hY Tryz.underlying215]
variable {now au id:Int} {sent:List Int}
theorem PS{w:World}{base tb sb bx:Nat}{sv:Value}{cl ov:Bool}{p:Pz}{st hold heard spoke:Int}{pa:Option Addr}{pl pc:Nat}(h:TS w base tb sb now sv sent cl ov (j5 au id p st hold heard spoke (.slice pa pl pc)))(j:w.cell? ⟨bx,0,none⟩=some (.pointer (some ⟨tb,0,none⟩)))(t:lS)(a:tA t)(y:sent.length≤40000):CallsD Tryz.prog 116 #[.pointer (some ⟨bx,0,none⟩)] (.panicking ({ v:=t.val,recovered:=false }::[])) w fun e z w'=>e=.returned (.tuple #[])∧z=.panicking ({ v:=t.val,recovered:=true }::[])∧∃sv',TS w' base tb sb now sv' (sent++wV t) true true (j5 au id p 0 0 0 0 (.slice none 0 0))∧Rest base tb sb w w':=by
 have m:=h.lt.2.2;have HR:Hid (∀w',Below w.heap.size w w'→Calls Tryz.prog 117 #[.pointer (some ⟨tb,0,none⟩),t.agg] w' fun e f=>(∃v,e=.returned v)∧∃sv',TS f base tb sb now sv' (sent++wV t) true true (j5 au id p 0 0 0 0 (.slice none 0 0))∧Rest base tb sb w' f):=fun w' hB=>Dv (h.below hB) a.c a.s a.d (by have:=a.l;omega)
 have B:bx<w.heap.size:=ju _ _ j;clear h a y;obtain⟨c,s,d⟩:=t;refine callsD_of_wpS Tryz.func116 rfl fun g cs hu=>?_
 apply wpS_seq;apply wpS_region;simp[wpOpsS,go_sem,recoverD,hu,Tryz.ntmps116,Exit.thenS];refine wpS_of_wp ?_;have e:(#[Value.pointer (some ⟨bx,0,none⟩)]++(Array.replicate 12 undef).setIfInBounds 3 (lS.val ⟨c,s,d⟩):Array Value)=#[.pointer (some ⟨bx,0,none⟩),undef,undef,undef,.iface 215 (.agg #[.int .u8 c,.int .u8 s,.string (strOfNums d)]),undef,undef,undef,undef,undef,undef,undef,undef]:=by rfl
 rw[e];clear e;have C:=fun E=>PQ (.agg #[.int .u8 c,.int .u8 s,.string (strOfNums d)]) E
 go_wp2_with (go_at_call 117;go_loud (refine(HR.out _ (by(repeat(first|exact iD _ _|refine iG ?_|refine iH ?_ (by first|omega|(simp only[iI,iJ,iK];omega)|simp) _|refine iL ?_ (by first|omega|simp) _|assumption)))).mono ?_);go_loud (rintro e w3 ⟨⟨v3,rfl⟩,o,r,u⟩))
 have i:(∃x,TS w3 base tb sb now x (sent++wV ⟨c,s,d⟩) true true (j5 au id p 0 0 0 0 (.slice none 0 0)))∧Rest base tb sb w w3:=⟨⟨o,r⟩,(Rest.below (by(repeat(first|exact iD _ _|refine iG ?_|refine iH ?_ (by first|omega|(simp only[iI,iJ,iK];omega)|simp) _|refine iL ?_ (by first|omega|simp) _|assumption))) m).trans u⟩
 cases g
 simp[bodyPostS,results,Tryz.results116,go_sem];exact i
variable {xs:List Int}
theorem yk(h:Bytes xs)(n:Nat):Bytes (xs.take n):=fun x hx=>h x (iV hx)
theorem yl(h:Bytes xs)(n:Nat):Bytes (xs.drop n):=fun x hx=>h x (iW hx)
variable {t:lS}
theorem PU{h:List Int}(hb:Bytes h)(e:my h=some t):tA t:=by
 unfold my at e;split at e
 ·split at e
  ·cases e
   exact⟨by simp,by simp,yk (yl hb _) _,by simp;omega⟩
  ·split at e
   ·cases e
    exact⟨by simp,by simp,yk (yl hb _) _,by simp;omega⟩
   ·split at e
    ·cases e
    ·cases e
     exact⟨by simp,by simp,yk (yl hb _) _,by simp;omega⟩
 ·cases e
  exact⟨by simp,by simp,Bytes.nil,by simp⟩
variable {b:List Int} {A:Int}
theorem PV(e:nQ b A=some t):tA t:=by
 unfold nQ at e;split at e
 ·cases e;exact⟨by simp,by simp,yb _,by simp[p7]⟩
 ·split at e
  ·cases e;exact⟨by simp,by simp,Bytes.nil,by simp⟩
  ·split at e
   ·cases e;exact⟨by simp,by simp,Bytes.nil,by simp⟩
   ·split at e
    ·cases e;exact⟨by simp,by simp,Bytes.nil,by simp⟩
    ·split at e
     ·cases e;exact⟨by simp,by simp,Bytes.nil,by simp⟩
     ·cases e
variable {hd k:Int} {s:SV}
theorem PW{l:List Int}(h:lP A hd now s k b=.bad t l):tA t:=by
 unfold lP at h;split at h
 ·cases h;exact⟨by simp,by simp,Bytes.nil,by simp⟩
 ·split at h
  ·split at h
   ·rename_i e;cases h;exact PV e
   ·cases h
  ·split at h
   ·cases h
   ·split at h<;>cases h
variable {d:List Int}
theorem PY{ys:List Int}(h:oo xs)(hd:Bytes d)(a:0<d.length)(e:nP xs d=.bad t ys):tA t:=by
 obtain⟨k1,k2,f⟩:=AB h hd a;unfold nP qz at e;generalize xs++d.take (lN xs d)=g at e k1 k2 f;split at e
 ·rename_i c
  cases e
  split at c
  ·exact PU (yk k1 _) c
  ·cases c
 ·split at e<;>cases e
theorem PZ:∀(n:Nat)(s:SV)(acc d:List Int),oo s.part→s.st≠0→Bytes d→(s.st=1→acc=[])→acc.length≤19→(∀t a,lD A hd now n s acc d=.bad t a→tA t∧a.length≤19)∧(∀a,lD A hd now n s acc d=.shut a→a.length≤19):=by
 intro n
 induction n with
 |zero =>
  intro s acc d hp u g o l;exact⟨fun t a h=>(by simp[lD]at h),fun a h=>by simp[lD]at h⟩
 |succ n z =>
  intro s acc d hp u g o l
  by_cases c:d=[]
  ·rw[c,wL];exact⟨fun t a h=>(by cases h),fun a h=>by cases h⟩
  ·have i:0<d.length:=by cases d with|nil=>exact absurd rfl c|cons x xs=>simp
   have m:Bytes (d.drop (lN s.part d)):=yl g _;rcases j:nP s.part d with⟨t,ys⟩|⟨ys⟩|⟨k,b⟩
   ·rw[wM c j];exact⟨fun t' a h=>(by cases h;exact⟨PY hp g i j,l⟩),fun a h=>by cases h⟩
   ·rw[wN c j];exact z { s with part:=ys } acc _ (AD hp g i j) u m o l
   ·obtain⟨F,hb,_⟩:=AE hp g i j;rcases f:lP A hd now { s with part:=[] } k b with⟨s2,add⟩|⟨add⟩|⟨t,add⟩
    ·rw[wQ c j f];obtain⟨B,C,E⟩:=AF f;have y:s2.st≠0:=by
      unfold lP at f;split at f
      ·cases f
      ·split at f
       ·split at f<;>cases f
        simp
       ·split at f
        ·cases f;simp
        ·split at f<;>cases f
         exact u
     refine z s2 (acc++add) _ (by rw[B];exact wR) y m (fun e=>?_) ?_
     ·obtain⟨r1,r2⟩:=E e;rw[o r1,r2];rfl
     ·rcases C with⟨r1,_,r2⟩|r
      ·rw[o r1,ig];omega
      ·rw[r,gZ];exact l
    ·rw[wP c j f];exact⟨fun t a h=>(by cases h),fun a h=>by cases h;exact l⟩
    ·rw[wO c j f];exact⟨fun t' a h=>(by cases h;exact⟨PW f,l⟩),fun a h=>by cases h⟩
theorem ym(f:lV s)(a:sA s sent)(g:0≤hd∧hd≤65535)(i:kO now)(hb:Bytes d):(∀s' sent',ly A hd au id now s sent k d=.go s' sent'→lV s'∧sA s' sent')∧(∀t sent',ly A hd au id now s sent k d=.bad t sent'→tA t∧sent'.length≤100)∧(∀cl sent',ly A hd au id now s sent k d=.over cl sent'→sent'.length≤100):=by
 unfold ly
 by_cases k1:k=1
 ·simp only[k1,dg]
  by_cases c:s.st=0
  ·simp only[c,dg];refine⟨fun s' sent' h=>?_,fun t sent' h=>(by cases h),fun cl sent' h=>by cases h⟩
   cases h
   refine⟨⟨wR,by simp,fun e=>by simp at e,g,i,i⟩,fun e=>by simp at e,fun _=>?_,?_⟩
   ·rw[a.1 c];simp[wU,rM,p7,tq]
   ·rw[a.1 c];simp[wU,rM,p7,tq]
  ·simp only[c,dh];exact⟨fun s' sent' h=>(by cases h;exact⟨f,a⟩),fun t sent' h=>(by cases h),fun cl sent' h=>by cases h⟩
 ·simp only[k1,dh]
  by_cases k2:k=2
  ·simp only[k2,dg]
   by_cases c:s.st=0
   ·simp only[c,dg];exact⟨fun s' sent' h=>(by cases h;exact⟨f,a⟩),fun t sent' h=>(by cases h),fun cl sent' h=>by cases h⟩
   ·simp only[c,dh];obtain⟨l,m⟩:=PZ (A:=A) (hd:=hd) (now:=now) d.length s [] d f.part c hb (fun _=>rfl) (by simp);have B:=a.2.2;rcases hm:lD A hd now d.length s [] d with⟨s',add⟩|⟨add⟩|⟨t,add⟩
    ·refine⟨fun s2 sent' h=>?_,fun t sent' h=>(by simp at h),fun cl sent' h=>(by simp at h)⟩;simp only[TR.go.injEq]at h;obtain⟨rfl,rfl⟩:=h;obtain⟨r1,r2,o,r⟩:=PM g i d.length s [] d _ _ f c hb hm;refine⟨r1,fun e=>absurd e r2,fun e=>?_,?_⟩
     ·obtain⟨u,x⟩:=r e;rw[x,gZ];exact a.2.1 u
     ·rw[iF];rcases o with⟨y,_,z⟩|rfl
      ·have:=a.2.1 y;simp at z;omega
      ·simp;omega
    ·refine⟨fun s2 sent' h=>(by simp at h),fun t sent' h=>(by simp at h),fun cl sent' h=>?_⟩;simp only[TR.over.injEq]at h;obtain⟨_,rfl⟩:=h;have:=m _ hm;rw[iF];omega
    ·refine⟨fun s2 sent' h=>(by simp at h),fun t2 sent' h=>?_,fun cl sent' h=>(by simp at h)⟩;simp only[TR.bad.injEq]at h;obtain⟨rfl,rfl⟩:=h;obtain⟨r1,r2⟩:=l _ _ hm;refine⟨r1,?_⟩;rw[iF];omega
  ·simp only[k2,dh]
   by_cases j:k=3
   ·simp only[j,dg];exact⟨fun s' sent' h=>(by simp at h),fun t sent' h=>(by simp at h),fun cl sent' h=>by simp at h;rw[←h.2];have:=a.2.2;omega⟩
   ·simp only[j,dh];exact⟨fun s' sent' h=>(by simp at h;rw[←h.1,←h.2];exact⟨f,a⟩),fun t sent' h=>(by simp at h),fun cl sent' h=>by simp at h⟩
structure kC where
 pe:Int
 k:Int
 d:List Int
def runM (A hd au id now:Int):SV→List Int→List kC→TR
 |s,sent,[]=>.go s sent
 |s,sent,x::xs=>match ly A hd au id now s sent x.k x.d with
  | .go s' sent'=>runM A hd au id now s' sent' xs
  | .over cl sent'=>.over cl sent'
  | .bad t sent'=>.bad t sent'
def nH:SV:=⟨0,0,0,0,[]⟩
def oF:TR→SV×List Int×Bool
 | .go s sent=>(s,sent,false)
 | .over cl sent=>(nH,sent,cl)
 | .bad t sent=>(nH,sent++wV t,true)
def p9 (A hd au id now:Int) (s:SV) (ins:List kC):SV×List Int×Bool :=
 if pq s.st s.hold s.heard now then(nH,j9 3 [4,0],true)
 else if oY s.st s.hold s.spoke now then oF (runM A hd au id now { s with spoke:=now } (j9 4 []) ins)
 else oF (runM A hd au id now s [] ins)
theorem wW:lV nH:=⟨wR,by simp[nH],fun _=>rfl,by simp[nH],by simp[nH,kO],by simp[nH,kO]⟩
theorem Em(c:0≤hd∧hd≤65535)(i:kO now):∀(ins:List kC)(s:SV)(sent:List Int),lV s→sA s sent→(∀x∈ins,Bytes x.d)→lV (oF (runM A hd au id now s sent ins)).1∧(oF (runM A hd au id now s sent ins)).2.1.length≤1000:=by
 intro ins
 induction ins with
 |nil =>
  intro s sent e a _;exact⟨e,by have:=a.2.2;simp[runM,oF];omega⟩
 |cons x xs j =>
  intro s sent e a hb;obtain⟨m,o,r⟩:=ym (A:=A) (au:=au) (id:=id) (k:=x.k) e a c i (hb x (by simp));unfold runM;rcases f:ly A hd au id now s sent x.k x.d with⟨s',sent'⟩|⟨cl,sent'⟩|⟨t,sent'⟩
  ·obtain⟨g,h⟩:=m _ _ f;exact j s' sent' g h fun y u=>hb y (by simp[u])
  ·have:=r _ _ f;exact⟨wW,by simp[oF];omega⟩
  ·obtain⟨g,h⟩:=o _ _ f;refine⟨wW,?_⟩;have:=g.l;simp[oF,wV,rM];omega
theorem P2(a:0≤hd∧hd≤65535)(f:kO now)(c:lV s){ins:List kC}(hb:∀x∈ins,Bytes x.d):lV (p9 A hd au id now s ins).1:=by
 unfold p9;split
 ·exact wW
 ·split
  ·rename_i g;have h:s.st=2∨s.st=3:=by
    unfold oY at g;simp at g;exact g.1
   refine(Em a f ins { s with spoke:=now } (j9 4 []) ⟨c.part,c.st,fun e=>?_,c.hold,c.heard,f⟩ ⟨fun e=>?_,fun e=>?_,?_⟩ hb).1
   ·simp at e;omega
   ·simp at e;omega
   ·simp at e;omega
   ·simp[rM]
  ·exact(Em a f ins _ _ c ⟨fun _=>rfl,fun _=>by simp,by simp⟩ hb).1
end
end Go.Proofs.YtjnkcibpkkjniaaGreat
namespace Go.Proofs.YtjnkcibpkkjniaaGreat.kj
section
open Go Go.RowKit
def rP (ops:Array Oper) (ia:Nat) (mem:Nat→Bool):Bool:=(List.range ops.size).all fun j=>!mem j || (List.range ops.size).any fun k=>decide (j<k)&&(decide (k=ia) || mem k)&&match ops[k]? with|some o=>o.after.any fun e=>decide (e.on=j)&&Region.binds .any e|none=>false
variable {ops:Array Oper} {ia:Nat} {mem:Nat→Bool}
theorem P3(h:rP ops ia mem=true){j:Nat}(m:j<ops.size)(hm:mem j=true):∃k o,j<k∧(k=ia∨mem k=true)∧ops[k]?=some o∧∃e∈o.after,e.on=j∧Region.binds .any e=true:=by
 have c:=ek.1 h j (fZ.2 m);rw[hm]at c;simp only[Bool.not_true,Bool.false_or]at c;obtain⟨k,_,l⟩:=List.any_eq_true.1 c;simp only[eh,dZ,ed]at l;obtain⟨⟨r,u⟩,a⟩:=l
 cases f:ops[k]? with
 |none=>rw[f]at a;cases a
 |some o =>
  rw[f]at a;simp only at a;rw[Array.any_eq_true]at a;obtain⟨i,x,g⟩:=a;simp only[eh,ed]at g;exact⟨k,o,r,u,f,o.after[i],Array.getElem_mem x,g.1,g.2⟩
theorem mI.P4{D:List Deferred}{val:Nat→Value→World→Prop}{fix:List (Nat×Value)}{T:Nat}{listed:Array Bool}{a:Act}{w:World}(h:mI D ops val fix T listed a w)(c:rP ops ia mem=true)(l:listed.getD ia false=true):∀i,i<ops.size→mem i=true→listed.getD i false=true:=by
 have key:∀d i,i+d+1=ops.size→mem i=true→listed.getD i false=true:=by
  intro d
  induction d using Nat.strongRecOn with
  |_ d m =>
   intro i r hm
   ·obtain⟨k,o,z,f,g,e,u,x,y⟩:=P3 c (j:=i) (by omega) hm;have B:k<ops.size:=(dp.1 g).1;have:listed.getD k false=true:=by
     rcases f with rfl|f
     ·exact l
     ·exact m (ops.size-1-k) (by omega) k (by omega) f
    have:=h.pU k o g this e u y;rw[x]at this;exact this
 intro i r hm;exact key (ops.size-1-i) i (by omega) hm
section
variable {P:Program} {ops:Array Oper} {Q:Exit→Act→World→Prop} {val:Nat→Value→World→Prop} {fix:List (Nat×Value)} {T:Nat} {Post:Act→World→Prop} {n ia:Nat} {D:List Deferred} {mem:Nat→Bool} {A0 Rel:World→Prop}
theorem uC{id:Nat}{a:Act}{w:World}(hm:P.follows .mixedOrders=true)(m:kH ops (fix.map (·.1)) T=true)(M:lf ops=true)(hn:ops.size=n+1)(ai:ia<n)(N:rP ops ia mem=true)(G:∀w w' j u,Below w.heap.size w w'→val j u w→val j u w')(hA:∀w w',Below w.heap.size w w'→A0 w→A0 w')(hR:∀w w',Below w.heap.size w w'→Rel w→Rel w')(ab:∀(i:Nat)(o:Oper)(a:Act)(w:World),i<n→i≠ia→ops[i]?=some o→(∀x∈fix,a.tmps[x.1]?=some x.2)→(∀(j:Nat)(o':Oper)(d:Nat),ops[j]?=some o'→o'.dst=some d→(∃e∈o.after,e.on=j∧Region.binds .any e=true)→∃v,a.tmps[d]?=some v∧val j v w)→(mem i=true→A0 w)→Rel w →
   ∀K:Act→World→Prop,(∀v w',val i v w'→Below w.heap.size w w'→K (a.put o.dst v) w')→o.wp P a w K Q)(ad:∀(o:Oper)(a:Act)(w:World),ops[ia]?=some o→(∀x∈fix,a.tmps[x.1]?=some x.2)→(∀(j:Nat)(o':Oper)(d:Nat),ops[j]?=some o'→o'.dst=some d→(∃e∈o.after,e.on=j∧Region.binds .any e=true)→∃v,a.tmps[d]?=some v∧val j v w)→A0 w→Rel w →
   ∀K:Act→World→Prop,(∀v w',val ia v w'→(∀j u,j≠ia→val j u w→val j u w')→Rel w'→K (a.put o.dst v) w')→o.wp P a w K Q)(H:∀(o:Oper)(a:Act)(w:World),ops[n]?=some o→(∀x∈fix,a.tmps[x.1]?=some x.2)→(∀(j:Nat)(o':Oper)(d:Nat),ops[j]?=some o'→o'.dst=some d→(∃e∈o.after,e.on=j∧Region.binds .any e=true)→∃v,a.tmps[d]?=some v∧val j v w)→Rel w →
   ∀K:Act→World→Prop,(∀v w',Post (a.put o.dst v) w'→K (a.put o.dst v) w')→o.wp P a w K Q)(O:∀(a:Act)(w:World),a.defers=D→a.tmps.size=T→(∀x∈fix,a.tmps[x.1]?=some x.2)→Post a w→Q .normal a w)(hd:a.defers=D)(hs:a.tmps.size=T)(hf:∀x∈fix,a.tmps[x.1]?=some x.2)(h0:A0 { w with drawn:=w.drawn+1 }∧Rel { w with drawn:=w.drawn+1 }):(Code.region id ops true).wp P Q a w:=by
 have key:∀(fuel:Nat)(listed:Array Bool)(a:Act)(w:World),mI D ops val fix T listed a w→listed.getD n false=false→(listed.getD ia false=false→A0 w)→Rel w→mr ops listed≤fuel→wpAny P .any ops Q fuel listed a w:=by
  intro fuel
  induction fuel with
  |zero =>
   intro listed a w c h E r hu;have y:=ua (ops:=ops) (listed:=listed) (by omega);have:=y n (by omega);rw[h]at this
   cases this
  |succ fuel ih =>
   intro listed a w c h E r hu;refine⟨fun R=>?_,fun i I=>?_⟩
   ·have:=ub m c.ky R n (by omega);rw[h]at this
    cases this
   obtain⟨S,o,l,_⟩:=ga.1 I;have f:i<ops.size:=(dp.1 l).1;have g:listed.getD i false=false:=by
    have hsz:i<listed.size:=by rw[c.ky];exact f
    rw[du,dq hsz]at S ⊢;simpa using S
   unfold wpOp;rw[l];have hg:=(sR m l).2.2;have hw:Region.wanted o (yielded ops a.tmps)=true:=by simp[Region.wanted,hg]
   simp only[hw,dg]
   by_cases U:i=n
   ·subst U;refine .inl (H o a w l c.fix (fun j o' d F hd he=>c.dep l I F hd he) r _ fun v w' hP=>?_);have z:mI D ops (fun _ _ _=>True) fix T (listed.setIfInBounds i true) (a.put o.dst v) w' :=
     mI.put (val:=fun _ _ _=>True) (w:=w) m ⟨c.defers,c.size,c.fix,fun j o' d L h2 V=>by obtain⟨v,k1,_⟩:=c.val j o' d L h2 V;exact⟨v,k1,trivial⟩,c.ky,c.pU⟩ l I trivial (fun _ _ _ _=>trivial)
    have y:=z.all M hn (by rw[mg _ _ _ (by rw[c.ky];exact f)];simp);have hQ:=O _ _ z.defers z.size z.fix hP;have W:Region.ready .any ops (listed.setIfInBounds i true)=[]:=by
     cases hr:Region.ready .any ops (listed.setIfInBounds i true)with
     |nil=>rfl
     |cons x xs =>
      have hx:x∈Region.ready .any ops (listed.setIfInBounds i true):=by rw[hr];simp
      obtain⟨L,o2,ae,_⟩:=ga.1 hx;have X:x<ops.size:=(dp.1 ae).1;have V:=y x X;have af:x<(listed.setIfInBounds i true).size:=by rw[z.ky];exact X
      rw[du,dq af]at L V;simp only[ez]at L V;rw[V]at L
      cases L
    cases fuel with
    |zero=>exact⟨W,hQ⟩
    |succ fuel=>exact⟨fun _=>hQ,fun j F=>by rw[W]at F;cases F⟩
   have Y:∀(v:Bool),(listed.setIfInBounds i true).getD n false=false:=fun _=>by
    rw[mg _ _ _ (by rw[c.ky];exact f),dk (fun e=>U e.symm)];exact h
   by_cases B:i=ia
   ·subst B;refine .inl (ad o a w l c.fix (fun j o' d F hd he=>c.dep l I F hd he) (E g) r _ fun v w' hv ag Z=>?_);have:=qI f c.ky g;refine ih _ _ _ (c.put m l I hv fun j u aa=>ag j u fun e=>by subst e;rw[g]at aa;cases aa) (Y true) (fun C=>?_) Z (by omega);rw[mg _ _ _ (by rw[c.ky];exact f),dj rfl]at C
    cases C
   ·refine .inl (ab i o a w (by omega) B l c.fix (fun j o' d F hd he=>c.dep l I F hd he) (fun ah=>E ?_) r _ fun v w' hv J=>?_)
    ·cases hq:listed.getD ia false
     ·rfl
     ·have:=c.P4 N hq i f ah;rw[g]at this
      cases this
    have:=qI f c.ky g;refine ih _ _ _ (c.put m l I hv fun j u _=>G _ _ j u J) (Y true) (fun C=>hA _ _ J (E ?_)) (hR _ _ J r) (by omega);rw[mg _ _ _ (by rw[c.ky];exact f),dk (fun e=>B e.symm)]at C;exact C
 refine iB hm (key ops.size _ a _ ⟨hd,hs,hf,fun i o d _ h=>?_,by simp,fun i o _ h=>?_⟩ ?_ (fun _=>h0.1) h0.2 ?_)
 ·simp[du,dt]at h;split at h<;>simp at h
 ·simp[du,dt]at h;split at h<;>simp at h
 ·simp[du,dt];split<;>simp
 ·unfold mr;exact dz (gd _ _) (by simp)
end
end
end Go.Proofs.YtjnkcibpkkjniaaGreat.kj
namespace Go.Proofs.YtjnkcibpkkjniaaGreat
section
open Go Go.RowKit
theorem En{P:Program}{w:World}{ops:Array Oper}{rest:List Oper}{o:Oper}{a:Act}{Q:Exit→Act→World→Prop}(l:o.guard=none)(s x:Operand)(t:TypeId)(r:o.op=Op.call { callee:=Callee.builtin Builtin.append,args:=#[s,x],argTypes:=#[t,t] })(base:Nat)(e:TypeId)(i:TypeInfo)(z:Value)(size bytes:Nat)(B:P.underlying t=some (.slice e))(C:P.info? e=some i)(E:i.zero=some z)(F:i.size=size)(G:i.bytes=bytes)(H:z.cells.size=size)(I:0<size)(v:Value)(n:Nat)(xs:List Value)(J:a.eval s=v)(f:w.ownsRow base e size v n xs)(ad:Addr)(m c:Nat)(news:List Value)(hx:a.eval x=.slice (some ad) m c)(K:news.length=m*size)(L:∀j u,news[j]?=some u→w.cell? (ad.add j)=some u)(y:∀u∈news,u.oneCell'=true)(b1:n+m≤maxLen)(b2:(n+m)*bytes≤140737488355328)(hb:base≤w.heap.size)(h:∀v' w',w'.ownsRow base e size v' (n+m) (xs++news)→w.grownBy w' v.ownBlock→wpList P ops Q rest (a.put o.dst v') w'):wpList P ops Q (o::rest) a w :=
 wpList_plain l fun _ M=>by
  obtain⟨v',w',g,r1,r2,_⟩:=jv (P:=P) w base t o.type e i z size bytes B C E F G H I v n xs f ad m c news K L y b1 b2 hb;unfold Oper.wp execOp;simp only[r,resolve,invoke,builtin,gz,Sem.run_pure,Result.andThen_ok,et,gy,List.map_nil,J,hx,g];exact M _ _ (h v' w' r1 r2)
structure uD (e:TypeId) (i:TypeInfo) (z:Value) (sz bt:Nat):Prop where
 info:Tryz.prog.info? e=some i
 zero:i.zero=some z
 size:i.size=sz
 bytes:i.bytes=bt
 cells:z.cells.size=sz
theorem yn{e:TypeId}{size bytes:Nat}(h:((Tryz.prog.info? e).bind fun i=>i.zero.map fun z=>(i.size,i.bytes,z.cells.size))=some (size,bytes,size)):∃i z,uD e i z size bytes:=by
 cases a:Tryz.prog.info? e with
 |none=>rw[a]at h;cases h
 |some i =>
  rw[a]at h;simp only[dW]at h
  cases c:i.zero with
  |none=>rw[c]at h;cases h
  |some z =>
   rw[c]at h;simp only[dH,dR,eC]at h;exact⟨i,z,a,c,h.1,h.2.1,h.2.2⟩
theorem P5(now t:Int)(a:0≤now)(c:0≤t)(f:now+t≤1099511627776)(w:World):Calls Tryz.prog 33 #[.int .i64 now,.int .i64 t] w fun e w'=>e=.returned (.int .i64 (now+t))∧w'=w:=by
 have k1:¬t<0:=by omega
 have k2:wrap64 (1099511627776-now)=1099511627776-now:=by unfold wrap64;omega
 have g:¬1099511627776-now<t:=by omega
 have h:wrap64 (now+t)=now+t:=by unfold wrap64;omega
 go_enter Tryz.func33,Tryz.ntmps33
 go_wp2
 all_goals(exact iZ (v:=.int .i64 (now+t)) (by simp[results,Tryz.results33,go_sem]) rfl ⟨rfl,rfl⟩)
theorem P6(w:World)(xb xo:Nat)(st:Int)(h:w.cell? ⟨xb,xo+9,none⟩=some (.int .i64 st)):Calls Tryz.prog 38 #[.pointer (some ⟨xb,xo,none⟩)] w fun e w'=>e=.returned (.int .i64 st)∧w'=w:=by
 go_enter Tryz.func38,Tryz.ntmps38
 go_wp2
 go_ret;exact⟨rfl,rfl⟩
end
end Go.Proofs.YtjnkcibpkkjniaaGreat
namespace Go.Proofs.YtjnkcibpkkjniaaGreat.j7
section
open Go Go.Proofs.YtjnkcibpkkjniaaGreat
section
variable [Scope] {ρ:jR}
variable {v:Value}
theorem VR.qd{k:IntKind}{n:Int}(h:VR ρ (.int k n) v):v=.int k n:=by cases h;rfl
theorem VR.AG{b:Bool}{v:Value}(h:VR ρ (.bool b) v):v=.bool b:=by cases h;rfl
theorem VR.vo{a:Option Addr}{l c:Nat}{v:Value}(h:VR ρ (.slice a l c) v):∃a',v=.slice a' l c:=by cases h<;>exact⟨_,rfl⟩
theorem VR.P7{a:Addr}{l c:Nat}(h:VR ρ (.slice (some a) l c) v)(f:∀q,ρ a.block=some q→q.part=none):∃a',v=.slice (some a') l c∧AR ρ a a':=by
 cases h with
 |slice _ _ g=>exact⟨_,rfl,g⟩
 |mN _ e=>obtain⟨b,x,e⟩:=e;exact absurd (f _ e) (by simp)
theorem P8{C:Array Value}(h:C.size=14):∃c0 c1 c2 c3 c4 f g i j m a c e kJ,C=#[c0,c1,c2,c3,c4,f,g,i,j,m,a,c,e,kJ]:=by
 obtain⟨l⟩:=C
 match l,h with
 |[c0,c1,c2,c3,c4,f,g,i,j,m,a,c,e,kJ],_=>exact⟨_,_,_,_,_,_,_,_,_,_,_,_,_,_,rfl⟩
theorem HR.P9{w w':World}(h:HR ρ w w'){g:Nat}{pl:Place}(u:ρ g=some pl)(hp:pl.part=none){i:Nat}(j:w.cell? ⟨g,i,none⟩=some v):∃v',w'.cell? ⟨pl.block,i,none⟩=some v'∧VR ρ v v':=by
 obtain⟨o,o',l,x,m⟩:=h.obj g pl u;unfold lR at m;rw[hp]at m
 cases m with
 | @cells c C e fr a =>
  have r:c[i]?=some v:=by simpa[World.cell?,l]using j
  obtain⟨v',f⟩:=ox a.size r;exact⟨v',by simpa[World.cell?,x]using f,a.get i v v' r f⟩
 |map _ _=>simp[World.cell?,l]at j
 |number _=>simp[World.cell?,l]at j
end
def mJ (w:World) (v:Value) (xs:List Int):Prop :=
 ∃c,(xs=[]∧∃ao,v=.slice ao 0 c)∨∃g,v=.slice (some ⟨g,0,none⟩) xs.length c∧xs.length≤c∧∀i (hi:i<xs.length),w.cell? ⟨g,i,none⟩=some (.int .u8 xs[i])
theorem mJ.keep{w w':World}{v:Value}{xs:List Int}(h:mJ w v xs)(k:∀b v i,w.cell? ⟨b,i,none⟩=some v→w'.cell? ⟨b,i,none⟩=some v):mJ w' v xs:=by
 obtain⟨c,h|⟨g,a,e,f⟩⟩:=h
 ·exact⟨c,.inl h⟩
 ·exact⟨c,.inr ⟨g,a,e,fun i j=>k _ _ _ (f i j)⟩⟩
section
variable [Scope]
end
end
end Go.Proofs.YtjnkcibpkkjniaaGreat.j7
namespace Go.Proofs.YtjnkcibpkkjniaaGreat
section
open Go Go.RowKit
open Go.Proofs.YtjnkcibpkkjniaaGreat.j7 (mJ)
theorem Qa:∃i z,uD 41 i z 3 32:=yn (by kernel_rfl)
end
section
open Go Go.RowKit
theorem Qb:∃i z,uD 43 i z 3 32:=yn (by kernel_rfl)
variable {P:Program} {w:World}
theorem Eo(Q:Value→Prop)(base:Nat)(t ty e:TypeId)(i:TypeInfo)(z:Value)(size bytes:Nat)(N:P.underlying t=some (.slice e))(O:P.info? e=some i)(U:i.zero=some z)(r:i.size=size)(G:i.bytes=bytes)(V:z.cells.size=size)(hsz:0<size)(v:Value)(n:Nat)(xs:List Value)(o:w.ownsRow base e size v n xs)(a:Addr)(m c:Nat)(news:List Value)(H:news.length=m*size)(h:∀j u,news[j]?=some u→w.cell? (a.add j)=some u)(Y:∀u∈news,u.oneCell'=true)(y:n+m≤maxLen)(l:(n+m)*bytes≤140737488355328)(B:base≤w.heap.size)(I:∀u∈z.cells.toList,Q u)(C:∀u∈news,Q u)(J:kS Q w v):∃v' w',(Builtin.append_ #[t,t] ty #[v,.slice (some a) m c]).run P w=.ok v' w'∧w'.ownsRow base e size v' (n+m) (xs++news)∧w.grownBy w' v.ownBlock∧kS Q w' v'∧(v'.ownBlock=v.ownBlock∨v'.ownBlock=some w.heap.size):=by
 obtain⟨v',w',hr,Z,h3,h4⟩:=jv (P:=P) w base t ty e i z size bytes N O U r G V hsz v n xs o a m c news H h Y y l B;refine⟨v',w',hr,Z,h3,?_⟩;subst r;subst G;rcases o.2 with⟨rfl,rfl⟩|⟨g,cap,cur,rfl,aa,R,ab,ad,W,E⟩
 ·by_cases hm:m=0
  ·subst hm;have:v'=.slice none 0 0:=h4.2 ⟨rfl,rfl⟩;subst this;exact⟨kS.nil _ _,.inl rfl⟩
  ·have f:=run_append_nil (P:=P) w t ty e i z N O U a m c news H h (by omega) (by have:=y;simp only[maxLen]at this;omega) (by have hb:=l;simp only[dB]at hb;omega);rw[hr]at f;simp only[jw]at f;obtain⟨rfl,rfl⟩:=f;refine⟨fun k cur ty fr K F u hu=>?_,.inr rfl⟩
   cases K
   have X:=(iN w.drew _).symm.trans F
   cases X
   simp only[iP,gQ]at hu;rcases hu with hu|hu
   ·exact C u hu
   ·exact I u (wC (by omega) hu)
 ·by_cases x:n+m≤cap
  ·have L:n*i.size+news.length≤cur.size:=by rw[H,W,←dX];exact ef _ x
   have f:=run_append_room (P:=P) w t ty e i N O g n cap cur R a m c news H h Y x L;rw[hr]at f;simp only[jw]at f;obtain⟨rfl,rfl⟩:=f;have S:=J g cur e (0,0) rfl R;refine⟨fun k M pg fr K F u hu=>?_,.inl rfl⟩
   cases K
   rw[setRow_heap w g cur _ e _ R]at F
   cases F
   simp only[gQ]at hu;rcases hu with(hu|hu)|hu
   ·exact S u (iV hu)
   ·exact C u hu
   ·exact S u (iW hu)
  ·have holds:∀j u,xs[j]?=some u→w.cell? ((⟨g,0,none⟩:Addr).add j)=some u:=o.cells (g:=g) rfl;have f:=run_append_grow (P:=P) w t ty e i z N O U ⟨g,0,none⟩ n cap xs o.1 holds a m c news H h (by omega) (by have:=y;simp only[maxLen]at this;omega) (growslice_fits (by omega) l);rw[hr]at f;simp only[jw]at f;obtain⟨rfl,rfl⟩:=f;have S:=J g cur e (0,0) rfl R;refine⟨fun k M pg fr K F u hu=>?_,.inr rfl⟩
   cases K
   have X:=(iN w.drew _).symm.trans F
   cases X
   simp only[iP,gQ]at hu;rcases hu with(hu|hu)|hu
   ·rw[←E]at hu;exact S u (iV hu)
   ·exact C u hu
   ·exact I u (wC (by omega) hu)
theorem Qc{ops:Array Oper}{rest:List Oper}{o:Oper}{a:Act}{Q:Exit→Act→World→Prop}(r:o.guard=none)(s x:Operand)(t:TypeId)(y:o.op=Op.call { callee:=Callee.builtin Builtin.append,args:=#[s,x],argTypes:=#[t,t] })(f:Value→Prop)(base:Nat)(e:TypeId)(i:TypeInfo)(z:Value)(size bytes:Nat)(C:P.underlying t=some (.slice e))(E:P.info? e=some i)(F:i.zero=some z)(G:i.size=size)(H:i.bytes=bytes)(I:z.cells.size=size)(J:0<size)(v:Value)(n:Nat)(xs:List Value)(K:a.eval s=v)(g:w.ownsRow base e size v n xs)(ad:Addr)(m c:Nat)(news:List Value)(hx:a.eval x=.slice (some ad) m c)(L:news.length=m*size)(M:∀j u,news[j]?=some u→w.cell? (ad.add j)=some u)(B:∀u∈news,u.oneCell'=true)(b1:n+m≤maxLen)(b2:(n+m)*bytes≤140737488355328)(hb:base≤w.heap.size)(N:∀u∈z.cells.toList,f u)(O:∀u∈news,f u)(R:kS f w v)(h:∀v' w',w'.ownsRow base e size v' (n+m) (xs++news)→w.grownBy w' v.ownBlock→kS f w' v'→(v'.ownBlock=v.ownBlock∨v'.ownBlock=some w.heap.size)→wpList P ops Q rest (a.put o.dst v') w'):wpList P ops Q (o::rest) a w :=
 wpList_plain r fun _ S=>by
  obtain⟨v',w',l,r1,r2,U,V⟩:=Eo (P:=P) f base t o.type e i z size bytes C E F G H I J v n xs g ad m c news L M B b1 b2 hb N O R;unfold Oper.wp execOp;simp only[y,resolve,invoke,builtin,gz,Sem.run_pure,Result.andThen_ok,et,gy,List.map_nil,K,hx,l];exact S _ _ (h v' w' r1 r2 U V)
end
section
open Go Go.RowKit
open Go.Proofs.YtjnkcibpkkjniaaGreat.kj (kH lf nO)
structure pI (w:World) (ib io:Nat) (pe k:Int) (s:List Int):Prop where
 pe:w.cell? ⟨ib,io,none⟩=some (.int .i64 pe)
 k:w.cell? ⟨ib,io+1,none⟩=some (.int .i64 k)
 s:w.cell? ⟨ib,io+2,none⟩=some (.string (strOfNums s))
variable {ib io:Nat} {pe:Int} {s:List Int}
theorem pI.keep{w w':World}{k:Int}(h:pI w ib io pe k s)(e:w'.heap[ib]?=w.heap[ib]?):pI w' ib io pe k s:=by
 have c:∀o,w'.cell? ⟨ib,o,none⟩=w.cell? ⟨ib,o,none⟩:=fun o=>by simp[World.cell?,e]
 exact⟨(c _).trans h.pe,(c _).trans h.k,(c _).trans h.s⟩
def qe (tb ib io n cp:Nat) (pe kd:Int) (s:List Int) (j:Nat):Nat→Value→World→Prop
 |0,v,_=>v=.pointer (some ⟨tb,0,none⟩)
 |1,v,_=>v=.slice (some ⟨ib,io,none⟩) n cp
 |2,v,_=>v=.int .i64 j
 |3,v,_=>v=.pointer (some ⟨ib,io+3*j,none⟩)
 |4,v,_=>v=.agg #[.int .i64 pe,.int .i64 kd,.string (strOfNums s)]
 |_,_,_=>True
theorem Qd{tb n a:Nat}{kd:Int}{j:Nat}(w w':World)(i:Nat)(u:Value)(hB:Below w.heap.size w w')(h:qe tb ib io n a pe kd s j i u w):qe tb ib io n a pe kd s j i u w':=by
 unfold qe at h ⊢;split at h<;>exact h
noncomputable def rQ:Array Oper:=((Tryz.f79.body).bind (opsOf 6)).getD #[]
theorem Qe:kH rQ [1,2,4] 27=true:=by kernel_rfl
theorem Qf:lf rQ=true:=by kernel_rfl
theorem Qg:rQ.size=6:=by kernel_rfl
end
end Go.Proofs.YtjnkcibpkkjniaaGreat
