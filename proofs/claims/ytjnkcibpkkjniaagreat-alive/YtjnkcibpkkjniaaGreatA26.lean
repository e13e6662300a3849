import Derived.Test.YtjnkcibpkkjniaaGreatA25
set_option linter.unusedVariables false
set_option linter.unusedSimpArgs false
set_option linter.unusedSectionVars false
namespace Go.Proofs.YtjnkcibpkkjniaaGreat.Pool
open Go Go.Conc Go.RowKit Go.Proofs.YtjnkcibpkkjniaaGreat.Sim
set_option maxRecDepth 20000
set_option maxHeartbeats 2000000
theorem GX.callMet {cs:List Frame} {Q:Frame→List Frame→World→Prop} {b:Frame} {a:Act} {ops:Array Oper} {i:Nat} {l:List Nat} {k:List Item} {xs:List Frame} {w:World} {o:Oper} (ho:ops[i]? = some o) (hw:Region.wanted o (yielded ops a.tmps)=true) {x y z u:Operand} {ats:Array TypeId}
  (hop:o.op=.call { callee:=.value (.func 14),args:=#[x,y,z,u],argTypes:=ats }) (hargs:(#[x,y,z,u]:Array Operand).all (@okOperand scopeM)=true) {v0 v1 v2 v3:Value} (h0:a.eval x=v0) (h1:a.eval y=v1) (h2:a.eval z=v2) (h3:a.eval u=v3)
  (h:GX cs Q ((base 14).at { tmps:=#[v0,v1,v2,v3]++Array.replicate 79 undef,defers:=[] } [.code (Tryz.f14.body.getD .skip)]) (b.at a (.inRegion ops (i::l)::k)::xs) w) (m0:isMk v0=false:=by rfl) (m1:isMk v1=false:=by rfl) (m2:isMk v2=false:=by rfl) (m3:isMk v3=false:=by rfl):GX cs Q (b.at a (.inRegion ops (i::l)::k)) xs w:=by
 have hma:noMkL #[x,y,z,u] a.eval=true:=by simp [noMkL,h0,h1,h2,h3,m0,m1,m2,m3]
 refine GX.callX (hma:=hma) ho hw hop hargs Tryz.func14 rfl rfl ?_
 have e:(#[x,y,z,u]:Array Operand).map a.eval=#[v0,v1,v2,v3]:=by simp [h0,h1,h2,h3]
 rw [e]
 exact h
theorem arr95 {C:Array Value} (h:C.size=95):∃ k0 k1 k2 k3 k4 k5 k6 k7 k8 k9 k10 k11 k12 k13 k14 k15 k16 k17 k18 k19 k20 k21 k22 k23 k24 k25 k26 k27 k28 k29 k30 k31 k32 k33 k34 k35 k36 k37 k38 k39 k40 k41 k42 k43 k44 k45 k46 k47 k48 k49 k50 k51 k52 k53 k54 k55 k56 k57 k58 k59 k60 k61 k62 k63 k64 k65 k66 k67 k68 k69 k70 k71 k72 k73 k74 k75 k76 k77 k78 k79 k80 k81 k82 k83 k84 k85 k86 k87 k88 k89 k90 k91 k92 k93 k94,C=#[k0,k1,k2,k3,k4,k5,k6,k7,k8,k9,k10,k11,k12,k13,k14,k15,k16,k17,k18,k19,k20,k21,k22,k23,k24,k25,k26,k27,k28,k29,k30,k31,k32,k33,k34,k35,k36,k37,k38,k39,k40,k41,k42,k43,k44,k45,k46,k47,k48,k49,k50,k51,k52,k53,k54,k55,k56,k57,k58,k59,k60,k61,k62,k63,k64,k65,k66,k67,k68,k69,k70,k71,k72,k73,k74,k75,k76,k77,k78,k79,k80,k81,k82,k83,k84,k85,k86,k87,k88,k89,k90,k91,k92,k93,k94]:=by
 obtain ⟨l⟩:=C
 match l,h with
 | k0::k1::k2::k3::k4::k5::k6::k7::k8::k9::k10::k11::k12::k13::k14::k15::k16::k17::k18::k19::k20::k21::k22::k23::k24::k25::k26::k27::k28::k29::k30::k31::k32::k33::k34::k35::k36::k37::k38::k39::k40::k41::k42::k43::k44::k45::k46::k47::k48::k49::k50::k51::k52::k53::k54::k55::k56::k57::k58::k59::k60::k61::k62::k63::k64::k65::k66::k67::k68::k69::k70::k71::k72::k73::k74::k75::k76::k77::k78::k79::k80::k81::k82::k83::k84::k85::k86::k87::k88::k89::k90::k91::k92::k93::k94::[],_=>exact ⟨_,_,_,_,_,_,_,_,_,_,_,_,_,_,_,_,_,_,_,_,_,_,_,_,_,_,_,_,_,_,_,_,_,_,_,_,_,_,_,_,_,_,_,_,_,_,_,_,_,_,_,_,_,_,_,_,_,_,_,_,_,_,_,_,_,_,_,_,_,_,_,_,_,_,_,_,_,_,_,_,_,_,_,_,_,_,_,_,_,_,_,_,_,_,_,rfl⟩
end Go.Proofs.YtjnkcibpkkjniaaGreat.Pool
