import Derived.Test.YtjnkcibpkkjniaaGreatA00
import Derived.Test.YtjnkcibpkkjniaaGreatA05
import Derived.Test.YtjnkcibpkkjniaaGreatChecked
set_option linter.all false
namespace Go.Proofs.YtjnkcibpkkjniaaGreat.j7
section
open Go Go.Proofs
def isChan (P:Program) (t:TypeId):Bool:=match P.underlying t with|some (.chan _ _)=>true|_=>false
theorem CU:((Tryz.prog.info? 0).map fun i=>(i.methods.find? (·.name == "")).isNone)=some true:=by kernel_rfl
theorem CV:Tryz.prog.types.all pn=true:=by kernel_rfl
def wi:List FuncId:=[38,41,60,79,116,117,118,119,140,141,142,143,144,145,146,147,148,149,154,155,156,157,158,164,165,166,167,168,169,170,171,172,173,174,175,176,177,178,179]
@[reducible] noncomputable def jY:Scope:={ ok:=fun f=>wi.contains f,base:=Tryz.prog.globals.size,cells:=fun t=>Tryz.prog.cellsOf t,sync:=false,chans:=isChan Tryz.prog }
theorem KH:@jX jY Tryz.prog 38=true:=by kernel_rfl
theorem KI:@jX jY Tryz.prog 41=true:=by kernel_rfl
theorem KJ:@jX jY Tryz.prog 60=true:=by kernel_rfl
theorem KL:@jX jY Tryz.prog 79=true:=by kernel_rfl
theorem KM:@jX jY Tryz.prog 116=true:=by kernel_rfl
theorem KN:@jX jY Tryz.prog 117=true:=by kernel_rfl
theorem KO:@jX jY Tryz.prog 118=true:=by kernel_rfl
theorem KQ:@jX jY Tryz.prog 119=true:=by kernel_rfl
theorem KR:@jX jY Tryz.prog 140=true:=by kernel_rfl
theorem KS:@jX jY Tryz.prog 141=true:=by kernel_rfl
theorem KT:@jX jY Tryz.prog 142=true:=by kernel_rfl
theorem KU:@jX jY Tryz.prog 143=true:=by kernel_rfl
theorem KV:@jX jY Tryz.prog 144=true:=by kernel_rfl
theorem KX:@jX jY Tryz.prog 145=true:=by kernel_rfl
theorem KY:@jX jY Tryz.prog 146=true:=by kernel_rfl
theorem KZ:@jX jY Tryz.prog 147=true:=by kernel_rfl
theorem K0:@jX jY Tryz.prog 148=true:=by kernel_rfl
theorem K1:@jX jY Tryz.prog 149=true:=by kernel_rfl
theorem K3:@jX jY Tryz.prog 154=true:=by kernel_rfl
theorem K4:@jX jY Tryz.prog 155=true:=by kernel_rfl
theorem K7:@jX jY Tryz.prog 156=true:=by kernel_rfl
theorem K8:@jX jY Tryz.prog 157=true:=by kernel_rfl
theorem K9:@jX jY Tryz.prog 158=true:=by kernel_rfl
theorem La:@jX jY Tryz.prog 164=true:=by kernel_rfl
theorem Lb:@jX jY Tryz.prog 165=true:=by kernel_rfl
theorem Lc:@jX jY Tryz.prog 166=true:=by kernel_rfl
theorem Ld:@jX jY Tryz.prog 167=true:=by kernel_rfl
theorem Le:@jX jY Tryz.prog 168=true:=by kernel_rfl
theorem Lf:@jX jY Tryz.prog 169=true:=by kernel_rfl
theorem Lg:@jX jY Tryz.prog 170=true:=by kernel_rfl
theorem Lh:@jX jY Tryz.prog 171=true:=by kernel_rfl
theorem Li:@jX jY Tryz.prog 172=true:=by kernel_rfl
theorem Lj:@jX jY Tryz.prog 173=true:=by kernel_rfl
theorem Lk:@jX jY Tryz.prog 174=true:=by kernel_rfl
theorem Ll:@jX jY Tryz.prog 175=true:=by kernel_rfl
theorem Lm:@jX jY Tryz.prog 176=true:=by kernel_rfl
theorem Ln:@jX jY Tryz.prog 177=true:=by kernel_rfl
theorem Lo:@jX jY Tryz.prog 178=true:=by kernel_rfl
theorem Lp:@jX jY Tryz.prog 179=true:=by kernel_rfl
theorem Lq:wi.all (@jX jY Tryz.prog)=true:=by
 simp only[wi,eu,List.all_nil,Bool.and_true,KH,KI,KJ,KL,KM,KN,KO,KQ,KR,KS,KT,KU,KV,KX,KY,KZ,K0,K1,K3,K4,K7,K8,K9,La,Lb,Lc,Ld,Le,Lf,Lg,Lh,Li,Lj,Lk,Ll,Lm,Ln,Lo,Lp]
theorem CW:@lu jY Tryz.prog:=@B5 jY Tryz.prog wi (fun f a=>iA.1 a) Lq
theorem CX:@ki jY Tryz.prog:=@B4 jY Tryz.prog CV (dx _) (fun _=>rfl) CU (fun t d e h=>by show isChan Tryz.prog t=true;unfold isChan;rw[h])
def wm:List FuncId:=[12,13,15,16,18,19,20,22,23,24,26,27,28,29,30,31,32,33,34,36,37,38,39,40,41,43,44,45,47,48,49,50,51,52,53,54,55,56,57,60,64,65,66,67,68,69,70,71,72,73,74,79,90,91,92,93,94,95,96,97,98,99,100,101,102,103,104,105,106,107,116,117,118,119,122,123,124,125,126,127,128,129,130,131,132,133,134,135,136,140,141,142,143,144,145,146,147,148,149,150,151,152,153,154,155,156,157,158,159,160,161,162,163,164,165,166,167,168,169,170,171,172,173,174,175,176,177,178,179]
@[reducible] noncomputable def jT:Scope:={ ok:=fun f=>wm.contains f,base:=Tryz.prog.globals.size,cells:=fun t=>Tryz.prog.cellsOf t,sync:=true,chans:=isChan Tryz.prog }
theorem Lr:@jX jT Tryz.prog 12=true:=by kernel_rfl
theorem Ls:@jX jT Tryz.prog 13=true:=by kernel_rfl
theorem Lt:@jX jT Tryz.prog 15=true:=by kernel_rfl
theorem Lu:@jX jT Tryz.prog 16=true:=by kernel_rfl
theorem Lv:@jX jT Tryz.prog 18=true:=by kernel_rfl
theorem Lw:@jX jT Tryz.prog 19=true:=by kernel_rfl
theorem Lx:@jX jT Tryz.prog 20=true:=by kernel_rfl
theorem Ly:@jX jT Tryz.prog 22=true:=by kernel_rfl
theorem Lz:@jX jT Tryz.prog 23=true:=by kernel_rfl
theorem LA:@jX jT Tryz.prog 24=true:=by kernel_rfl
theorem LB:@jX jT Tryz.prog 26=true:=by kernel_rfl
theorem LC:@jX jT Tryz.prog 27=true:=by kernel_rfl
theorem LD:@jX jT Tryz.prog 28=true:=by kernel_rfl
theorem LF:@jX jT Tryz.prog 29=true:=by kernel_rfl
theorem LG:@jX jT Tryz.prog 30=true:=by kernel_rfl
theorem LH:@jX jT Tryz.prog 31=true:=by kernel_rfl
theorem LI:@jX jT Tryz.prog 32=true:=by kernel_rfl
theorem LJ:@jX jT Tryz.prog 33=true:=by kernel_rfl
theorem LK:@jX jT Tryz.prog 34=true:=by kernel_rfl
theorem LL:@jX jT Tryz.prog 36=true:=by kernel_rfl
theorem LM:@jX jT Tryz.prog 37=true:=by kernel_rfl
theorem LN:@jX jT Tryz.prog 38=true:=by kernel_rfl
theorem LO:@jX jT Tryz.prog 39=true:=by kernel_rfl
theorem LP:@jX jT Tryz.prog 40=true:=by kernel_rfl
theorem LQ:@jX jT Tryz.prog 41=true:=by kernel_rfl
theorem LR:@jX jT Tryz.prog 43=true:=by kernel_rfl
theorem LS:@jX jT Tryz.prog 44=true:=by kernel_rfl
theorem LU:@jX jT Tryz.prog 45=true:=by kernel_rfl
theorem LV:@jX jT Tryz.prog 47=true:=by kernel_rfl
theorem LW:@jX jT Tryz.prog 48=true:=by kernel_rfl
theorem LX:@jX jT Tryz.prog 49=true:=by kernel_rfl
theorem LY:@jX jT Tryz.prog 50=true:=by kernel_rfl
theorem LZ:@jX jT Tryz.prog 51=true:=by kernel_rfl
theorem L1:@jX jT Tryz.prog 52=true:=by kernel_rfl
theorem L2:@jX jT Tryz.prog 53=true:=by kernel_rfl
theorem L3:@jX jT Tryz.prog 54=true:=by kernel_rfl
theorem L4:@jX jT Tryz.prog 55=true:=by kernel_rfl
theorem L5:@jX jT Tryz.prog 56=true:=by kernel_rfl
theorem L6:@jX jT Tryz.prog 57=true:=by kernel_rfl
theorem L8:@jX jT Tryz.prog 60=true:=by kernel_rfl
theorem L9:@jX jT Tryz.prog 64=true:=by kernel_rfl
theorem Ma:@jX jT Tryz.prog 65=true:=by kernel_rfl
theorem Mb:@jX jT Tryz.prog 66=true:=by kernel_rfl
theorem Mc:@jX jT Tryz.prog 67=true:=by kernel_rfl
theorem Md:@jX jT Tryz.prog 68=true:=by kernel_rfl
theorem Me:@jX jT Tryz.prog 69=true:=by kernel_rfl
theorem Mf:@jX jT Tryz.prog 70=true:=by kernel_rfl
theorem Mg:@jX jT Tryz.prog 71=true:=by kernel_rfl
theorem Mh:@jX jT Tryz.prog 72=true:=by kernel_rfl
theorem Mi:@jX jT Tryz.prog 73=true:=by kernel_rfl
theorem Mj:@jX jT Tryz.prog 74=true:=by kernel_rfl
theorem Mk:@jX jT Tryz.prog 79=true:=by kernel_rfl
theorem Ml:@jX jT Tryz.prog 90=true:=by kernel_rfl
theorem Mm:@jX jT Tryz.prog 91=true:=by kernel_rfl
theorem Mn:@jX jT Tryz.prog 92=true:=by kernel_rfl
theorem Mo:@jX jT Tryz.prog 93=true:=by kernel_rfl
theorem Mp:@jX jT Tryz.prog 94=true:=by kernel_rfl
theorem Mq:@jX jT Tryz.prog 95=true:=by kernel_rfl
theorem Mr:@jX jT Tryz.prog 96=true:=by kernel_rfl
theorem Ms:@jX jT Tryz.prog 97=true:=by kernel_rfl
theorem Mt:@jX jT Tryz.prog 98=true:=by kernel_rfl
theorem Mu:@jX jT Tryz.prog 99=true:=by kernel_rfl
theorem Mv:@jX jT Tryz.prog 100=true:=by kernel_rfl
theorem Mw:@jX jT Tryz.prog 101=true:=by kernel_rfl
theorem Mx:@jX jT Tryz.prog 102=true:=by kernel_rfl
theorem My:@jX jT Tryz.prog 103=true:=by kernel_rfl
theorem Mz:@jX jT Tryz.prog 104=true:=by kernel_rfl
theorem MA:@jX jT Tryz.prog 105=true:=by kernel_rfl
theorem MB:@jX jT Tryz.prog 106=true:=by kernel_rfl
theorem MC:@jX jT Tryz.prog 107=true:=by kernel_rfl
theorem MD:@jX jT Tryz.prog 116=true:=by kernel_rfl
theorem ME:@jX jT Tryz.prog 117=true:=by kernel_rfl
theorem MG:@jX jT Tryz.prog 118=true:=by kernel_rfl
theorem MH:@jX jT Tryz.prog 119=true:=by kernel_rfl
theorem MI:@jX jT Tryz.prog 122=true:=by kernel_rfl
theorem MJ:@jX jT Tryz.prog 123=true:=by kernel_rfl
theorem MK:@jX jT Tryz.prog 124=true:=by kernel_rfl
theorem ML:@jX jT Tryz.prog 125=true:=by kernel_rfl
theorem MM:@jX jT Tryz.prog 126=true:=by kernel_rfl
theorem MN:@jX jT Tryz.prog 127=true:=by kernel_rfl
theorem MO:@jX jT Tryz.prog 128=true:=by kernel_rfl
theorem MP:@jX jT Tryz.prog 129=true:=by kernel_rfl
theorem MQ:@jX jT Tryz.prog 130=true:=by kernel_rfl
theorem MS:@jX jT Tryz.prog 131=true:=by kernel_rfl
theorem MT:@jX jT Tryz.prog 132=true:=by kernel_rfl
theorem MU:@jX jT Tryz.prog 133=true:=by kernel_rfl
theorem MV:@jX jT Tryz.prog 134=true:=by kernel_rfl
theorem MW:@jX jT Tryz.prog 135=true:=by kernel_rfl
theorem MX:@jX jT Tryz.prog 136=true:=by kernel_rfl
theorem MY:@jX jT Tryz.prog 140=true:=by kernel_rfl
theorem MZ:@jX jT Tryz.prog 141=true:=by kernel_rfl
theorem M0:@jX jT Tryz.prog 142=true:=by kernel_rfl
theorem M1:@jX jT Tryz.prog 143=true:=by kernel_rfl
theorem M3:@jX jT Tryz.prog 144=true:=by kernel_rfl
theorem M4:@jX jT Tryz.prog 145=true:=by kernel_rfl
theorem M5:@jX jT Tryz.prog 146=true:=by kernel_rfl
theorem M6:@jX jT Tryz.prog 147=true:=by kernel_rfl
theorem M7:@jX jT Tryz.prog 148=true:=by kernel_rfl
theorem M8:@jX jT Tryz.prog 149=true:=by kernel_rfl
theorem M9:@jX jT Tryz.prog 150=true:=by kernel_rfl
theorem Na:@jX jT Tryz.prog 151=true:=by kernel_rfl
theorem Nb:@jX jT Tryz.prog 152=true:=by kernel_rfl
theorem Nc:@jX jT Tryz.prog 153=true:=by kernel_rfl
theorem Nd:@jX jT Tryz.prog 154=true:=by kernel_rfl
theorem Nf:@jX jT Tryz.prog 155=true:=by kernel_rfl
theorem Ng:@jX jT Tryz.prog 156=true:=by kernel_rfl
theorem Nh:@jX jT Tryz.prog 157=true:=by kernel_rfl
theorem Ni:@jX jT Tryz.prog 158=true:=by kernel_rfl
theorem Nj:@jX jT Tryz.prog 159=true:=by kernel_rfl
theorem Nk:@jX jT Tryz.prog 160=true:=by kernel_rfl
theorem Nl:@jX jT Tryz.prog 161=true:=by kernel_rfl
theorem Np:@jX jT Tryz.prog 162=true:=by kernel_rfl
theorem Nq:@jX jT Tryz.prog 163=true:=by kernel_rfl
theorem Nr:@jX jT Tryz.prog 164=true:=by kernel_rfl
theorem Ns:@jX jT Tryz.prog 165=true:=by kernel_rfl
theorem Nt:@jX jT Tryz.prog 166=true:=by kernel_rfl
theorem Nu:@jX jT Tryz.prog 167=true:=by kernel_rfl
theorem Nv:@jX jT Tryz.prog 168=true:=by kernel_rfl
theorem Nw:@jX jT Tryz.prog 169=true:=by kernel_rfl
theorem Ny:@jX jT Tryz.prog 170=true:=by kernel_rfl
theorem Nz:@jX jT Tryz.prog 171=true:=by kernel_rfl
theorem NA:@jX jT Tryz.prog 172=true:=by kernel_rfl
theorem NB:@jX jT Tryz.prog 173=true:=by kernel_rfl
theorem NC:@jX jT Tryz.prog 174=true:=by kernel_rfl
theorem ND:@jX jT Tryz.prog 175=true:=by kernel_rfl
theorem NF:@jX jT Tryz.prog 176=true:=by kernel_rfl
theorem NG:@jX jT Tryz.prog 177=true:=by kernel_rfl
theorem NH:@jX jT Tryz.prog 178=true:=by kernel_rfl
theorem NJ:@jX jT Tryz.prog 179=true:=by kernel_rfl
theorem NK:wm.all (@jX jT Tryz.prog)=true:=by
 simp only[wm,eu,List.all_nil,Bool.and_true,Lr,Ls,Lt,Lu,Lv,Lw,Lx,Ly,Lz,LA,LB,LC,LD,LF,LG,LH,LI,LJ,LK,LL,LM,LN,LO,LP,LQ,LR,LS,LU,LV,LW,LX,LY,LZ,L1,L2,L3,L4,L5,L6,L8,L9,Ma,Mb,Mc,Md,Me,Mf,Mg,Mh,Mi,Mj,Mk,Ml,Mm,Mn,Mo,Mp,Mq,Mr,Ms,Mt,Mu,Mv,Mw,Mx,My,Mz,MA,MB,MC,MD,ME,MG,MH,MI,MJ,MK,ML,MM,MN,MO,MP,MQ,MS,MT,MU,MV,MW,MX,MY,MZ,M0,M1,M3,M4,M5,M6,M7,M8,M9,Na,Nb,Nc,Nd,Nf,Ng,Nh,Ni,Nj,Nk,Nl,Np,Nq,Nr,Ns,Nt,Nu,Nv,Nw,Ny,Nz,NA,NB,NC,ND,NF,NG,NH,NJ]
theorem zV:@lu jT Tryz.prog:=@B5 jT Tryz.prog wm (fun f a=>iA.1 a) NK
theorem zW:@ki jT Tryz.prog:=@B4 jT Tryz.prog CV (dx _) (fun _=>rfl) CU (fun t d e h=>by show isChan Tryz.prog t=true;unfold isChan;rw[h])
end
end Go.Proofs.YtjnkcibpkkjniaaGreat.j7
