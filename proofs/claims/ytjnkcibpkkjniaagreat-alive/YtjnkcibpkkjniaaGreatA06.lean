import Derived.Test.YtjnkcibpkkjniaaGreatA05
import Derived.Test.YtjnkcibpkkjniaaGreatChecked
import Derived.KernelRfl
set_option linter.unusedVariables false
set_option linter.unusedSimpArgs false
set_option linter.unusedSectionVars false
namespace Go.Proofs.YtjnkcibpkkjniaaGreat.Sim
open Go Go.Proofs
theorem types_good:Tryz.prog.types.all goodInfo=true:=by kernel_rfl
def spokenW:List FuncId:=[38,41,60,79,116,117,118,119,140,141,142,143,144,145,146,147,148,149,154,155,156,157,158,164,165,166,167,168,169,170,171,172,173,174,175,176,177,178,179]
@[reducible] noncomputable def scopeW:Scope:={ ok:=fun f=>spokenW.contains f,base:=Tryz.prog.globals.size,cells:=fun t=>Tryz.prog.cellsOf t,sync:=false }
theorem fW38:@okFunc scopeW Tryz.prog 38=true:=by kernel_rfl
theorem fW41:@okFunc scopeW Tryz.prog 41=true:=by kernel_rfl
theorem fW60:@okFunc scopeW Tryz.prog 60=true:=by kernel_rfl
theorem fW79:@okFunc scopeW Tryz.prog 79=true:=by kernel_rfl
theorem fW116:@okFunc scopeW Tryz.prog 116=true:=by kernel_rfl
theorem fW117:@okFunc scopeW Tryz.prog 117=true:=by kernel_rfl
theorem fW118:@okFunc scopeW Tryz.prog 118=true:=by kernel_rfl
theorem fW119:@okFunc scopeW Tryz.prog 119=true:=by kernel_rfl
theorem fW140:@okFunc scopeW Tryz.prog 140=true:=by kernel_rfl
theorem fW141:@okFunc scopeW Tryz.prog 141=true:=by kernel_rfl
theorem fW142:@okFunc scopeW Tryz.prog 142=true:=by kernel_rfl
theorem fW143:@okFunc scopeW Tryz.prog 143=true:=by kernel_rfl
theorem fW144:@okFunc scopeW Tryz.prog 144=true:=by kernel_rfl
theorem fW145:@okFunc scopeW Tryz.prog 145=true:=by kernel_rfl
theorem fW146:@okFunc scopeW Tryz.prog 146=true:=by kernel_rfl
theorem fW147:@okFunc scopeW Tryz.prog 147=true:=by kernel_rfl
theorem fW148:@okFunc scopeW Tryz.prog 148=true:=by kernel_rfl
theorem fW149:@okFunc scopeW Tryz.prog 149=true:=by kernel_rfl
theorem fW154:@okFunc scopeW Tryz.prog 154=true:=by kernel_rfl
theorem fW155:@okFunc scopeW Tryz.prog 155=true:=by kernel_rfl
theorem fW156:@okFunc scopeW Tryz.prog 156=true:=by kernel_rfl
theorem fW157:@okFunc scopeW Tryz.prog 157=true:=by kernel_rfl
theorem fW158:@okFunc scopeW Tryz.prog 158=true:=by kernel_rfl
theorem fW164:@okFunc scopeW Tryz.prog 164=true:=by kernel_rfl
theorem fW165:@okFunc scopeW Tryz.prog 165=true:=by kernel_rfl
theorem fW166:@okFunc scopeW Tryz.prog 166=true:=by kernel_rfl
theorem fW167:@okFunc scopeW Tryz.prog 167=true:=by kernel_rfl
theorem fW168:@okFunc scopeW Tryz.prog 168=true:=by kernel_rfl
theorem fW169:@okFunc scopeW Tryz.prog 169=true:=by kernel_rfl
theorem fW170:@okFunc scopeW Tryz.prog 170=true:=by kernel_rfl
theorem fW171:@okFunc scopeW Tryz.prog 171=true:=by kernel_rfl
theorem fW172:@okFunc scopeW Tryz.prog 172=true:=by kernel_rfl
theorem fW173:@okFunc scopeW Tryz.prog 173=true:=by kernel_rfl
theorem fW174:@okFunc scopeW Tryz.prog 174=true:=by kernel_rfl
theorem fW175:@okFunc scopeW Tryz.prog 175=true:=by kernel_rfl
theorem fW176:@okFunc scopeW Tryz.prog 176=true:=by kernel_rfl
theorem fW177:@okFunc scopeW Tryz.prog 177=true:=by kernel_rfl
theorem fW178:@okFunc scopeW Tryz.prog 178=true:=by kernel_rfl
theorem fW179:@okFunc scopeW Tryz.prog 179=true:=by kernel_rfl
theorem spokenW_ok:spokenW.all (@okFunc scopeW Tryz.prog)=true:=by
 simp only [spokenW,List.all_cons,List.all_nil,Bool.and_true,fW38,fW41,fW60,fW79,fW116,fW117,fW118,fW119,fW140,fW141,fW142,fW143,fW144,fW145,fW146,fW147,fW148,fW149,fW154,fW155,fW156,fW157,fW158,fW164,fW165,fW166,fW167,fW168,fW169,fW170,fW171,fW172,fW173,fW174,fW175,fW176,fW177,fW178,fW179]
theorem codesW:@Codes scopeW Tryz.prog:=@codes_of scopeW Tryz.prog spokenW (fun f hf=>List.contains_iff_mem.1 hf) spokenW_ok
theorem zerosW:@Zeros scopeW Tryz.prog:=@zeros_of scopeW Tryz.prog types_good (Nat.le_refl _) (fun _=>rfl)
def spokenM:List FuncId:=[12,13,15,16,18,19,20,22,23,24,26,27,28,29,30,31,32,33,34,36,37,38,39,40,41,43,44,45,47,48,49,50,51,52,53,54,55,56,57,60,64,65,66,67,68,69,70,71,72,73,74,79,90,91,92,93,94,95,96,97,98,99,100,101,102,103,104,105,106,107,116,117,118,119,122,123,124,125,126,127,128,129,130,131,132,133,134,135,136,140,141,142,143,144,145,146,147,148,149,150,151,152,153,154,155,156,157,158,159,160,161,162,163,164,165,166,167,168,169,170,171,172,173,174,175,176,177,178,179]
@[reducible] noncomputable def scopeM:Scope:={ ok:=fun f=>spokenM.contains f,base:=Tryz.prog.globals.size,cells:=fun t=>Tryz.prog.cellsOf t,sync:=true }
theorem fM12:@okFunc scopeM Tryz.prog 12=true:=by kernel_rfl
theorem fM13:@okFunc scopeM Tryz.prog 13=true:=by kernel_rfl
theorem fM15:@okFunc scopeM Tryz.prog 15=true:=by kernel_rfl
theorem fM16:@okFunc scopeM Tryz.prog 16=true:=by kernel_rfl
theorem fM18:@okFunc scopeM Tryz.prog 18=true:=by kernel_rfl
theorem fM19:@okFunc scopeM Tryz.prog 19=true:=by kernel_rfl
theorem fM20:@okFunc scopeM Tryz.prog 20=true:=by kernel_rfl
theorem fM22:@okFunc scopeM Tryz.prog 22=true:=by kernel_rfl
theorem fM23:@okFunc scopeM Tryz.prog 23=true:=by kernel_rfl
theorem fM24:@okFunc scopeM Tryz.prog 24=true:=by kernel_rfl
theorem fM26:@okFunc scopeM Tryz.prog 26=true:=by kernel_rfl
theorem fM27:@okFunc scopeM Tryz.prog 27=true:=by kernel_rfl
theorem fM28:@okFunc scopeM Tryz.prog 28=true:=by kernel_rfl
theorem fM29:@okFunc scopeM Tryz.prog 29=true:=by kernel_rfl
theorem fM30:@okFunc scopeM Tryz.prog 30=true:=by kernel_rfl
theorem fM31:@okFunc scopeM Tryz.prog 31=true:=by kernel_rfl
theorem fM32:@okFunc scopeM Tryz.prog 32=true:=by kernel_rfl
theorem fM33:@okFunc scopeM Tryz.prog 33=true:=by kernel_rfl
theorem fM34:@okFunc scopeM Tryz.prog 34=true:=by kernel_rfl
theorem fM36:@okFunc scopeM Tryz.prog 36=true:=by kernel_rfl
theorem fM37:@okFunc scopeM Tryz.prog 37=true:=by kernel_rfl
theorem fM38:@okFunc scopeM Tryz.prog 38=true:=by kernel_rfl
theorem fM39:@okFunc scopeM Tryz.prog 39=true:=by kernel_rfl
theorem fM40:@okFunc scopeM Tryz.prog 40=true:=by kernel_rfl
theorem fM41:@okFunc scopeM Tryz.prog 41=true:=by kernel_rfl
theorem fM43:@okFunc scopeM Tryz.prog 43=true:=by kernel_rfl
theorem fM44:@okFunc scopeM Tryz.prog 44=true:=by kernel_rfl
theorem fM45:@okFunc scopeM Tryz.prog 45=true:=by kernel_rfl
theorem fM47:@okFunc scopeM Tryz.prog 47=true:=by kernel_rfl
theorem fM48:@okFunc scopeM Tryz.prog 48=true:=by kernel_rfl
theorem fM49:@okFunc scopeM Tryz.prog 49=true:=by kernel_rfl
theorem fM50:@okFunc scopeM Tryz.prog 50=true:=by kernel_rfl
theorem fM51:@okFunc scopeM Tryz.prog 51=true:=by kernel_rfl
theorem fM52:@okFunc scopeM Tryz.prog 52=true:=by kernel_rfl
theorem fM53:@okFunc scopeM Tryz.prog 53=true:=by kernel_rfl
theorem fM54:@okFunc scopeM Tryz.prog 54=true:=by kernel_rfl
theorem fM55:@okFunc scopeM Tryz.prog 55=true:=by kernel_rfl
theorem fM56:@okFunc scopeM Tryz.prog 56=true:=by kernel_rfl
theorem fM57:@okFunc scopeM Tryz.prog 57=true:=by kernel_rfl
theorem fM60:@okFunc scopeM Tryz.prog 60=true:=by kernel_rfl
theorem fM64:@okFunc scopeM Tryz.prog 64=true:=by kernel_rfl
theorem fM65:@okFunc scopeM Tryz.prog 65=true:=by kernel_rfl
theorem fM66:@okFunc scopeM Tryz.prog 66=true:=by kernel_rfl
theorem fM67:@okFunc scopeM Tryz.prog 67=true:=by kernel_rfl
theorem fM68:@okFunc scopeM Tryz.prog 68=true:=by kernel_rfl
theorem fM69:@okFunc scopeM Tryz.prog 69=true:=by kernel_rfl
theorem fM70:@okFunc scopeM Tryz.prog 70=true:=by kernel_rfl
theorem fM71:@okFunc scopeM Tryz.prog 71=true:=by kernel_rfl
theorem fM72:@okFunc scopeM Tryz.prog 72=true:=by kernel_rfl
theorem fM73:@okFunc scopeM Tryz.prog 73=true:=by kernel_rfl
theorem fM74:@okFunc scopeM Tryz.prog 74=true:=by kernel_rfl
theorem fM79:@okFunc scopeM Tryz.prog 79=true:=by kernel_rfl
theorem fM90:@okFunc scopeM Tryz.prog 90=true:=by kernel_rfl
theorem fM91:@okFunc scopeM Tryz.prog 91=true:=by kernel_rfl
theorem fM92:@okFunc scopeM Tryz.prog 92=true:=by kernel_rfl
theorem fM93:@okFunc scopeM Tryz.prog 93=true:=by kernel_rfl
theorem fM94:@okFunc scopeM Tryz.prog 94=true:=by kernel_rfl
theorem fM95:@okFunc scopeM Tryz.prog 95=true:=by kernel_rfl
theorem fM96:@okFunc scopeM Tryz.prog 96=true:=by kernel_rfl
theorem fM97:@okFunc scopeM Tryz.prog 97=true:=by kernel_rfl
theorem fM98:@okFunc scopeM Tryz.prog 98=true:=by kernel_rfl
theorem fM99:@okFunc scopeM Tryz.prog 99=true:=by kernel_rfl
theorem fM100:@okFunc scopeM Tryz.prog 100=true:=by kernel_rfl
theorem fM101:@okFunc scopeM Tryz.prog 101=true:=by kernel_rfl
theorem fM102:@okFunc scopeM Tryz.prog 102=true:=by kernel_rfl
theorem fM103:@okFunc scopeM Tryz.prog 103=true:=by kernel_rfl
theorem fM104:@okFunc scopeM Tryz.prog 104=true:=by kernel_rfl
theorem fM105:@okFunc scopeM Tryz.prog 105=true:=by kernel_rfl
theorem fM106:@okFunc scopeM Tryz.prog 106=true:=by kernel_rfl
theorem fM107:@okFunc scopeM Tryz.prog 107=true:=by kernel_rfl
theorem fM116:@okFunc scopeM Tryz.prog 116=true:=by kernel_rfl
theorem fM117:@okFunc scopeM Tryz.prog 117=true:=by kernel_rfl
theorem fM118:@okFunc scopeM Tryz.prog 118=true:=by kernel_rfl
theorem fM119:@okFunc scopeM Tryz.prog 119=true:=by kernel_rfl
theorem fM122:@okFunc scopeM Tryz.prog 122=true:=by kernel_rfl
theorem fM123:@okFunc scopeM Tryz.prog 123=true:=by kernel_rfl
theorem fM124:@okFunc scopeM Tryz.prog 124=true:=by kernel_rfl
theorem fM125:@okFunc scopeM Tryz.prog 125=true:=by kernel_rfl
theorem fM126:@okFunc scopeM Tryz.prog 126=true:=by kernel_rfl
theorem fM127:@okFunc scopeM Tryz.prog 127=true:=by kernel_rfl
theorem fM128:@okFunc scopeM Tryz.prog 128=true:=by kernel_rfl
theorem fM129:@okFunc scopeM Tryz.prog 129=true:=by kernel_rfl
theorem fM130:@okFunc scopeM Tryz.prog 130=true:=by kernel_rfl
theorem fM131:@okFunc scopeM Tryz.prog 131=true:=by kernel_rfl
theorem fM132:@okFunc scopeM Tryz.prog 132=true:=by kernel_rfl
theorem fM133:@okFunc scopeM Tryz.prog 133=true:=by kernel_rfl
theorem fM134:@okFunc scopeM Tryz.prog 134=true:=by kernel_rfl
theorem fM135:@okFunc scopeM Tryz.prog 135=true:=by kernel_rfl
theorem fM136:@okFunc scopeM Tryz.prog 136=true:=by kernel_rfl
theorem fM140:@okFunc scopeM Tryz.prog 140=true:=by kernel_rfl
theorem fM141:@okFunc scopeM Tryz.prog 141=true:=by kernel_rfl
theorem fM142:@okFunc scopeM Tryz.prog 142=true:=by kernel_rfl
theorem fM143:@okFunc scopeM Tryz.prog 143=true:=by kernel_rfl
theorem fM144:@okFunc scopeM Tryz.prog 144=true:=by kernel_rfl
theorem fM145:@okFunc scopeM Tryz.prog 145=true:=by kernel_rfl
theorem fM146:@okFunc scopeM Tryz.prog 146=true:=by kernel_rfl
theorem fM147:@okFunc scopeM Tryz.prog 147=true:=by kernel_rfl
theorem fM148:@okFunc scopeM Tryz.prog 148=true:=by kernel_rfl
theorem fM149:@okFunc scopeM Tryz.prog 149=true:=by kernel_rfl
theorem fM150:@okFunc scopeM Tryz.prog 150=true:=by kernel_rfl
theorem fM151:@okFunc scopeM Tryz.prog 151=true:=by kernel_rfl
theorem fM152:@okFunc scopeM Tryz.prog 152=true:=by kernel_rfl
theorem fM153:@okFunc scopeM Tryz.prog 153=true:=by kernel_rfl
theorem fM154:@okFunc scopeM Tryz.prog 154=true:=by kernel_rfl
theorem fM155:@okFunc scopeM Tryz.prog 155=true:=by kernel_rfl
theorem fM156:@okFunc scopeM Tryz.prog 156=true:=by kernel_rfl
theorem fM157:@okFunc scopeM Tryz.prog 157=true:=by kernel_rfl
theorem fM158:@okFunc scopeM Tryz.prog 158=true:=by kernel_rfl
theorem fM159:@okFunc scopeM Tryz.prog 159=true:=by kernel_rfl
theorem fM160:@okFunc scopeM Tryz.prog 160=true:=by kernel_rfl
theorem fM161:@okFunc scopeM Tryz.prog 161=true:=by kernel_rfl
theorem fM162:@okFunc scopeM Tryz.prog 162=true:=by kernel_rfl
theorem fM163:@okFunc scopeM Tryz.prog 163=true:=by kernel_rfl
theorem fM164:@okFunc scopeM Tryz.prog 164=true:=by kernel_rfl
theorem fM165:@okFunc scopeM Tryz.prog 165=true:=by kernel_rfl
theorem fM166:@okFunc scopeM Tryz.prog 166=true:=by kernel_rfl
theorem fM167:@okFunc scopeM Tryz.prog 167=true:=by kernel_rfl
theorem fM168:@okFunc scopeM Tryz.prog 168=true:=by kernel_rfl
theorem fM169:@okFunc scopeM Tryz.prog 169=true:=by kernel_rfl
theorem fM170:@okFunc scopeM Tryz.prog 170=true:=by kernel_rfl
theorem fM171:@okFunc scopeM Tryz.prog 171=true:=by kernel_rfl
theorem fM172:@okFunc scopeM Tryz.prog 172=true:=by kernel_rfl
theorem fM173:@okFunc scopeM Tryz.prog 173=true:=by kernel_rfl
theorem fM174:@okFunc scopeM Tryz.prog 174=true:=by kernel_rfl
theorem fM175:@okFunc scopeM Tryz.prog 175=true:=by kernel_rfl
theorem fM176:@okFunc scopeM Tryz.prog 176=true:=by kernel_rfl
theorem fM177:@okFunc scopeM Tryz.prog 177=true:=by kernel_rfl
theorem fM178:@okFunc scopeM Tryz.prog 178=true:=by kernel_rfl
theorem fM179:@okFunc scopeM Tryz.prog 179=true:=by kernel_rfl
theorem spokenM_ok:spokenM.all (@okFunc scopeM Tryz.prog)=true:=by
 simp only [spokenM,List.all_cons,List.all_nil,Bool.and_true,fM12,fM13,fM15,fM16,fM18,fM19,fM20,fM22,fM23,fM24,fM26,fM27,fM28,fM29,fM30,fM31,fM32,fM33,fM34,fM36,fM37,fM38,fM39,fM40,fM41,fM43,fM44,fM45,fM47,fM48,fM49,fM50,fM51,fM52,fM53,fM54,fM55,fM56,fM57,fM60,fM64,fM65,fM66,fM67,fM68,fM69,fM70,fM71,fM72,fM73,fM74,fM79,fM90,fM91,fM92,fM93,fM94,fM95,fM96,fM97,fM98,fM99,fM100,fM101,fM102,fM103,fM104,fM105,fM106,fM107,fM116,fM117,fM118,fM119,fM122,fM123,fM124,fM125,fM126,fM127,fM128,fM129,fM130,fM131,fM132,fM133,fM134,fM135,fM136,fM140,fM141,fM142,fM143,fM144,fM145,fM146,fM147,fM148,fM149,fM150,fM151,fM152,fM153,fM154,fM155,fM156,fM157,fM158,fM159,fM160,fM161,fM162,fM163,fM164,fM165,fM166,fM167,fM168,fM169,fM170,fM171,fM172,fM173,fM174,fM175,fM176,fM177,fM178,fM179]
theorem codesM:@Codes scopeM Tryz.prog:=@codes_of scopeM Tryz.prog spokenM (fun f hf=>List.contains_iff_mem.1 hf) spokenM_ok
theorem zerosM:@Zeros scopeM Tryz.prog:=@zeros_of scopeM Tryz.prog types_good (Nat.le_refl _) (fun _=>rfl)
end Go.Proofs.YtjnkcibpkkjniaaGreat.Sim
