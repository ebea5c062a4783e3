import Derived.Shelf.SlIterI.Nil
import Derived.Shelf.SortM.Plain
import Derived.Shelf.SortM.SortNone
import Derived.Ground.GgzProg
import Derived.Ground.SlgmProg
import Derived.Test.YtmmpoppgabadmaaGreatG01
set_option linter.unusedVariables false
set_option linter.unusedSimpArgs false
set_option maxRecDepth 100000
set_option maxHeartbeats 16000000
open _root_.Option renaming some → Ac
namespace Go.Proofs.YtmmpoppgabadmaaGreat
open Go.Proofs.Tryz
open Go.Shelf
def Z5g:Go.Shelf.Ren:=⟨λ| 7=>87 | 10=>140 | n=>n,λ| 23=>77 | 26=>3 | 3=>121 | 28=>131 | 0=>0 | 27=>130 | 33=>140 | 4=>4 | n=>n,λ| n=>n⟩
theorem laidKeys:Go.Proofs.SlLaysZI.n7 Tryz.prog Z5g:={
 mixed:=by kernel_rfl
 f7:=⟨f87.name,by decide,func87.trans (congrArg Ac (by kernel_rfl))⟩
 f10:=⟨f140.name,by decide,func140.trans (congrArg Ac (by kernel_rfl))⟩
 t0:=underlying0
 a0:=isAgg0
 z0:=sizeOf0
 v0:=zeroValue0
 t4:=underlying4
 a4:=isAgg4
 z4:=sizeOf4
 v4:=zeroValue4
 t23:=underlying77
 a23:=isAgg77
 z23:=sizeOf77
 v23:=zeroValue77
 t26:=underlying3
 a26:=isAgg3
 z26:=sizeOf3
 v26:=zeroValue3
 t27:=underlying130
 a27:=isAgg130
 z27:=sizeOf130
 v27:=zeroValue130
 t28:=underlying131
 a28:=isAgg131
 z28:=sizeOf131
 v28:=zeroValue131
 t33:=underlying140
 a33:=isAgg140
 z33:=sizeOf140
 v33:=zeroValue140 }
def Z46:Go.Shelf.Ren:=⟨λ| 6=>86 | 8=>138 | 9=>139 | 11=>175 | 13=>177 | 12=>176 | 23=>193 | 24=>194 | 14=>184 | 15=>185 | 16=>186 | 17=>187 | 18=>188 | 19=>189 | 20=>190 | 21=>191 | 22=>192 | 25=>196 | 26=>197 | 27=>198 | 28=>199 | 29=>200 | 30=>201 | 31=>202 | n=>n,λ| 26=>3 | 28=>131 | 24=>23 | 0=>0 | 3=>3 | 37=>168 | 48=>184 | 50=>186 | 4=>4 | 40=>177 | 39=>176 | 45=>181 | 5=>5 | 9=>9 | 51=>187 | 55=>191 | 57=>193 | 58=>194 | 33=>140 | n=>n,λ| n=>n⟩
theorem laidSorted:Go.Proofs.SlLaysZI.n6 Tryz.prog Z46:={
 mixed:=by kernel_rfl
 f6:=⟨f86.name,by decide,func86.trans (congrArg Ac (by kernel_rfl))⟩
 f8:=⟨f138.name,by decide,func138.trans (congrArg Ac (by kernel_rfl))⟩
 f11:=⟨f175.name,by decide,func175.trans (congrArg Ac (by kernel_rfl))⟩
 t0:=underlying0
 a0:=isAgg0
 z0:=sizeOf0
 v0:=zeroValue0
 t24:=underlying23
 a24:=isAgg23
 z24:=sizeOf23
 v24:=zeroValue23
 t26:=underlying3
 a26:=isAgg3
 z26:=sizeOf3
 v26:=zeroValue3
 t28:=underlying131
 a28:=isAgg131
 z28:=sizeOf131
 v28:=zeroValue131
 i26:=by kernel_rfl }
def laidSort_ren:Go.Shelf.Ren:=⟨λ| 5=>139 | 8=>177 | 7=>176 | 19=>193 | 20=>194 | 10=>184 | 11=>185 | 12=>186 | 13=>187 | 14=>188 | 15=>189 | 16=>190 | 17=>191 | 18=>192 | 30=>196 | 31=>197 | 32=>198 | 33=>199 | 34=>200 | 35=>201 | 40=>202 | n=>n,λ| 23=>23 | 25=>3 | 3=>3 | 32=>168 | 22=>23 | 0=>0 | 44=>184 | 46=>186 | 4=>4 | 36=>177 | 35=>176 | 41=>181 | 5=>5 | 9=>9 | 53=>187 | 57=>191 | 63=>193 | 64=>194 | n=>n,λ| n=>n⟩
theorem laidSort:Go.Proofs.SlLaysM.n5 Tryz.prog laidSort_ren:={
 mixed:=by kernel_rfl
 f5:=⟨f139.name,by decide,func139.trans (congrArg Ac (by kernel_rfl))⟩
 f7:=⟨f176.name,by decide,func176.trans (congrArg Ac (by kernel_rfl))⟩
 f8:=func177.trans (congrArg Ac (by kernel_rfl))
 f10:=⟨f184.name,by decide,func184.trans (congrArg Ac (by kernel_rfl))⟩
 f11:=⟨f185.name,by decide,func185.trans (congrArg Ac (by kernel_rfl))⟩
 f12:=⟨f186.name,by decide,func186.trans (congrArg Ac (by kernel_rfl))⟩
 f13:=⟨f187.name,by decide,func187.trans (congrArg Ac (by kernel_rfl))⟩
 f14:=⟨f188.name,by decide,func188.trans (congrArg Ac (by kernel_rfl))⟩
 f15:=⟨f189.name,by decide,func189.trans (congrArg Ac (by kernel_rfl))⟩
 f16:=⟨f190.name,by decide,func190.trans (congrArg Ac (by kernel_rfl))⟩
 f17:=⟨f191.name,by decide,func191.trans (congrArg Ac (by kernel_rfl))⟩
 f18:=⟨f192.name,by decide,func192.trans (congrArg Ac (by kernel_rfl))⟩
 f19:=func193.trans (congrArg Ac (by kernel_rfl))
 f20:=func194.trans (congrArg Ac (by kernel_rfl))
 f30:=⟨f196.name,by decide,func196.trans (congrArg Ac (by kernel_rfl))⟩
 f31:=func197.trans (congrArg Ac (by kernel_rfl))
 f32:=func198.trans (congrArg Ac (by kernel_rfl))
 f33:=⟨f199.name,by decide,func199.trans (congrArg Ac (by kernel_rfl))⟩
 f34:=⟨f200.name,by decide,func200.trans (congrArg Ac (by kernel_rfl))⟩
 f35:=⟨f201.name,by decide,func201.trans (congrArg Ac (by kernel_rfl))⟩
 f40:=⟨f202.name,by decide,func202.trans (congrArg Ac (by kernel_rfl))⟩
 t0:=underlying0
 a0:=isAgg0
 z0:=sizeOf0
 v0:=zeroValue0
 t3:=underlying3
 a3:=isAgg3
 z3:=sizeOf3
 v3:=zeroValue3
 t4:=underlying4
 a4:=isAgg4
 z4:=sizeOf4
 v4:=zeroValue4
 t5:=underlying5
 a5:=isAgg5
 z5:=sizeOf5
 v5:=zeroValue5
 t9:=underlying9
 a9:=isAgg9
 z9:=sizeOf9
 v9:=zeroValue9
 t22:=underlying23
 a22:=isAgg23
 z22:=sizeOf23
 v22:=zeroValue23
 t23:=underlying23
 a23:=isAgg23
 z23:=sizeOf23
 v23:=zeroValue23
 t25:=underlying3
 a25:=isAgg3
 z25:=sizeOf3
 v25:=zeroValue3
 t32:=underlying168
 a32:=isAgg168
 z32:=sizeOf168
 v32:=zeroValue168
 t35:=underlying176
 a35:=isAgg176
 z35:=sizeOf176
 v35:=zeroValue176
 t36:=underlying177
 a36:=isAgg177
 z36:=sizeOf177
 v36:=zeroValue177
 t41:=underlying181
 a41:=isAgg181
 z41:=sizeOf181
 v41:=zeroValue181
 t44:=underlying184
 a44:=isAgg184
 z44:=sizeOf184
 v44:=zeroValue184
 t46:=underlying186
 a46:=isAgg186
 z46:=sizeOf186
 v46:=zeroValue186
 t53:=underlying187
 a53:=isAgg187
 z53:=sizeOf187
 v53:=zeroValue187
 t57:=underlying191
 a57:=isAgg191
 z57:=sizeOf191
 v57:=zeroValue191
 t63:=underlying193
 a63:=isAgg193
 z63:=sizeOf193
 v63:=zeroValue193
 t64:=underlying194
 a64:=isAgg194
 z64:=sizeOf194
 v64:=zeroValue194 }
end Go.Proofs.YtmmpoppgabadmaaGreat
