/- slices.SortFunc at members is the kit's, number by number. -/
import Derived.Shelf.SlSortCmp.NoneTotal
import Derived.Test.YthmlflaiidhoiaaGreatDoorCon
import Derived.KernelRfl
namespace Go.Proofs.YthmlflaiidhoiaaGreatDoor
open Go.Shelf
def Tryz.layG_ren:Go.Shelf.Ren:=⟨λ|6=>246|14=>301|15=>211|20=>332|21=>333|22=>334|23=>335|24=>336|25=>337|26=>338|27=>339|28=>255|29=>256|46=>357|47=>303|48=>304|49=>358|50=>359|57=>370|n=>n,λ|0=>0|3=>3|4=>4|5=>5|9=>9|22=>61|24=>60|25=>104|39=>220|45=>333|46=>334|50=>113|53=>340|55=>312|66=>381|70=>385|76=>416|77=>417|n=>n,λn=>n⟩
theorem Tryz.layG:Go.Proofs.SlLaysF0.n6 Tryz.prog Tryz.layG_ren:={
 mixed:=by kernel_rfl
 f6:=⟨ "slices.SortFunc[[]posthouse/api.Member,posthouse/api.Member]",by decide,Tryz.func246.trans (aH3 some (by kernel_rfl))⟩
 f14:=⟨ "slices.pdqsortCmpFunc[posthouse/api.Member]",by decide,Tryz.func301.trans (aH3 some (by kernel_rfl))⟩
 f15:=Tryz.func211.trans (aH3 some (by kernel_rfl))
 f20:=⟨ "slices.insertionSortCmpFunc[posthouse/api.Member]",by decide,Tryz.func332.trans (aH3 some (by kernel_rfl))⟩
 f21:=⟨ "slices.heapSortCmpFunc[posthouse/api.Member]",by decide,Tryz.func333.trans (aH3 some (by kernel_rfl))⟩
 f22:=⟨ "slices.breakPatternsCmpFunc[posthouse/api.Member]",by decide,Tryz.func334.trans (aH3 some (by kernel_rfl))⟩
 f23:=⟨ "slices.choosePivotCmpFunc[posthouse/api.Member]",by decide,Tryz.func335.trans (aH3 some (by kernel_rfl))⟩
 f24:=⟨ "slices.reverseRangeCmpFunc[posthouse/api.Member]",by decide,Tryz.func336.trans (aH3 some (by kernel_rfl))⟩
 f25:=⟨ "slices.partialInsertionSortCmpFunc[posthouse/api.Member]",by decide,Tryz.func337.trans (aH3 some (by kernel_rfl))⟩
 f26:=⟨ "slices.partitionEqualCmpFunc[posthouse/api.Member]",by decide,Tryz.func338.trans (aH3 some (by kernel_rfl))⟩
 f27:=⟨ "slices.partitionCmpFunc[posthouse/api.Member]",by decide,Tryz.func339.trans (aH3 some (by kernel_rfl))⟩
 f28:=Tryz.func255.trans (aH3 some (by kernel_rfl))
 f29:=Tryz.func256.trans (aH3 some (by kernel_rfl))
 f46:=⟨ "slices.siftDownCmpFunc[posthouse/api.Member]",by decide,Tryz.func357.trans (aH3 some (by kernel_rfl))⟩
 f47:=Tryz.func303.trans (aH3 some (by kernel_rfl))
 f48:=Tryz.func304.trans (aH3 some (by kernel_rfl))
 f49:=⟨ "slices.medianAdjacentCmpFunc[posthouse/api.Member]",by decide,Tryz.func358.trans (aH3 some (by kernel_rfl))⟩
 f50:=⟨ "slices.medianCmpFunc[posthouse/api.Member]",by decide,Tryz.func359.trans (aH3 some (by kernel_rfl))⟩
 f57:=⟨ "slices.order2CmpFunc[posthouse/api.Member]",by decide,Tryz.func370.trans (aH3 some (by kernel_rfl))⟩
 t0:=aT2
 a0:=Tryz.isAgg0
 z0:=Tryz.sizeOf0
 v0:=Tryz.zeroValue0
 t3:=aR2
 a3:=Tryz.isAgg3
 z3:=Tryz.sizeOf3
 v3:=Tryz.zeroValue3
 t4:=aR3
 a4:=Tryz.isAgg4
 z4:=Tryz.sizeOf4
 v4:=Tryz.zeroValue4
 t5:=aO9
 a5:=Tryz.isAgg5
 z5:=Tryz.sizeOf5
 v5:=Tryz.zeroValue5
 t9:=aR4
 a9:=Tryz.isAgg9
 z9:=Tryz.sizeOf9
 v9:=Tryz.zeroValue9
 t22:=aS2
 a22:=Tryz.isAgg61
 z22:=Tryz.sizeOf61
 v22:=Tryz.zeroValue61
 t25:=Tryz.underlying104
 a25:=Tryz.isAgg104
 z25:=Tryz.sizeOf104
 v25:=Tryz.zeroValue104
 t39:=aT3
 a39:=Tryz.isAgg220
 z39:=Tryz.sizeOf220
 v39:=Tryz.zeroValue220
 t45:=aT4
 a45:=Tryz.isAgg333
 z45:=Tryz.sizeOf333
 v45:=Tryz.zeroValue333
 t46:=aT5
 a46:=Tryz.isAgg334
 z46:=Tryz.sizeOf334
 v46:=Tryz.zeroValue334
 t50:=aT6
 a50:=Tryz.isAgg113
 z50:=Tryz.sizeOf113
 v50:=Tryz.zeroValue113
 t53:=aT1
 a53:=Tryz.isAgg340
 z53:=Tryz.sizeOf340
 v53:=Tryz.zeroValue340
 t55:=aT7
 a55:=Tryz.isAgg312
 z55:=Tryz.sizeOf312
 v55:=Tryz.zeroValue312
 t66:=aT8
 a66:=Tryz.isAgg381
 z66:=Tryz.sizeOf381
 v66:=Tryz.zeroValue381
 t70:=aT9
 a70:=Tryz.isAgg385
 z70:=Tryz.sizeOf385
 v70:=Tryz.zeroValue385
 t76:=aU0
 a76:=Tryz.isAgg416
 z76:=Tryz.sizeOf416
 v76:=Tryz.zeroValue416
 t77:=aU1
 a77:=Tryz.isAgg417
 z77:=Tryz.sizeOf417
 v77:=Tryz.zeroValue417
}
end Go.Proofs.YthmlflaiidhoiaaGreatDoor
