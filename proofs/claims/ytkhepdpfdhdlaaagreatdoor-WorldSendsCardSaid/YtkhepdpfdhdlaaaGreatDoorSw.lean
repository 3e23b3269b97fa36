/- slices.SortFunc at hosts, and what it calls, are those that the kit speaks of: number by number; no condition. -/
import Derived.Shelf.SlSortCmp.NoneTotal
import Derived.Test.YtkhepdpfdhdlaaaGreatDoorProg
import Derived.KernelRfl
import Derived.Test.YtkhepdpfdhdlaaaGreatDoorCon
namespace Go.Proofs.YtkhepdpfdhdlaaaGreatDoor
open Go.Shelf
def Tryz.layH_ren:Go.Shelf.Ren:=⟨λ|6=>147|14=>216|15=>198|20=>272|21=>273|22=>274|23=>275|24=>276|25=>277|26=>278|27=>279|28=>247|29=>248|46=>307|47=>296|48=>297|49=>308|50=>309|57=>337|n=>n,λ|0=>0|3=>3|4=>4|5=>5|9=>9|22=>26|24=>66|25=>232|39=>275|45=>324|46=>325|50=>284|53=>331|55=>303|66=>374|70=>378|76=>406|77=>407|n=>n,λn=>n⟩
theorem Tryz.layH:Go.Proofs.SlLaysF0.n6 Tryz.prog Tryz.layH_ren:={
 mixed:=by kernel_rfl
 f6:=⟨ "slices.SortFunc[[]posthouse/api.Host,posthouse/api.Host]",by decide,Tryz.func147.trans (Yu some (by kernel_rfl))⟩
 f14:=⟨ "slices.pdqsortCmpFunc[posthouse/api.Host]",by decide,Tryz.func216.trans (Yu some (by kernel_rfl))⟩
 f15:=Tryz.func198.trans (Yu some (by kernel_rfl))
 f20:=⟨ "slices.insertionSortCmpFunc[posthouse/api.Host]",by decide,Tryz.func272.trans (Yu some (by kernel_rfl))⟩
 f21:=⟨ "slices.heapSortCmpFunc[posthouse/api.Host]",by decide,Tryz.func273.trans (Yu some (by kernel_rfl))⟩
 f22:=⟨ "slices.breakPatternsCmpFunc[posthouse/api.Host]",by decide,Tryz.func274.trans (Yu some (by kernel_rfl))⟩
 f23:=⟨ "slices.choosePivotCmpFunc[posthouse/api.Host]",by decide,Tryz.func275.trans (Yu some (by kernel_rfl))⟩
 f24:=⟨ "slices.reverseRangeCmpFunc[posthouse/api.Host]",by decide,Tryz.func276.trans (Yu some (by kernel_rfl))⟩
 f25:=⟨ "slices.partialInsertionSortCmpFunc[posthouse/api.Host]",by decide,Tryz.func277.trans (Yu some (by kernel_rfl))⟩
 f26:=⟨ "slices.partitionEqualCmpFunc[posthouse/api.Host]",by decide,Tryz.func278.trans (Yu some (by kernel_rfl))⟩
 f27:=⟨ "slices.partitionCmpFunc[posthouse/api.Host]",by decide,Tryz.func279.trans (Yu some (by kernel_rfl))⟩
 f28:=Tryz.func247.trans (Yu some (by kernel_rfl))
 f29:=Tryz.func248.trans (Yu some (by kernel_rfl))
 f46:=⟨ "slices.siftDownCmpFunc[posthouse/api.Host]",by decide,Tryz.func307.trans (Yu some (by kernel_rfl))⟩
 f47:=Tryz.func296.trans (Yu some (by kernel_rfl))
 f48:=Tryz.func297.trans (Yu some (by kernel_rfl))
 f49:=⟨ "slices.medianAdjacentCmpFunc[posthouse/api.Host]",by decide,Tryz.func308.trans (Yu some (by kernel_rfl))⟩
 f50:=⟨ "slices.medianCmpFunc[posthouse/api.Host]",by decide,Tryz.func309.trans (Yu some (by kernel_rfl))⟩
 f57:=⟨ "slices.order2CmpFunc[posthouse/api.Host]",by decide,Tryz.func337.trans (Yu some (by kernel_rfl))⟩
 t0:=ab3
 a0:=Tryz.isAgg0
 z0:=Tryz.sizeOf0
 v0:=Tryz.zeroValue0
 t3:=Z5
 a3:=Tryz.isAgg3
 z3:=Tryz.sizeOf3
 v3:=Tryz.zeroValue3
 t4:=Z6
 a4:=Tryz.isAgg4
 z4:=Tryz.sizeOf4
 v4:=Tryz.zeroValue4
 t5:=ZH
 a5:=Tryz.isAgg5
 z5:=Tryz.sizeOf5
 v5:=Tryz.zeroValue5
 t9:=Z7
 a9:=Tryz.isAgg9
 z9:=Tryz.sizeOf9
 v9:=Tryz.zeroValue9
 t22:=aa0
 a22:=Tryz.isAgg26
 z22:=Tryz.sizeOf26
 v22:=Tryz.zeroValue26
 t25:=Tryz.underlying232
 a25:=Tryz.isAgg232
 z25:=Tryz.sizeOf232
 v25:=Tryz.zeroValue232
 t39:=ab4
 a39:=Tryz.isAgg275
 z39:=Tryz.sizeOf275
 v39:=Tryz.zeroValue275
 t45:=ab5
 a45:=Tryz.isAgg324
 z45:=Tryz.sizeOf324
 v45:=Tryz.zeroValue324
 t46:=ab6
 a46:=Tryz.isAgg325
 z46:=Tryz.sizeOf325
 v46:=Tryz.zeroValue325
 t50:=ab7
 a50:=Tryz.isAgg284
 z50:=Tryz.sizeOf284
 v50:=Tryz.zeroValue284
 t53:=ab2
 a53:=Tryz.isAgg331
 z53:=Tryz.sizeOf331
 v53:=Tryz.zeroValue331
 t55:=ab8
 a55:=Tryz.isAgg303
 z55:=Tryz.sizeOf303
 v55:=Tryz.zeroValue303
 t66:=ab9
 a66:=Tryz.isAgg374
 z66:=Tryz.sizeOf374
 v66:=Tryz.zeroValue374
 t70:=ac0
 a70:=Tryz.isAgg378
 z70:=Tryz.sizeOf378
 v70:=Tryz.zeroValue378
 t76:=ac1
 a76:=Tryz.isAgg406
 z76:=Tryz.sizeOf406
 v76:=Tryz.zeroValue406
 t77:=ac2
 a77:=Tryz.isAgg407
 z77:=Tryz.sizeOf407
 v77:=Tryz.zeroValue407
}
end Go.Proofs.YtkhepdpfdhdlaaaGreatDoor
