/- Package chord and what it stands on, so far as it is wanted: what each function answers. -/
import Derived.Test.YtkhepdpfdhdlaaaGreatDoorZd
set_option linter.unusedVariables false
set_option linter.unusedSimpArgs false
set_option linter.unusedSectionVars false
namespace Go.Proofs.YtkhepdpfdhdlaaaGreatDoor
open Go.RowKit
theorem Kk (no:Int) (l:List Mb) (vh:Value) (B9:List Own) (w0 w:World) (s:St w0 B9 w) (hR:br w vh 33 l.length (ap l)):Calls Tryz.prog 271 [.int .i64 no,vh].toArray w (λe w9=>∃ r,e=.returned r/\∃ bs bn,r=.func (.func 306) #[] #[.pointer (some ⟨bs,0,none⟩),.pointer (some ⟨bn,0,none⟩)]/\St w0 (.blk bs (.cells #[vh] 70)::.blk bn (.cells #[.int .i64 no] 3)::B9) w9):=by
 obtain ⟨a,c,rfl⟩:=hR.len
 exact Og no a _ c B9 w0 w s
end Go.Proofs.YtkhepdpfdhdlaaaGreatDoor
