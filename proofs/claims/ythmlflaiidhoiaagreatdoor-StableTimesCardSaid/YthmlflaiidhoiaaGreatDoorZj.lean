/- Package chord and what it stands on, so far as it is wanted: what each function answers. -/
import Derived.Test.YthmlflaiidhoiaaGreatDoorZd
set_option linter.unusedVariables false
set_option linter.unusedSimpArgs false
set_option linter.unusedSectionVars false
namespace Go.Proofs.YthmlflaiidhoiaaGreatDoor
open Go.RowKit
theorem Iq (no:Int) (l:List Mb) (vh:Value) (B9:List Own) (w0 w:World) (s:St w0 B9 w) (hR:a7 w vh 33 l.length (aj l)):Calls Tryz.prog 275 [.int .i64 no,vh].toArray w (λe w9=>∃ r,e=.returned r/\∃ bs bn,r=.func (.func 311) #[] #[.pointer (some ⟨bs,0,none⟩),.pointer (some ⟨bn,0,none⟩)]/\St w0 (.blk bs (.cells #[vh] 61)::.blk bn (.cells #[.int .i64 no] 3)::B9) w9):=by
 obtain ⟨a,c,rfl⟩:=hR.len
 exact NL no a _ c B9 w0 w s
end Go.Proofs.YthmlflaiidhoiaaGreatDoor
