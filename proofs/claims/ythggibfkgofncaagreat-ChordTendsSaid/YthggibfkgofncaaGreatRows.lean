/-
  No cell of these rows narrows 'for every input' (looked for: loops, veiled, ifaces, maps, wideKeys, modest, calm, conditions, laid).
  DERIVED. THE GIVEN ROWS OF THIS SEAT. 4 by the template 'for every input the law returns true; each argument reads behind the call as it read before'; 0 by the template 'total and deterministic' (their statements: YthggibfkgofncaaGreatTotals.lean).
  GIVEN WITH THE SEED: the statements are not yours to turn. If you find one false, say at which input.
  Laid BY PROGRAM, IN A SANDBOX (cutbox-rows.mjs): the forced cells as the released guide's own fill.sh prints them over the translation 767acff6916ba005… (all of the seat's roots in one cut). By AI agents, Wed Nov 11 2026. No macro, syntax, notation, axiom, sorry.
-/
import Derived.Test.YthggibfkgofncaaGreatChecked
import GoSem.Claim
import GoSem.ClaimJoined
import GoSem.ClaimMapViews
import Derived.JoinedTies
import Derived.KernelRfl
namespace Go.Proofs.YthggibfkgofncaaGreat
/- THE CELL 'sum', in the pinned program and in every row, IS THE sha256 OF THE DUMP (.gsa) THAT YthggibfkgofncaaGreatProg.lean LOADS. Nothing in Lean hashes anything: it is a label: what it is worth is what the hold of that sum in a sandbox is worth. -/
noncomputable def Tryz.pinned : Pinned := { name := "ythggibfkgofncaagreat", sum := "767acff6916ba005f6239388d368d99c8046ca14b95304cc5a2e688f48bb6a1f", checked := Tryz.checked }
namespace Rows
def none {H : Type} : Left H := { results := [], args := [] }

/-- 'posthouselaw10.ChordComes': WHATEVER THE INPUT: true; the input reads as it did. -/
def chordComesSpec : ChangeSpec := { name := "chordComes", fn := fun _ => fun
  | [d1, d2, d3, d4, d5] => { results := [.lit (.bool true)], args := [d1, d2, d3, d4, d5] }
  | _ => none }
def chordComesRow : OpenClaim := { program := "ythggibfkgofncaagreat", sum := "767acff6916ba005f6239388d368d99c8046ca14b95304cc5a2e688f48bb6a1f", func := "posthouse/posthouselaw10.ChordComes", spec := "chordComes", unfollowed := true, recurses := true, apart := false }
def ChordComesSaid : Prop := chordComesRow.holds Tryz.pinned (OpenSpec.ofChange chordComesSpec)

/-- ITS FALSE NEIGHBOUR: 'it returns false'. Refute it at one input. -/
def chordComesWrong : ChangeSpec := { name := "chordComes", fn := fun _ => fun
  | [d1, d2, d3, d4, d5] => { results := [.lit (.bool false)], args := [d1, d2, d3, d4, d5] }
  | _ => none }
def ChordComesWrongFalsely : Prop := chordComesRow.holds Tryz.pinned (OpenSpec.ofChange chordComesWrong)

/-- 'posthouselaw10.ChordTends': WHATEVER THE INPUT: true; the input reads as it did. -/
def chordTendsSpec : ChangeSpec := { name := "chordTends", fn := fun _ => fun
  | [d1, d2] => { results := [.lit (.bool true)], args := [d1, d2] }
  | _ => none }
def chordTendsRow : OpenClaim := { program := "ythggibfkgofncaagreat", sum := "767acff6916ba005f6239388d368d99c8046ca14b95304cc5a2e688f48bb6a1f", func := "posthouse/posthouselaw10.ChordTends", spec := "chordTends", unfollowed := true, recurses := true, apart := false }
def ChordTendsSaid : Prop := chordTendsRow.holds Tryz.pinned (OpenSpec.ofChange chordTendsSpec)

/-- ITS FALSE NEIGHBOUR: 'it returns false'. Refute it at one input. -/
def chordTendsWrong : ChangeSpec := { name := "chordTends", fn := fun _ => fun
  | [d1, d2] => { results := [.lit (.bool false)], args := [d1, d2] }
  | _ => none }
def ChordTendsWrongFalsely : Prop := chordTendsRow.holds Tryz.pinned (OpenSpec.ofChange chordTendsWrong)

/-- 'posthouselaw10.ChordGoes': WHATEVER THE INPUT: true; the input reads as it did. -/
def chordGoesSpec : ChangeSpec := { name := "chordGoes", fn := fun _ => fun
  | [d1, d2] => { results := [.lit (.bool true)], args := [d1, d2] }
  | _ => none }
def chordGoesRow : OpenClaim := { program := "ythggibfkgofncaagreat", sum := "767acff6916ba005f6239388d368d99c8046ca14b95304cc5a2e688f48bb6a1f", func := "posthouse/posthouselaw10.ChordGoes", spec := "chordGoes", unfollowed := true, recurses := true, apart := false }
def ChordGoesSaid : Prop := chordGoesRow.holds Tryz.pinned (OpenSpec.ofChange chordGoesSpec)

/-- ITS FALSE NEIGHBOUR: 'it returns false'. Refute it at one input. -/
def chordGoesWrong : ChangeSpec := { name := "chordGoes", fn := fun _ => fun
  | [d1, d2] => { results := [.lit (.bool false)], args := [d1, d2] }
  | _ => none }
def ChordGoesWrongFalsely : Prop := chordGoesRow.holds Tryz.pinned (OpenSpec.ofChange chordGoesWrong)

/-- 'posthouselaw10.ChordRounds': WHATEVER THE INPUT: true; the input reads as it did. -/
def chordRoundsSpec : ChangeSpec := { name := "chordRounds", fn := fun _ => fun
  | [d] => { results := [.lit (.bool true)], args := [d] }
  | _ => none }
def chordRoundsRow : OpenClaim := { program := "ythggibfkgofncaagreat", sum := "767acff6916ba005f6239388d368d99c8046ca14b95304cc5a2e688f48bb6a1f", func := "posthouse/posthouselaw10.ChordRounds", spec := "chordRounds", unfollowed := true, recurses := true, apart := false }
def ChordRoundsSaid : Prop := chordRoundsRow.holds Tryz.pinned (OpenSpec.ofChange chordRoundsSpec)

/-- ITS FALSE NEIGHBOUR: 'it returns false'. Refute it at one input. -/
def chordRoundsWrong : ChangeSpec := { name := "chordRounds", fn := fun _ => fun
  | [d] => { results := [.lit (.bool false)], args := [d] }
  | _ => none }
def ChordRoundsWrongFalsely : Prop := chordRoundsRow.holds Tryz.pinned (OpenSpec.ofChange chordRoundsWrong)

/- THE SECOND FORM. 'bulk': how many values and letters a reading holds, each counted each time it is reached (what is shared counts as often as it is met; a slice's spare places count too). A statement '..UptoSaid' is the law's where the arguments, and the package variables that the reading takes, are together of bulk at most 1048576: NARROWER than '..Said'. Prove '..Said' where nothing that the law and all that it calls make is longer than what came in: it says more and counts as full. Else prove '..UptoSaid'. A law counts once. -/
mutual
def uptoBulk {H : Type} : DataW H → Nat
  | .lit (.string bytes) => bytes.length + 1
  | .lit _ => 1
  | .nil => 1
  | .ptr d => uptoBulk d + 1
  | .slice elems spare => uptoBulkAll elems + uptoBulkAll spare + 1
  | .agg parts => uptoBulkAll parts + 1
  | .iface _ d => uptoBulk d + 1
  | .map entries => uptoBulkEntries entries + 1
  | .held _ => 1
def uptoBulkAll {H : Type} : List (DataW H) → Nat
  | [] => 0
  | d :: r => uptoBulk d + uptoBulkAll r
def uptoBulkEntries {H : Type} : List (Lit × DataW H) → Nat
  | [] => 0
  | x :: r => uptoBulkEntry x + uptoBulkEntries r
def uptoBulkEntry {H : Type} : Lit × DataW H → Nat
  | (.string bytes, d) => bytes.length + uptoBulk d + 1
  | (_, d) => uptoBulk d + 1
 end
def uptoSmall : (H : Type) → List (DataW H) → Bool := fun _ ds => decide (uptoBulkAll ds ≤ 1048576)
def OpenSpec.upto (s : _root_.Go.ChangeSpec) : _root_.Go.OpenSpec := { _root_.Go.OpenSpec.ofChange s with cond := some uptoSmall }

/-- 'posthouselaw10.ChordComes', WHERE WHAT IT READS IS OF BULK AT MOST 1048576: true; the input reads as it did. -/
def chordComesUptoRow : OpenClaim := { program := "ythggibfkgofncaagreat", sum := "767acff6916ba005f6239388d368d99c8046ca14b95304cc5a2e688f48bb6a1f", func := "posthouse/posthouselaw10.ChordComes", spec := "chordComes", unfollowed := true, recurses := true, apart := false, narrowed := true }
def ChordComesUptoSaid : Prop := chordComesUptoRow.holds Tryz.pinned (OpenSpec.upto chordComesSpec)

/-- 'posthouselaw10.ChordTends', WHERE WHAT IT READS IS OF BULK AT MOST 1048576: true; the input reads as it did. -/
def chordTendsUptoRow : OpenClaim := { program := "ythggibfkgofncaagreat", sum := "767acff6916ba005f6239388d368d99c8046ca14b95304cc5a2e688f48bb6a1f", func := "posthouse/posthouselaw10.ChordTends", spec := "chordTends", unfollowed := true, recurses := true, apart := false, narrowed := true }
def ChordTendsUptoSaid : Prop := chordTendsUptoRow.holds Tryz.pinned (OpenSpec.upto chordTendsSpec)

/-- 'posthouselaw10.ChordGoes', WHERE WHAT IT READS IS OF BULK AT MOST 1048576: true; the input reads as it did. -/
def chordGoesUptoRow : OpenClaim := { program := "ythggibfkgofncaagreat", sum := "767acff6916ba005f6239388d368d99c8046ca14b95304cc5a2e688f48bb6a1f", func := "posthouse/posthouselaw10.ChordGoes", spec := "chordGoes", unfollowed := true, recurses := true, apart := false, narrowed := true }
def ChordGoesUptoSaid : Prop := chordGoesUptoRow.holds Tryz.pinned (OpenSpec.upto chordGoesSpec)

/-- 'posthouselaw10.ChordRounds', WHERE WHAT IT READS IS OF BULK AT MOST 1048576: true; the input reads as it did. -/
def chordRoundsUptoRow : OpenClaim := { program := "ythggibfkgofncaagreat", sum := "767acff6916ba005f6239388d368d99c8046ca14b95304cc5a2e688f48bb6a1f", func := "posthouse/posthouselaw10.ChordRounds", spec := "chordRounds", unfollowed := true, recurses := true, apart := false, narrowed := true }
def ChordRoundsUptoSaid : Prop := chordRoundsUptoRow.holds Tryz.pinned (OpenSpec.upto chordRoundsSpec)

end Rows
end Go.Proofs.YthggibfkgofncaaGreat
