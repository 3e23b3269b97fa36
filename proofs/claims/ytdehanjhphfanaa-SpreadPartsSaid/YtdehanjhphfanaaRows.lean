/-
  No cell of these rows narrows 'for every input' (looked for: loops, veiled, ifaces, maps, wideKeys, modest, calm, conditions, laid).
  DERIVED. THE GIVEN ROWS OF THIS SEAT. 4 by the template 'for every input the law returns true; each argument reads behind the call as it read before'; 0 by the template 'total and deterministic' (their statements: YtdehanjhphfanaaTotals.lean).
  GIVEN WITH THE SEED: the statements are not yours to turn. If you find one false, say at which input.
  Laid BY PROGRAM, IN A SANDBOX (cutbox-rows.mjs): the forced cells as the released guide's own fill.sh prints them over the translation 9744d184e40f64ab… (all of the seat's roots in one cut). By AI agents, Wed Nov 11 2026. No macro, syntax, notation, axiom, sorry.
-/
import Derived.Test.YtdehanjhphfanaaChecked
import GoSem.Claim
import GoSem.ClaimJoined
import GoSem.ClaimMapViews
import Derived.JoinedTies
import Derived.KernelRfl
namespace Go.Proofs.Ytdehanjhphfanaa
/- THE CELL 'sum', in the pinned program and in every row, IS THE sha256 OF THE DUMP (.gsa) THAT YtdehanjhphfanaaProg.lean LOADS. Nothing in Lean hashes anything: it is a label: what it is worth is what the hold of that sum in a sandbox is worth. -/
noncomputable def Try.pinned : Pinned := { name := "ytdehanjhphfanaa", sum := "9744d184e40f64ab88ad58132a3bca0bb0ab524986c0521446d3e58501e557df", checked := Try.checked }
namespace Rows
def none {H : Type} : Left H := { results := [], args := [] }

/-- 'posthouselaw14.SpreadEnds': WHATEVER THE INPUT: true; the input reads as it did. -/
def spreadEndsSpec : ChangeSpec := { name := "spreadEnds", fn := fun _ => fun
  | [d1, d2] => { results := [.lit (.bool true)], args := [d1, d2] }
  | _ => none }
def spreadEndsRow : OpenClaim := { program := "ytdehanjhphfanaa", sum := "9744d184e40f64ab88ad58132a3bca0bb0ab524986c0521446d3e58501e557df", func := "posthouse/posthouselaw14.SpreadEnds", spec := "spreadEnds", unfollowed := true, recurses := true, apart := false }
def SpreadEndsSaid : Prop := spreadEndsRow.holds Try.pinned (OpenSpec.ofChange spreadEndsSpec)

/-- ITS FALSE NEIGHBOUR: 'it returns false'. Refute it at one input. -/
def spreadEndsWrong : ChangeSpec := { name := "spreadEnds", fn := fun _ => fun
  | [d1, d2] => { results := [.lit (.bool false)], args := [d1, d2] }
  | _ => none }
def SpreadEndsWrongFalsely : Prop := spreadEndsRow.holds Try.pinned (OpenSpec.ofChange spreadEndsWrong)

/-- 'posthouselaw14.SpreadStops': WHATEVER THE INPUT: true; the input reads as it did. -/
def spreadStopsSpec : ChangeSpec := { name := "spreadStops", fn := fun _ => fun
  | [d1, d2, d3] => { results := [.lit (.bool true)], args := [d1, d2, d3] }
  | _ => none }
def spreadStopsRow : OpenClaim := { program := "ytdehanjhphfanaa", sum := "9744d184e40f64ab88ad58132a3bca0bb0ab524986c0521446d3e58501e557df", func := "posthouse/posthouselaw14.SpreadStops", spec := "spreadStops", unfollowed := true, recurses := true, apart := false }
def SpreadStopsSaid : Prop := spreadStopsRow.holds Try.pinned (OpenSpec.ofChange spreadStopsSpec)

/-- ITS FALSE NEIGHBOUR: 'it returns false'. Refute it at one input. -/
def spreadStopsWrong : ChangeSpec := { name := "spreadStops", fn := fun _ => fun
  | [d1, d2, d3] => { results := [.lit (.bool false)], args := [d1, d2, d3] }
  | _ => none }
def SpreadStopsWrongFalsely : Prop := spreadStopsRow.holds Try.pinned (OpenSpec.ofChange spreadStopsWrong)

/-- 'posthouselaw14.SpreadParts': WHATEVER THE INPUT: true; the input reads as it did. -/
def spreadPartsSpec : ChangeSpec := { name := "spreadParts", fn := fun _ => fun
  | [d1, d2] => { results := [.lit (.bool true)], args := [d1, d2] }
  | _ => none }
def spreadPartsRow : OpenClaim := { program := "ytdehanjhphfanaa", sum := "9744d184e40f64ab88ad58132a3bca0bb0ab524986c0521446d3e58501e557df", func := "posthouse/posthouselaw14.SpreadParts", spec := "spreadParts", unfollowed := true, recurses := true, apart := false }
def SpreadPartsSaid : Prop := spreadPartsRow.holds Try.pinned (OpenSpec.ofChange spreadPartsSpec)

/-- ITS FALSE NEIGHBOUR: 'it returns false'. Refute it at one input. -/
def spreadPartsWrong : ChangeSpec := { name := "spreadParts", fn := fun _ => fun
  | [d1, d2] => { results := [.lit (.bool false)], args := [d1, d2] }
  | _ => none }
def SpreadPartsWrongFalsely : Prop := spreadPartsRow.holds Try.pinned (OpenSpec.ofChange spreadPartsWrong)

/-- 'posthouselaw14.SpreadAdds': WHATEVER THE INPUT: true; the input reads as it did. -/
def spreadAddsSpec : ChangeSpec := { name := "spreadAdds", fn := fun _ => fun
  | [d1, d2, d3] => { results := [.lit (.bool true)], args := [d1, d2, d3] }
  | _ => none }
def spreadAddsRow : OpenClaim := { program := "ytdehanjhphfanaa", sum := "9744d184e40f64ab88ad58132a3bca0bb0ab524986c0521446d3e58501e557df", func := "posthouse/posthouselaw14.SpreadAdds", spec := "spreadAdds", unfollowed := true, recurses := true, apart := false }
def SpreadAddsSaid : Prop := spreadAddsRow.holds Try.pinned (OpenSpec.ofChange spreadAddsSpec)

/-- ITS FALSE NEIGHBOUR: 'it returns false'. Refute it at one input. -/
def spreadAddsWrong : ChangeSpec := { name := "spreadAdds", fn := fun _ => fun
  | [d1, d2, d3] => { results := [.lit (.bool false)], args := [d1, d2, d3] }
  | _ => none }
def SpreadAddsWrongFalsely : Prop := spreadAddsRow.holds Try.pinned (OpenSpec.ofChange spreadAddsWrong)

/- THE SECOND FORM. 'bulk': how many values and letters a reading holds, each counted each time it is reached (what is shared counts as often as it is met; a slice's spare places count too). A statement '..UptoSaid' is the law's where the arguments, and the package variables that the reading takes, are together of bulk at most 1048576: NARROWER than '..Said'. Prove '..Said' where nothing that the law and all that it calls make is longer than what came in: it says more and counts as full. Else prove '..UptoSaid'. A law counts once. -/
mutual
def uptoBulk {H : Type} : DataW H → Nat
  | .lit (.string bytes) => bytes.length + 1
  | .lit _ => 1
  | .nil => 1
  | .ptr d => uptoBulk d + 1
  | .slice elems spare => uptoBulkAll elems + uptoBulkAll spare + 1
  | .agg parts => uptoBulkAll parts + 1
  | .iface _ d => uptoBulk d + 1
  | .map entries => uptoBulkEntries entries + 1
  | .held _ => 1
def uptoBulkAll {H : Type} : List (DataW H) → Nat
  | [] => 0
  | d :: r => uptoBulk d + uptoBulkAll r
def uptoBulkEntries {H : Type} : List (Lit × DataW H) → Nat
  | [] => 0
  | x :: r => uptoBulkEntry x + uptoBulkEntries r
def uptoBulkEntry {H : Type} : Lit × DataW H → Nat
  | (.string bytes, d) => bytes.length + uptoBulk d + 1
  | (_, d) => uptoBulk d + 1
 end
def uptoSmall : (H : Type) → List (DataW H) → Bool := fun _ ds => decide (uptoBulkAll ds ≤ 1048576)
def OpenSpec.upto (s : _root_.Go.ChangeSpec) : _root_.Go.OpenSpec := { _root_.Go.OpenSpec.ofChange s with cond := some uptoSmall }

/-- 'posthouselaw14.SpreadEnds', WHERE WHAT IT READS IS OF BULK AT MOST 1048576: true; the input reads as it did. -/
def spreadEndsUptoRow : OpenClaim := { program := "ytdehanjhphfanaa", sum := "9744d184e40f64ab88ad58132a3bca0bb0ab524986c0521446d3e58501e557df", func := "posthouse/posthouselaw14.SpreadEnds", spec := "spreadEnds", unfollowed := true, recurses := true, apart := false, narrowed := true }
def SpreadEndsUptoSaid : Prop := spreadEndsUptoRow.holds Try.pinned (OpenSpec.upto spreadEndsSpec)

/-- 'posthouselaw14.SpreadStops', WHERE WHAT IT READS IS OF BULK AT MOST 1048576: true; the input reads as it did. -/
def spreadStopsUptoRow : OpenClaim := { program := "ytdehanjhphfanaa", sum := "9744d184e40f64ab88ad58132a3bca0bb0ab524986c0521446d3e58501e557df", func := "posthouse/posthouselaw14.SpreadStops", spec := "spreadStops", unfollowed := true, recurses := true, apart := false, narrowed := true }
def SpreadStopsUptoSaid : Prop := spreadStopsUptoRow.holds Try.pinned (OpenSpec.upto spreadStopsSpec)

/-- 'posthouselaw14.SpreadParts', WHERE WHAT IT READS IS OF BULK AT MOST 1048576: true; the input reads as it did. -/
def spreadPartsUptoRow : OpenClaim := { program := "ytdehanjhphfanaa", sum := "9744d184e40f64ab88ad58132a3bca0bb0ab524986c0521446d3e58501e557df", func := "posthouse/posthouselaw14.SpreadParts", spec := "spreadParts", unfollowed := true, recurses := true, apart := false, narrowed := true }
def SpreadPartsUptoSaid : Prop := spreadPartsUptoRow.holds Try.pinned (OpenSpec.upto spreadPartsSpec)

/-- 'posthouselaw14.SpreadAdds', WHERE WHAT IT READS IS OF BULK AT MOST 1048576: true; the input reads as it did. -/
def spreadAddsUptoRow : OpenClaim := { program := "ytdehanjhphfanaa", sum := "9744d184e40f64ab88ad58132a3bca0bb0ab524986c0521446d3e58501e557df", func := "posthouse/posthouselaw14.SpreadAdds", spec := "spreadAdds", unfollowed := true, recurses := true, apart := false, narrowed := true }
def SpreadAddsUptoSaid : Prop := spreadAddsUptoRow.holds Try.pinned (OpenSpec.upto spreadAddsSpec)

end Rows
end Go.Proofs.Ytdehanjhphfanaa
