/- SpreadParts: whatever triggers and packet, the law answers true; no condition. -/
import Derived.Test.YtdehanjhphfanaaRows
import Derived.Test.YtdehanjhphfanaaYc
import Derived.ProofKit
import Derived.OpenShut
set_option linter.unusedVariables false
set_option linter.unusedSimpArgs false
set_option linter.unusedSectionVars false
namespace Go.Proofs.Ytdehanjhphfanaa
open Go.ChangeShapes Go.WideShapes Go.ChangeAt Go.RowKit
theorem own : ownKnob Try.prog.godebug = none := by kernel_rfl
theorem laidOut : laidOutB Try.prog = true := by kernel_rfl
set_option maxRecDepth 100000 in
theorem liftedSpreadParts (os : Os) (started : os.Started) (H : Type) (enc : TypeId × Value → H) :
    ReturnsInHanded {} Try.checked os 5 .any (Rows.spreadPartsSpec.pre6 enc Try.prog Try.f5 Rows.spreadPartsRow.domain false) (Rows.spreadPartsSpec.post enc Try.prog Try.f5 false true false false) := by
  refine returnsInHanded_of_change (C := Try.checked) own started (by kernel_rfl) Try.func5
    (ChangeSpec.witness6 (enc := enc) (C := Try.checked) false ⟨#[], #[.slice none 0 0, .agg #[.slice none 0 0, .int .i64 0, .string ⟨#[]⟩]], []⟩ 8 (by kernel_rfl) (by kernel_rfl) (by kernel_rfl) (by kernel_rfl)) ?_
  intro W base args ds gs before hval0 hW hcnd _
  have hval : ∀ (j : Nat) t v, Try.f5.params[j]? = some t → args[j]? = some v → Value.okWide Try.prog W .any base t v := hval0
  have hW1 := hW
  obtain ⟨p, q, hA0, hV, rfl, hfz, hnd⟩ := hW
  have hlt : ∀ x ∈ p, x.block < W.heap.size := fun x hx => hW1.lt x (List.mem_append_left _ hx)
  have hA : DataW.TrodAll enc Try.prog W 0 (fun _ => true) true Try.f5.params.toList args.toList ds p := hA0
  rw [Try.params5] at hA hval
  have hA1 := hA
  obtain ⟨v0, vs0, d0, ds0, p0, q0, hargs, rfl, rfl, h0, r0⟩ := trodAll_cons hA
  obtain ⟨v1, vs1, d1, ds1, p1, q1, rfl, rfl, rfl, h1, r1⟩ := trodAll_cons r0
  obtain ⟨rfl, rfl, rfl⟩ := trodAll_nil r1
  obtain rfl : args = #[v0, v1] := by cases args; simp_all
  obtain ⟨rfl, rfl⟩ := trodVars_none hV
  obtain ⟨ls0, hR0⟩ := open_tgs idTy (by kernel_rfl) (by kernel_rfl) Try.underlying3 (by kernel_rfl) Try.underlying53 rfl rfl rfl rfl rfl rfl (by kernel_rfl) Try.underlying22 Try.underlying58 rfl rfl rfl rfl rfl rfl (by kernel_rfl) (hval 0 22 v0 rfl rfl) h0
  obtain ⟨p1, u1, rfl, hR1⟩ := open_pk idTy (by kernel_rfl) (by kernel_rfl) Try.underlying3 (by kernel_rfl) Try.underlying9 (by kernel_rfl) (by kernel_rfl) Try.underlying23 Try.underlying53 rfl rfl rfl rfl rfl rfl (by kernel_rfl) Try.underlying25 rfl rfl rfl rfl rfl rfl (by kernel_rfl) (hval 1 25 v1 rfl rfl) h1
  refine (lsparts_any ls0 v0 p1 u1 W hR0 hR1).mono fun e W2 ⟨v, he, hv, bel⟩ => ?_
  obtain rfl := hv
  subst he
  exact ⟨_, rfl, _, _, _, [], _, [], hW1, trodAll_mk1 (shut_bool Try.underlying4 _), args_again laidOut bel.toBelow (by kernel_rfl) hA1 hlt, rfl, bel.toBelow.frame _, fun h => by cases h⟩
theorem holdsSpreadParts : Rows.SpreadPartsSaid :=
  OpenClaim.holds_of_wide 5 Try.f5 rfl rfl rfl rfl rfl rfl rfl ⟨rfl, rfl, rfl, rfl, rfl⟩ rfl rfl rfl rfl rfl (by kernel_rfl) Try.func5 (by kernel_rfl)
    (of_decide_eq_true (by kernel_rfl)) (by unfold Func.isWrapper; first | (rw [if_pos (by decide +kernel)]; kernel_rfl) | (rw [if_neg (by decide +kernel)]; exact ⟨rfl, rfl⟩))
    (fun os started H enc _ => liftedSpreadParts os started H enc)
#print axioms holdsSpreadParts
end Go.Proofs.Ytdehanjhphfanaa
