/- Package server and what it stands on, so far as it is wanted: what each function answers. -/
import Derived.Test.YtkhepdpfdhdlaaaGreatDoorZg
set_option linter.unusedVariables false
set_option linter.unusedSimpArgs false
set_option linter.unusedSectionVars false
namespace Go.Proofs.YtkhepdpfdhdlaaaGreatDoor
open Go.RowKit
theorem sF (a b:Sv) (vt vu:Value) (w:World) (hT:Mk w vt a.tb) (hU:Mk w vu b.tb) (hal:a.tb.length<=1000) (hbl:b.tb.length<=1000):Calls Tryz.prog 23 [.agg (de a.no a.sec vt),.agg (de b.no b.sec vu)].toArray w (cd w (is (.bool (decide (a=b))))):=by
 refine bN Tryz.func23 rfl Tryz.ntmps23 rfl λf h s=>qr (aZ (de a.no a.sec vt) h s rfl rfl rfl λf w1 b2 h s=>aZ (de b.no b.sec vu) h s rfl rfl rfl λf w1 b3 h s=>e9 ac 1 h rfl λf h=>ah ?_)
 refine rs ac 1 h rfl λf h=>ag (V:=.int .i64 a.no) (ae (aF.of_own s 1 rfl) 0 (CT _ _ _)) h bu rfl rfl λf h=>al ac 1 h rfl λf h=>ag (V:=.int .i64 b.no) (ae (aF.of_own s 0 rfl) 0 (CT _ _ _)) h bu rfl rfl λf h=>iV ac h rfl (λh0 f h=>?_) (λh0 f h=>?_)
 ·refine e9 ac 15 h rfl λf h=>av8 (aA rfl h s rfl (by show _=_;rw [Ix h0]))
 ·skip
  cases h1:(decide (a.sec=b.sec):Bool)
  ·refine al ac 2 h rfl λf h=>bF h rfl (ag (V:=.string a.sec) (ae (aF.of_own s 1 rfl) 1 (Me _ _ _)) h gK rfl rfl λf h=>al ac 1 h rfl λf h=>bF h rfl (ag (V:=.string b.sec) (ae (aF.of_own s 0 rfl) 1 (Me _ _ _)) h gK rfl rfl λf h=>bF h rfl (am h (a8 (.bool false) (gk (h.ev rfl) (h.ev rfl)) (ar8 Value.bool h1)) rfl λf h=>e9 ac 9 h rfl λf h=>av8 (aA rfl h s rfl (by show _=_;rw [LS h0 h1])))))
  ·refine al ac 2 h rfl λf h=>bF h rfl (ag (V:=.string a.sec) (ae (aF.of_own s 1 rfl) 1 (Me _ _ _)) h gK rfl rfl λf h=>al ac 1 h rfl λf h=>bF h rfl (ag (V:=.string b.sec) (ae (aF.of_own s 0 rfl) 1 (Me _ _ _)) h gK rfl rfl λf h=>bF h rfl (am h (a8 (.bool true) (gk (h.ev rfl) (h.ev rfl)) (ar8 Value.bool h1)) rfl λf h=>al ac 3 h rfl λf h=>bF h rfl (ag (V:=vt) (ae (aF.of_own s 1 rfl) 2 (OY _ _ _)) h tN rfl rfl λf h=>al ac 1 h rfl λf h=>bF h rfl (ag (V:=vu) (ae (aF.of_own s 0 rfl) 2 (OY _ _ _)) h tN rfl rfl λf h=>bF h rfl (dM h s X7 (A5 a.tb b.tb vt vu _ (hT.keep s.ext) (hU.keep s.ext) hal hbl) rfl rfl λf w1 h s=>e9 ac 2 h rfl λf h=>av8 (aA rfl h s rfl (by show _=_;rw [Hl h0 h1]))))))))
end Go.Proofs.YtkhepdpfdhdlaaaGreatDoor
