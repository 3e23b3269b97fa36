/- Package server and what it stands on, so far as it is wanted: what each function answers. -/
import Derived.Test.YtkhepdpfdhdlaaaGreatDoorZt
set_option linter.unusedVariables false
set_option linter.unusedSimpArgs false
set_option linter.unusedSectionVars false
namespace Go.Proofs.YtkhepdpfdhdlaaaGreatDoor
open Go.RowKit
theorem mE (sv:Sv) (vt:Value) (w:World) (hT:Mk w vt sv.tb) (htl:sv.tb.length<=1000):Calls Tryz.prog 29 [.agg (de sv.no sv.sec vt)].toArray w (cd w (is (.bool (fI sv)))):=by
 refine bN Tryz.func29 rfl Tryz.ntmps29 rfl λf h s=>qr (aZ (de sv.no sv.sec vt) h s rfl rfl rfl λf w1 b1 h s=>e9 ac 1 h rfl λf h=>ah ?_)
 refine rs ac 1 h rfl λf h=>ag (V:=.int .i64 sv.no) (ae (aF.of_own s 0 rfl) 0 (CT _ _ _)) h bu rfl rfl λf h=>iV ac h rfl (λh0 f h=>?_) (λh0 f h=>?_)
 ·refine e9 ac 17 h rfl λf h=>av8 (aA rfl h s rfl (by show _=_;unfold fI;rw [h0];rfl))
 ·skip
  refine al ac 2 h rfl λf h=>bF h rfl (ag (V:=.int .i64 sv.no) (ae (aF.of_own s 0 rfl) 0 (CT _ _ _)) h bu rfl rfl λf h=>bF h rfl (kE ac (decide (sv.no<=15)) h rfl ((as8.2 (by omega))) (λh1 f h=>?_) (λh1 f h=>?_)))
  ·refine e9 ac 13 h rfl λf h=>av8 (aA rfl h s rfl (by show _=_;unfold fI;rw [h0,h1];rfl))
  ·skip
   refine al ac 3 h rfl λf h=>bF h rfl (ag (V:=.string sv.sec) (ae (aF.of_own s 0 rfl) 1 (Me _ _ _)) h gK rfl rfl λf h=>bF h rfl (am h (dX aB9 (h.ev rfl)) rfl λf h=>bF h rfl (kE ac (decide (sv.sec.size<=64)) h rfl ((as8.2 (by omega))) (λh2 f h=>?_) (λh2 f h=>?_))))
   ·refine e9 ac 7 h rfl λf h=>av8 (aA rfl h s rfl (by show _=_;unfold fI;rw [h0,h1,h2];rfl))
   ·refine al ac 3 h rfl λf h=>bF h rfl (ag (V:=vt) (ae (aF.of_own s 0 rfl) 2 (OY _ _ _)) h tN rfl rfl λf h=>bF h rfl (dM h s Wo (Ci sv.tb vt _ (hT.keep s.ext) htl) rfl rfl λf w1 h s=>e9 ac 2 h rfl λf h=>av8 (aA rfl h s rfl (by show _=_;unfold fI;rw [h0,h1,h2];rfl))))
end Go.Proofs.YtkhepdpfdhdlaaaGreatDoor
