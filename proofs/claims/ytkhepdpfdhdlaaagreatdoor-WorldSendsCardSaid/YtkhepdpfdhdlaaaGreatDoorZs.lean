/- Package server and what it stands on, so far as it is wanted: what each function answers. -/
import Derived.Test.YtkhepdpfdhdlaaaGreatDoorZq
set_option linter.unusedVariables false
set_option linter.unusedSimpArgs false
set_option linter.unusedSectionVars false
namespace Go.Proofs.YtkhepdpfdhdlaaaGreatDoor
open Go.RowKit
theorem lB (sv:Sv) (vt:Value) (w:World) (hT:MX w vt sv.tb) (htl:sv.tb.length<=1000):Calls Tryz.prog 29 [.agg (de sv.no sv.sec vt)].toArray w (bW w (is (.bool (eL sv)))):=by
 refine bG Tryz.func29 rfl Tryz.ntmps29 rfl λf h s=>qr (bh (de sv.no sv.sec vt) h s rfl rfl rfl λf w1 b1 h s=>e9 ac 1 h rfl λf h=>ah ?_)
 refine rs ac 1 h rfl λf h=>ag (V:=.int .i64 sv.no) (ae (aJ.of_own s 0 rfl) 0 (ED _ _ _)) h bs rfl rfl λf h=>kB ac h rfl (λh0 f h=>?_) (λh0 f h=>?_)
 ·refine e9 ac 17 h rfl λf h=>Y8 (au rfl h s rfl (by show _=_;unfold eL;rw [h0];rfl))
 ·skip
  refine ap ac 2 h rfl λf h=>bX h rfl (ag (V:=.int .i64 sv.no) (ae (aJ.of_own s 0 rfl) 0 (ED _ _ _)) h bs rfl rfl λf h=>bX h rfl (jo ac (decide (sv.no<=15)) h rfl ((YE.2 (by omega))) (λh1 f h=>?_) (λh1 f h=>?_)))
  ·refine e9 ac 13 h rfl λf h=>Y8 (au rfl h s rfl (by show _=_;unfold eL;rw [h0,h1];rfl))
  ·skip
   refine ap ac 3 h rfl λf h=>bX h rfl (ag (V:=.string sv.sec) (ae (aJ.of_own s 0 rfl) 1 (VR _ _ _)) h hI rfl rfl λf h=>bX h rfl (ai h (dd Z7 (h.ev rfl)) rfl λf h=>bX h rfl (jo ac (decide (sv.sec.size<=64)) h rfl ((YE.2 (by omega))) (λh2 f h=>?_) (λh2 f h=>?_))))
   ·refine e9 ac 7 h rfl λf h=>Y8 (au rfl h s rfl (by show _=_;unfold eL;rw [h0,h1,h2];rfl))
   ·refine ap ac 3 h rfl λf h=>bX h rfl (ag (V:=vt) (ae (aJ.of_own s 0 rfl) 2 (TN _ _ _)) h Ay rfl rfl λf h=>bX h rfl (da h s Uj (zY sv.tb vt _ (hT.keep s.ext) htl) rfl rfl λf w1 h s=>e9 ac 2 h rfl λf h=>Y8 (au rfl h s rfl (by show _=_;unfold eL;rw [h0,h1,h2];rfl))))
end Go.Proofs.YtkhepdpfdhdlaaaGreatDoor
