/- Package server and what it stands on, so far as it is wanted: what each function answers. -/
import Derived.Test.YthmlflaiidhoiaaGreatDoorZq
set_option linter.unusedVariables false
set_option linter.unusedSimpArgs false
set_option linter.unusedSectionVars false
namespace Go.Proofs.YthmlflaiidhoiaaGreatDoor
open Go.RowKit
theorem nS (sv:Sv) (vt:Value) (w:World) (hT:ma w vt sv.tb) (htl:sv.tb.length<=1000):Calls Tryz.prog 71 [.agg (gx sv.no sv.sec vt)].toArray w (bW w (is (.bool (cU sv)))):=by
 refine bG Tryz.func71 rfl Tryz.ntmps71 rfl λf h s=>qr (ba (gx sv.no sv.sec vt) h s rfl rfl rfl λf w1 b1 h s=>e9 ac 1 h rfl λf h=>ag ?_)
 refine rs ac 1 h rfl λf h=>ai (V:=.int .i64 sv.no) (ah (aX.of_own s 0 rfl) 0 (F5 _ _ _)) h bQ rfl rfl λf h=>kJ ac h rfl (λh0 f h=>?_) (λh0 f h=>?_)
 ·refine e9 ac 17 h rfl λf h=>au3 (aA rfl h s rfl (by show _=_;unfold cU;rw [h0];rfl))
 ·skip
  refine ap ac 2 h rfl λf h=>cg h rfl (ai (V:=.int .i64 sv.no) (ah (aX.of_own s 0 rfl) 0 (F5 _ _ _)) h bQ rfl rfl λf h=>cg h rfl (nq ac (decide (sv.no<=15)) h rfl ((ar3.2 (by omega))) (λh1 f h=>?_) (λh1 f h=>?_)))
  ·refine e9 ac 13 h rfl λf h=>au3 (aA rfl h s rfl (by show _=_;unfold cU;rw [h0,h1];rfl))
  ·skip
   refine ap ac 3 h rfl λf h=>cg h rfl (ai (V:=.string sv.sec) (ah (aX.of_own s 0 rfl) 1 (Z4 _ _ _)) h Nr rfl rfl λf h=>cg h rfl (ak h (kv aA0 (h.ev rfl)) rfl λf h=>cg h rfl (nq ac (decide (sv.sec.size<=64)) h rfl ((ar3.2 (by omega))) (λh2 f h=>?_) (λh2 f h=>?_))))
   ·refine e9 ac 7 h rfl λf h=>au3 (aA rfl h s rfl (by show _=_;unfold cU;rw [h0,h1,h2];rfl))
   ·refine ap ac 3 h rfl λf h=>cg h rfl (ai (V:=vt) (ah (aX.of_own s 0 rfl) 2 (VM _ _ _)) h iu rfl rfl λf h=>cg h rfl (fP h s R2 (sY sv.tb vt _ (hT.keep s.ext) htl) rfl rfl λf w1 h s=>e9 ac 2 h rfl λf h=>au3 (aA rfl h s rfl (by show _=_;unfold cU;rw [h0,h1,h2];rfl))))
end Go.Proofs.YthmlflaiidhoiaaGreatDoor
