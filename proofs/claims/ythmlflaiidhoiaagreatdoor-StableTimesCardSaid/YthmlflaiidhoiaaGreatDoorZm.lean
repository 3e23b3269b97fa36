/- Package table and what it stands on, so far as it is wanted: what each function answers. -/
import Derived.Test.YthmlflaiidhoiaaGreatDoorZg
import Derived.Test.YthmlflaiidhoiaaGreatDoorZa
set_option linter.unusedVariables false
set_option linter.unusedSimpArgs false
set_option linter.unusedSectionVars false
namespace Go.Proofs.YthmlflaiidhoiaaGreatDoor
open Go.RowKit
theorem gV (x:Tg) (w:World):Calls Tryz.prog 43 [.agg (aV x)].toArray w (bW w (is (.bool (gH x)))):=by
 refine bG Tryz.func43 rfl Tryz.ntmps43 rfl λf h s=>qr (ba (aV x) h s rfl rfl rfl λf w1 b1 h s=>e9 ac 1 h rfl λf h=>ag ?_)
 refine rs ac 1 h rfl λf h=>ax (aX.subL (aX.of_own s 0 rfl) 32 34 (D:=eR (_)) (tL _)) h zS rfl (eU _) rfl λf h=>fx h s Wh (Va x.2.1 _) rfl rfl (λh0 f w1 h s=>?_) (λh0 f w1 h s=>?_)
 ·refine e9 ac 11 h rfl λf h=>au3 (aA rfl h s rfl (by show _=_;unfold gH;rw [h0]<;>rfl))
 ·skip
  refine ap ac 2 h rfl λf h=>cg h rfl (ai (ah (aX.of_own s 0 rfl) 66 (gd _)) h bQ rfl rfl λf h=>cg h rfl (kJ ac h rfl (λh1 f h=>?_) (λh1 f h=>?_)))
  ·refine e9 ac 7 h rfl λf h=>au3 (aA rfl h s rfl (by show _=_;unfold gH;rw [h0,h1]<;>rfl))
  ·refine ap ac 3 h rfl λf h=>cg h rfl (ai (ah (aX.of_own s 0 rfl) 66 (gd _)) h bQ rfl rfl λf h=>e9 ac 3 h rfl λf h=>au3 (aA rfl h s rfl (by show _=_;unfold gH;rw [h0,h1]<;>rfl)))
theorem AB (x y:Tg) (w:World):Calls Tryz.prog 143 [.agg (aV x),.agg (aV y)].toArray w (bW w (is (.int .i64 (qI x y 1)))):=by
 refine bG Tryz.func143 rfl Tryz.ntmps143 rfl λf h s=>qr (ba (aV x) h s rfl rfl rfl λf w1 b2 h s=>ba (aV y) h s rfl rfl rfl λf w1 b3 h s=>e9 ac 1 h rfl λf h=>cw ac 2 h rfl λf h=>ai (ah (aX.of_own s 1 rfl) 32 (sn _)) h bQ rfl rfl λf h=>ap ac 2 h rfl λf h=>ai (ah (aX.of_own s 0 rfl) 32 (sn _)) h bQ rfl rfl λf h=>fP h s B8 (tZ x.2.1.1 y.2.1.1 _) rfl rfl λf w1 h s=>e9 ac 1 h rfl λf h=>au3 (aA rfl h s rfl (rfl)))
theorem yF (x y:Tg) (w:World):Calls Tryz.prog 145 [.agg (aV x),.agg (aV y)].toArray w (bW w (is (.int .i64 (qI x y 3)))):=by
 refine bG Tryz.func145 rfl Tryz.ntmps145 rfl λf h s=>qr (ba (aV x) h s rfl rfl rfl λf w1 b2 h s=>ba (aV y) h s rfl rfl rfl λf w1 b3 h s=>e9 ac 1 h rfl λf h=>cw ac 2 h rfl λf h=>ai (ah (aX.of_own s 1 rfl) 65 (sH _)) h bQ rfl rfl λf h=>ap ac 2 h rfl λf h=>ai (ah (aX.of_own s 0 rfl) 65 (sH _)) h bQ rfl rfl λf h=>fP h s B8 (tZ x.2.1.2.2 y.2.1.2.2 _) rfl rfl λf w1 h s=>e9 ac 1 h rfl λf h=>au3 (aA rfl h s rfl (rfl)))
end Go.Proofs.YthmlflaiidhoiaaGreatDoor
