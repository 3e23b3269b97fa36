/- Package table and what it stands on, so far as it is wanted: what each function answers. -/
import Derived.Test.YtkhepdpfdhdlaaaGreatDoorZf
import Derived.Test.YtkhepdpfdhdlaaaGreatDoorZa
set_option linter.unusedVariables false
set_option linter.unusedSimpArgs false
set_option linter.unusedSectionVars false
namespace Go.Proofs.YtkhepdpfdhdlaaaGreatDoor
open Go.RowKit
theorem gZ (x:Tg) (w:World):Calls Tryz.prog 115 [.agg (bY x)].toArray w (bW w (is (.bool (qH x)))):=by
 refine bG Tryz.func115 rfl Tryz.ntmps115 rfl λf h s=>qr (bh (bY x) h s rfl rfl rfl λf w1 b1 h s=>e9 ac 1 h rfl λf h=>ah ?_)
 refine rs ac 1 h rfl λf h=>aB (aJ.subL (aJ.of_own s 0 rfl) 32 34 (D:=co (_)) (Gy _)) h eQ rfl (br _) rfl λf h=>eK h s jV (jA x.2.1 _) rfl rfl (λh0 f w1 h s=>?_) (λh0 f w1 h s=>?_)
 ·refine e9 ac 11 h rfl λf h=>Y8 (au rfl h s rfl (by show _=_;unfold qH;rw [h0]<;>rfl))
 ·skip
  refine ap ac 2 h rfl λf h=>bX h rfl (ag (ae (aJ.of_own s 0 rfl) 66 (nM _)) h bs rfl rfl λf h=>bX h rfl (kB ac h rfl (λh1 f h=>?_) (λh1 f h=>?_)))
  ·refine e9 ac 7 h rfl λf h=>Y8 (au rfl h s rfl (by show _=_;unfold qH;rw [h0,h1]<;>rfl))
  ·refine ap ac 3 h rfl λf h=>bX h rfl (ag (ae (aJ.of_own s 0 rfl) 66 (nM _)) h bs rfl rfl λf h=>e9 ac 3 h rfl λf h=>Y8 (au rfl h s rfl (by show _=_;unfold qH;rw [h0,h1]<;>rfl)))
theorem vL (x y:Tg) (w:World):Calls Tryz.prog 189 [.agg (bY x),.agg (bY y)].toArray w (bW w (is (.int .i64 (nF x y 1)))):=by
 refine bG Tryz.func189 rfl Tryz.ntmps189 rfl λf h s=>qr (bh (bY x) h s rfl rfl rfl λf w1 b2 h s=>bh (bY y) h s rfl rfl rfl λf w1 b3 h s=>e9 ac 1 h rfl λf h=>cu ac 2 h rfl λf h=>ag (ae (aJ.of_own s 1 rfl) 32 (py _)) h bs rfl rfl λf h=>ap ac 2 h rfl λf h=>ag (ae (aJ.of_own s 0 rfl) 32 (py _)) h bs rfl rfl λf h=>da h s pL (jN x.2.1.1 y.2.1.1 _) rfl rfl λf w1 h s=>e9 ac 1 h rfl λf h=>Y8 (au rfl h s rfl (rfl)))
theorem xt (x y:Tg) (w:World):Calls Tryz.prog 191 [.agg (bY x),.agg (bY y)].toArray w (bW w (is (.int .i64 (nF x y 3)))):=by
 refine bG Tryz.func191 rfl Tryz.ntmps191 rfl λf h s=>qr (bh (bY x) h s rfl rfl rfl λf w1 b2 h s=>bh (bY y) h s rfl rfl rfl λf w1 b3 h s=>e9 ac 1 h rfl λf h=>cu ac 2 h rfl λf h=>ag (ae (aJ.of_own s 1 rfl) 65 (qm _)) h bs rfl rfl λf h=>ap ac 2 h rfl λf h=>ag (ae (aJ.of_own s 0 rfl) 65 (qm _)) h bs rfl rfl λf h=>da h s pL (jN x.2.1.2.2 y.2.1.2.2 _) rfl rfl λf w1 h s=>e9 ac 1 h rfl λf h=>Y8 (au rfl h s rfl (rfl)))
end Go.Proofs.YtkhepdpfdhdlaaaGreatDoor
