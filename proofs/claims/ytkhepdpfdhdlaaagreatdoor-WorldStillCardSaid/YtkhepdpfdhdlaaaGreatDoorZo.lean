/- Package table and what it stands on, so far as it is wanted: what each function answers. -/
import Derived.Test.YtkhepdpfdhdlaaaGreatDoorZf
import Derived.Test.YtkhepdpfdhdlaaaGreatDoorZa
set_option linter.unusedVariables false
set_option linter.unusedSimpArgs false
set_option linter.unusedSectionVars false
namespace Go.Proofs.YtkhepdpfdhdlaaaGreatDoor
open Go.RowKit
theorem i8 (x:Tg) (w:World):Calls Tryz.prog 115 [.agg (co x)].toArray w (cd w (is (.bool (sZ x)))):=by
 refine bN Tryz.func115 rfl Tryz.ntmps115 rfl λf h s=>qr (aZ (co x) h s rfl rfl rfl λf w1 b1 h s=>e9 ac 1 h rfl λf h=>ah ?_)
 refine rs ac 1 h rfl λf h=>az (aF.subL (aF.of_own s 0 rfl) 32 34 (D:=df (_)) (Ih _)) h gG rfl (ce _) rfl λf h=>eC h s kZ (lw x.2.1 _) rfl rfl (λh0 f w1 h s=>?_) (λh0 f w1 h s=>?_)
 ·refine e9 ac 11 h rfl λf h=>av8 (aA rfl h s rfl (by show _=_;unfold sZ;rw [h0]<;>rfl))
 ·skip
  refine al ac 2 h rfl λf h=>bF h rfl (ag (ae (aF.of_own s 0 rfl) 66 (pu _)) h bu rfl rfl λf h=>bF h rfl (iV ac h rfl (λh1 f h=>?_) (λh1 f h=>?_)))
  ·refine e9 ac 7 h rfl λf h=>av8 (aA rfl h s rfl (by show _=_;unfold sZ;rw [h0,h1]<;>rfl))
  ·refine al ac 3 h rfl λf h=>bF h rfl (ag (ae (aF.of_own s 0 rfl) 66 (pu _)) h bu rfl rfl λf h=>e9 ac 3 h rfl λf h=>av8 (aA rfl h s rfl (by show _=_;unfold sZ;rw [h0,h1]<;>rfl)))
theorem zg (x y:Tg) (w:World):Calls Tryz.prog 189 [.agg (co x),.agg (co y)].toArray w (cd w (is (.int .i64 (pW x y 1)))):=by
 refine bN Tryz.func189 rfl Tryz.ntmps189 rfl λf h s=>qr (aZ (co x) h s rfl rfl rfl λf w1 b2 h s=>aZ (co y) h s rfl rfl rfl λf w1 b3 h s=>e9 ac 1 h rfl λf h=>cw ac 2 h rfl λf h=>ag (ae (aF.of_own s 1 rfl) 32 (rB _)) h bu rfl rfl λf h=>al ac 2 h rfl λf h=>ag (ae (aF.of_own s 0 rfl) 32 (rB _)) h bu rfl rfl λf h=>dM h s sA (kU x.2.1.1 y.2.1.1 _) rfl rfl λf w1 h s=>e9 ac 1 h rfl λf h=>av8 (aA rfl h s rfl (rfl)))
theorem zb (x y:Tg) (w:World):Calls Tryz.prog 191 [.agg (co x),.agg (co y)].toArray w (cd w (is (.int .i64 (pW x y 3)))):=by
 refine bN Tryz.func191 rfl Tryz.ntmps191 rfl λf h s=>qr (aZ (co x) h s rfl rfl rfl λf w1 b2 h s=>aZ (co y) h s rfl rfl rfl λf w1 b3 h s=>e9 ac 1 h rfl λf h=>cw ac 2 h rfl λf h=>ag (ae (aF.of_own s 1 rfl) 65 (qW _)) h bu rfl rfl λf h=>al ac 2 h rfl λf h=>ag (ae (aF.of_own s 0 rfl) 65 (qW _)) h bu rfl rfl λf h=>dM h s sA (kU x.2.1.2.2 y.2.1.2.2 _) rfl rfl λf w1 h s=>e9 ac 1 h rfl λf h=>av8 (aA rfl h s rfl (rfl)))
end Go.Proofs.YtkhepdpfdhdlaaaGreatDoor
