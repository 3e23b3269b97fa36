/- Package stack and what it stands on, so far as it is wanted: what each function answers. -/
import Derived.Test.YthmlflaiidhoiaaGreatDoorCon
set_option linter.unusedVariables false
set_option linter.unusedSimpArgs false
set_option linter.unusedSectionVars false
namespace Go.Proofs.YthmlflaiidhoiaaGreatDoor
open Go.RowKit
theorem Va (e:eA) (w:World):Calls Tryz.prog 92 [.agg (eR e)].toArray w (bW w (is (.bool (kR e)))):=by
 refine bG Tryz.func92 rfl Tryz.ntmps92 rfl λf h s=>qr (ba ((eR e)) h s rfl rfl rfl λf w1 b1 h s=>e9 ac 1 h rfl λf h=>ag (cw ac 1 h rfl λf h=>ai (ah (aX.of_own s 0 rfl) 0 (qj _)) h bQ rfl rfl λf h=>nt (au4 (bD ac 2 h rfl λf h=>cZ h rfl (λhc=>?_) (λhc=>?_)))))
 ·refine cw ac 1 h rfl λf h=>ai (ah (aX.of_own s 0 rfl) 33 (iH _)) h bQ rfl rfl λf h=>e9 ac 2 h rfl λf h=>au3 (aY (aQ (aA rfl h s rfl (by show _=_;rw [OL _ hc]))))
 ·have hk:=hc
  refine bD ac 2 h rfl λf h=>cZ h rfl (λhc=>?_) (λhc=>?_)
  ·refine ag ?_
   cases hz:(decide (e.2.1=0#256):Bool)
   ·refine rs ac 1 h rfl λf h=>ax (aX.subL (aX.of_own s 0 rfl) 1 32 (D:=aJ (_)) (rm _)) h bO rfl (by first|exact az _|exact ay _ _) rfl λf h=>ak h (uY jr) rfl λf h=>ak h (bk (.bool false) (dQ jr (h.ev rfl) (h.ev rfl)) (aq3 Value.bool hz)) rfl λf h=>e9 ac 11 h rfl λf h=>au3 (aY (aQ (aA rfl h s rfl (by show _=_;rw [yn _ hc,hz];rfl))))
   ·skip
    refine rs ac 1 h rfl λf h=>ax (aX.subL (aX.of_own s 0 rfl) 1 32 (D:=aJ (_)) (rm _)) h bO rfl (by first|exact az _|exact ay _ _) rfl λf h=>ak h (uY jr) rfl λf h=>ak h (bk (.bool true) (dQ jr (h.ev rfl) (h.ev rfl)) (aq3 Value.bool hz)) rfl λf h=>ap ac 2 h rfl λf h=>cg h rfl (ai (ah (aX.of_own s 0 rfl) 33 (iH _)) h bQ rfl rfl λf h=>cg h rfl (kJ ac h rfl (λhg f h=>?_) (λhg f h=>?_)))
    ·refine e9 ac 7 h rfl λf h=>au3 (aY (aQ (aA rfl h s rfl (by show _=_;rw [yn _ hc,hz,hg];rfl))))
    ·refine ap ac 3 h rfl λf h=>cg h rfl (ai (ah (aX.of_own s 0 rfl) 33 (iH _)) h bQ rfl rfl λf h=>e9 ac 3 h rfl λf h=>au3 (aY (aQ (aA rfl h s rfl (by show _=_;rw [yn _ hc,hz,hg];rfl)))))
  ·refine wpIn_skip (aW (aG (bD ac 1 h rfl λf h=>au3 (aA rfl h s rfl (by show _=_;rw [Hd _ hk hc])))))
end Go.Proofs.YthmlflaiidhoiaaGreatDoor
