/- Package table and what it stands on, so far as it is wanted: what each function answers. -/
import Derived.Test.YtkhepdpfdhdlaaaGreatDoorCon
set_option linter.unusedVariables false
set_option linter.unusedSimpArgs false
set_option linter.unusedSectionVars false
namespace Go.Proofs.YtkhepdpfdhdlaaaGreatDoor
open Go.RowKit
theorem C3 (l:List Tg) (hln:l.length<=1000) (a9:Option Addr) (n9 c9:Nat) (w:World) (hR:bp w (.slice a9 n9 c9) 67 l.length (eE l)):Calls Tryz.prog 52 [.slice a9 n9 c9].toArray w (bW w (λv w'=>cq w' w.heap.size 50 67 v l.length (eE l))):=by
 refine bG Tryz.func52 rfl Tryz.ntmps52 rfl λf h s=>bF ac 1 h rfl λf h=>ah (ah ?_)
 cases hn:(a9.isNone:Bool)
 ·refine rs ac 1 h rfl λf h=>ai h (bq (.bool false) (bR aa4 (h.ev rfl) (h.ev rfl)) (Yu Value.bool hn)) rfl λf h=>f7 h rfl (qr (ej (base:=w.heap.size) h aa4 MO (YM _) rfl λf w2 v5 h hE3 e5=>ap ac 1 h rfl λf h=>dh (base:=w.heap.size) e5 (hR.keep hE3) h aa4 MO rfl rfl hE3.le (ud _) (by unfold maxLen;omega) (by omega) rfl λf w3 v7 h hE4 e7=>?_))
  replace s:=s.sl_new (hE3.trans hE4) e7
  refine e9 ac 1 h rfl λf h=>Y8 (au rfl h s rfl (s.getSl 0 rfl))
 ·refine rs ac 1 h rfl λf h=>ai h (bq (.bool true) (bR aa4 (h.ev rfl) (h.ev rfl)) (Yu Value.bool hn)) rfl λf h=>ie h rfl (bF ac 1 h rfl λf h=>rt (au rfl h s rfl (by obtain rfl:=yo hn hR;exact dT _ _ _ _)))
theorem Ad (l:List Tg) (hln:l.length<=1000) (v9:Value) (w:World) (hR:bp w v9 67 l.length (eE l)):Calls Tryz.prog 52 [v9].toArray w (bW w (λv w'=>cq w' w.heap.size 50 67 v l.length (eE l))):=by
 obtain ⟨a,c,rfl⟩:=hR.len
 exact C3 l hln a _ c w hR
end Go.Proofs.YtkhepdpfdhdlaaaGreatDoor
