/- Package host and what it stands on, so far as it is wanted: what each function answers. -/
import Derived.Test.YtkhepdpfdhdlaaaGreatDoorZb
import Derived.Test.YtkhepdpfdhdlaaaGreatDoorZf
set_option linter.unusedVariables false
set_option linter.unusedSimpArgs false
set_option linter.unusedSectionVars false
namespace Go.Proofs.YtkhepdpfdhdlaaaGreatDoor
open Go.RowKit
set_option maxHeartbeats 2000000 in
theorem BX (ho:Ho) (vw vh vi:Value) (l:List cO) (vl:Value) (sx:ByteArray) (now:Int) (w:World) (hHo:gn w vw vh vi ho) (hB9:B9 ho) (hL9:ez w vl l) (hll:l.length<=1000):Calls Tryz.prog 94 [.agg (a8 ho.no ho.gt vw vh vi),vl,.string sx,.int .i64 now].toArray w (bW w (WF w vl l (bV ho l sx now) (ji ho l sx now))):=by
 obtain ⟨hw9,hh9,hi9⟩:=hB9
 refine bG Tryz.func94 rfl Tryz.ntmps94 rfl λf h s=>qr (bh (a8 ho.no ho.gt vw vh vi) h s rfl rfl rfl λf w1 b4 h s=>aS (bK 0 mZ aj eg) h s tE rfl rfl λf w1 b8 h s=>e9 ac 1 h rfl λf h=>qr (al 1 h s dY rfl rfl (aN _ _ _ _ _) rfl λf h=>bB h s GO (m7 ho vw vh vi _ (hHo.keep s.ext) ⟨hw9,hh9,hi9⟩) rfl rfl ?_));rintro f w1 v14 ⟨oa,ob,oc,rfl,hO⟩ hE h sq;replace s:=s.add hO;clear hO
 have ho1:=bf (bp.of_own (s.getSl 0 rfl))
 have ho2:=bf (bp.of_own (s.getSl 1 rfl))
 have ho3:=bf (bp.of_own (s.getSl 2 rfl))
 obtain ⟨ko,s⟩:=yM s
 refine aS (a8 0 0 aj aj aj) h s oB rfl rfl λf w1 b10 h s=>ak 0 h s gJ rfl rfl rfl (aN _ _ _ _ _) (aN _ _ _ _ _) (dE _ _ (ho1) (ho2) (ho3)) λw1 s=>nt (ah (ah ?_))
 refine aG (al 0 h s gJ rfl rfl (aN _ _ _ _ _) rfl λf h=>eK h s H9 (uu ho oa ob oc _ (s.getG 1 rfl) ⟨hw9,hh9,hi9⟩) rfl rfl (λr0 f w1 h s=>?_) (λr0 f w1 h s=>?_))
 ·refine e9 ac 11 h rfl λf h=>dQ h rfl (qr (ai h (gl pB) rfl λf h=>ak 2 h s dZ rfl rfl rfl (bC _ _ _ _) (bC _ _ _ _) (d7 _ _ _ (rfl)) λw1 s=>e9 ac 1 h rfl λf h=>rt (ct 2 rfl h s dZ rfl rfl (bC _ _ _ _) rfl (om (JZ λe9=>by rw [r0] at e9;cases e9.1) (s.pick _ (YL _))))))
 ·skip
  refine ap ac 3 h rfl λf h=>bX h rfl (eK h s yC (m5 now _) rfl rfl (λn0 f w1 h s=>?_) (λn0 f w1 h s=>?_))
  ·refine e9 ac 7 h rfl λf h=>dQ h rfl (qr (ai h (gl pB) rfl λf h=>ak 2 h s dZ rfl rfl rfl (bC _ _ _ _) (bC _ _ _ _) (d7 _ _ _ (rfl)) λw1 s=>e9 ac 1 h rfl λf h=>rt (ct 2 rfl h s dZ rfl rfl (bC _ _ _ _) rfl (om (JZ λe9=>by rw [dJ.2 e9.2.1] at n0;cases n0) (s.pick _ (YL _))))))
  ·skip
   cases q0:(cZ l:Bool)
   ·refine ap ac 4 h rfl λf h=>bX h rfl (m9 false h s iH (ec l vl _ (hL9.keep s.ext) (by omega)) (q0) rfl rfl λf w1 h s=>e9 ac 2 h rfl λf h=>dQ h rfl (qr (ai h (gl pB) rfl λf h=>ak 2 h s dZ rfl rfl rfl (bC _ _ _ _) (bC _ _ _ _) (d7 _ _ _ (rfl)) λw1 s=>e9 ac 1 h rfl λf h=>rt (ct 2 rfl h s dZ rfl rfl (bC _ _ _ _) rfl (om (JZ λe9=>by rw [q0] at e9;cases e9.2.2) (s.pick _ (YL _)))))))
   ·refine ap ac 4 h rfl λf h=>bX h rfl (bB h s iH (aX (.bool true) (ec l vl _ (hL9.keep s.ext) (by omega)) (Yu Value.bool q0)) rfl rfl ?_);intro f w1 v9 hT hE h s;obtain rfl:=hT
    refine e9 ac 2 h rfl λf h=>qC h rfl (ah (cu ac 1 h rfl λf h=>ai h (dd Z7 (h.ev rfl)) rfl λf h=>e9 ac 1 h rfl λf h=>cA h rfl (λhc=>?_) (λhc=>?_)))
    ·have d0:¬ sx.size<=64:=by have:=Yq hc;omega
     refine qr (ai h (gl pB) rfl λf h=>ak 2 h s dZ rfl rfl rfl (bC _ _ _ _) (bC _ _ _ _) (d7 _ _ _ (rfl)) λw1 s=>e9 ac 1 h rfl λf h=>rt (ct 2 rfl h s dZ rfl rfl (bC _ _ _ _) rfl (om (SA ⟨r0,dJ.1 n0,q0⟩ d0) (s.pick _ (YL _)))))
    ·have d0:sx.size<=64:=by have:=Yr hc;omega
     have hl1:1<=l.length:=((ee _).1 q0).1
     refine kt (cu ac 1 h rfl λf h=>ag (V:=.int .i64 ho.gt) (ae (aJ.of_own s 0 rfl) 1 (GJ _ _ _ _ _)) h bs rfl rfl λf h=>e9 ac 1 h rfl λf h=>ah (cu ac 1 h rfl λf h=>ai h (bz (hL9.keep s.ext) (0) aa2 wC (h.ev rfl) (h.ev rfl) (rfl) (by omega)) rfl λf h=>ai h (aW Av (h.ev rfl) ((hL9.keep s.ext).some (by omega))) rfl λf h=>ag (V:=.int .i64 (l.getD 0 (0,0#256,0)).1) (cX (hL9.keep s.ext) (0*34+0) (JJ (by omega))) h bs rfl rfl λf h=>e9 ac 1 h rfl λf h=>cA h rfl (λhc=>?_) (λhc=>?_)))
     ·have k0:=hc
      refine dF 8 h (by kernel_rfl) (ba 0 h s gJ rfl rfl (aN _ _ _ _ _) rfl λf h=>aq ac 1 h rfl λf h=>ar h (bz (hL9.keep s.ext) (0) aa2 wC (h.ev rfl) (h.ev rfl) (rfl) (by omega)) rfl λf h=>ar h (aW AZ (h.ev rfl) ((hL9.keep s.ext).some (by omega))) rfl λf h=>aY (bp.elF (hL9.keep s.ext) (0) 1 32 (by omega) (by decide) (C:=co (l.getD 0 (0,0#256,0))) (R0 l 0 (by omega)) (D:=aA (l.getD 0 (0,0#256,0)).2.1) (j9 _)) h cJ rfl (by first|exact aF _|exact aE _ _) rfl λf h=>aq ac 1 h rfl λf h=>bj h HC (λw9 hE9=>ve ho oa ob oc (l.getD 0 (0,0#256,0)).2.1 now w9 (gn.keep (s.getG 1 rfl) hE9) ⟨hw9,hh9,hi9⟩) rfl rfl λf h=>aq ac 1 h rfl λf h=>bQ s λw1 s=>nt (cu ac 1 h rfl λf h=>bB h s Gd (wb l hll vl _ (hL9.keep s.ext)) rfl rfl ?_));intro f w1 v48 hT hE h sq;replace s:=s.sl_new hE hT
      have hv48:=bf (bp.of_own (s.getSl 0 rfl))
      refine ap ac 1 h rfl λf h=>ai h (jv (l:=l) (iD (bp.of_own (s.getSl 0 rfl))) (gK (bp.of_own (s.getSl 0 rfl))) Pv rfl (h.ev rfl) rfl (h.ev rfl)) rfl λf h=>aS (cW mZ aj) h s ug rfl rfl λf w1 b12 h s=>ak 0 h s jy rfl rfl rfl (dp _ _) (dp _ _) (kl _ _ hv48) λw1 s=>nt (cu ac 1 h rfl λf h=>al 0 h s jy rfl rfl (dp _ _) rfl λf h=>ai h (iw pB (h.ev rfl) (h.ev rfl)) rfl λf h=>ak 4 h s dZ rfl rfl rfl (bC _ _ _ _) (bC _ _ _ _) (d7 _ _ _ hv48) λw1 s=>e9 ac 1 h rfl λf h=>Y8 (ct 4 rfl h s dZ rfl rfl (bC _ _ _ _) rfl ((show (kA ho (l.getD 0 (0,0#256,0)).2.1 now)=pK ho l now from by unfold pK;rw [k0];rfl)▸G8 (Te ⟨r0,dJ.1 n0,q0⟩ d0) (s.sel [1] rfl (by decide)))))
     ·have k0:=hc
      refine kt (cu ac 1 h rfl λf h=>bB h s Gd (wb l hll vl _ (hL9.keep s.ext)) rfl rfl ?_);intro f w1 v48 hT hE h sq;replace s:=s.sl_new hE hT
      have hv48:=bf (bp.of_own (s.getSl 0 rfl))
      refine ap ac 1 h rfl λf h=>ai h (jv (l:=l) (iD (bp.of_own (s.getSl 0 rfl))) (gK (bp.of_own (s.getSl 0 rfl))) Pv rfl (h.ev rfl) rfl (h.ev rfl)) rfl λf h=>aS (cW mZ aj) h s ug rfl rfl λf w1 b12 h s=>ak 0 h s jy rfl rfl rfl (dp _ _) (dp _ _) (kl _ _ hv48) λw1 s=>nt (cu ac 1 h rfl λf h=>al 0 h s jy rfl rfl (dp _ _) rfl λf h=>ai h (iw pB (h.ev rfl) (h.ev rfl)) rfl λf h=>ak 4 h s dZ rfl rfl rfl (bC _ _ _ _) (bC _ _ _ _) (d7 _ _ _ hv48) λw1 s=>e9 ac 1 h rfl λf h=>Y8 (ct 4 rfl h s dZ rfl rfl (bC _ _ _ _) rfl ((show ho.gt=pK ho l now from by unfold pK;rw [k0];rfl)▸G8 (Te ⟨r0,dJ.1 n0,q0⟩ d0) (s.sel [1] rfl (by decide)))))
end Go.Proofs.YtkhepdpfdhdlaaaGreatDoor
