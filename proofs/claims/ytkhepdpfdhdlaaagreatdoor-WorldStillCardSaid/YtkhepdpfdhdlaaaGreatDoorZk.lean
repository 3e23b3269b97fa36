/- Package host and what it stands on, so far as it is wanted: what each function answers. -/
import Derived.Test.YtkhepdpfdhdlaaaGreatDoorZb
import Derived.Test.YtkhepdpfdhdlaaaGreatDoorZf
set_option linter.unusedVariables false
set_option linter.unusedSimpArgs false
set_option linter.unusedSectionVars false
namespace Go.Proofs.YtkhepdpfdhdlaaaGreatDoor
open Go.RowKit
set_option maxHeartbeats 2000000 in
theorem FE (ho:Ho) (vw vh vi:Value) (l:List dN) (vl:Value) (sx:ByteArray) (now:Int) (w:World) (hHo:ma w vw vh vi ho) (hB9:B9 ho) (hL9:gf w vl l) (hll:l.length<=1000):Calls Tryz.prog 94 [.agg (bE ho.no ho.gt vw vh vi),vl,.string sx,.int .i64 now].toArray w (cd w (Z8 w vl l (cz ho l sx now) (lQ ho l sx now))):=by
 obtain ⟨hw9,hh9,hi9⟩:=hB9
 refine bN Tryz.func94 rfl Tryz.ntmps94 rfl λf h s=>qr (aZ (bE ho.no ho.gt vw vh vi) h s rfl rfl rfl λf w1 b4 h s=>aO (cH 0 mZ au eA) h s Db rfl rfl λf w1 b8 h s=>e9 ac 1 h rfl λf h=>qr (ak 1 h s eM rfl rfl (bq _ _ _ _ _) rfl λf h=>bB h s Qn (uK ho vw vh vi _ (hHo.keep s.ext) ⟨hw9,hh9,hi9⟩) rfl rfl ?_));rintro f w1 v14 ⟨oa,ob,oc,rfl,hO⟩ hE h sq;replace s:=s.add hO;clear hO
 have ho1:=bR (br.of_own (s.getSl 0 rfl))
 have ho2:=bR (br.of_own (s.getSl 1 rfl))
 have ho3:=bR (br.of_own (s.getSl 2 rfl))
 obtain ⟨ko,s⟩:=Km s
 refine aO (bE 0 0 au au au) h s wg rfl rfl λf w1 b10 h s=>aj 0 h s nl rfl rfl rfl (bq _ _ _ _ _) (bq _ _ _ _ _) (eW _ _ (ho1) (ho2) (ho3)) λw1 s=>nt (ah (ah ?_))
 refine aG (ak 0 h s nl rfl rfl (bq _ _ _ _ _) rfl λf h=>eC h s QT (DJ ho oa ob oc _ (s.getG 1 rfl) ⟨hw9,hh9,hi9⟩) rfl rfl (λr0 f w1 h s=>?_) (λr0 f w1 h s=>?_))
 ·refine e9 ac 11 h rfl λf h=>dw h rfl (qr (am h (ir ub) rfl λf h=>aj 2 h s fV rfl rfl rfl (cp _ _ _ _) (cp _ _ _ _) (go _ _ _ (rfl)) λw1 s=>e9 ac 1 h rfl λf h=>rt (bL 2 rfl h s fV rfl rfl (cp _ _ _ _) rfl (qC (Qj λe9=>by rw [r0] at e9;cases e9.1) (s.pick _ (at5 _))))))
 ·skip
  refine al ac 3 h rfl λf h=>bF h rfl (eC h s LP (uq now _) rfl rfl (λn0 f w1 h s=>?_) (λn0 f w1 h s=>?_))
  ·refine e9 ac 7 h rfl λf h=>dw h rfl (qr (am h (ir ub) rfl λf h=>aj 2 h s fV rfl rfl rfl (cp _ _ _ _) (cp _ _ _ _) (go _ _ _ (rfl)) λw1 s=>e9 ac 1 h rfl λf h=>rt (bL 2 rfl h s fV rfl rfl (cp _ _ _ _) rfl (qC (Qj λe9=>by rw [fv.2 e9.2.1] at n0;cases n0) (s.pick _ (at5 _))))))
  ·skip
   cases q0:(dH l:Bool)
   ·refine al ac 4 h rfl λf h=>bF h rfl (jc false h s jH (eT l vl _ (hL9.keep s.ext) (by omega)) (q0) rfl rfl λf w1 h s=>e9 ac 2 h rfl λf h=>dw h rfl (qr (am h (ir ub) rfl λf h=>aj 2 h s fV rfl rfl rfl (cp _ _ _ _) (cp _ _ _ _) (go _ _ _ (rfl)) λw1 s=>e9 ac 1 h rfl λf h=>rt (bL 2 rfl h s fV rfl rfl (cp _ _ _ _) rfl (qC (Qj λe9=>by rw [q0] at e9;cases e9.2.2) (s.pick _ (at5 _)))))))
   ·refine al ac 4 h rfl λf h=>bF h rfl (bB h s jH (a6 (.bool true) (eT l vl _ (hL9.keep s.ext) (by omega)) (ar8 Value.bool q0)) rfl rfl ?_);intro f w1 v9 hT hE h s;obtain rfl:=hT
    refine e9 ac 2 h rfl λf h=>mQ h rfl (ah (cw ac 1 h rfl λf h=>am h (dX aB9 (h.ev rfl)) rfl λf h=>e9 ac 1 h rfl λf h=>cr h rfl (λhc=>?_) (λhc=>?_)))
    ·have d0:¬ sx.size<=64:=by have:=ar4 hc;omega
     refine qr (am h (ir ub) rfl λf h=>aj 2 h s fV rfl rfl rfl (cp _ _ _ _) (cp _ _ _ _) (go _ _ _ (rfl)) λw1 s=>e9 ac 1 h rfl λf h=>rt (bL 2 rfl h s fV rfl rfl (cp _ _ _ _) rfl (qC (WE ⟨r0,fv.1 n0,q0⟩ d0) (s.pick _ (at5 _)))))
    ·have d0:sx.size<=64:=by have:=ar5 hc;omega
     have hl1:1<=l.length:=((fc _).1 q0).1
     refine kt (cw ac 1 h rfl λf h=>ag (V:=.int .i64 ho.gt) (ae (aF.of_own s 0 rfl) 1 (ni _ _ _ _ _)) h bu rfl rfl λf h=>e9 ac 1 h rfl λf h=>ah (cw ac 1 h rfl λf h=>am h (bg (hL9.keep s.ext) (0) aC4 Dm (h.ev rfl) (h.ev rfl) (rfl) (by omega)) rfl λf h=>am h (bf Ep (h.ev rfl) ((hL9.keep s.ext).some (by omega))) rfl λf h=>ag (V:=.int .i64 (l.getD 0 (0,0#256,0)).1) (dq (hL9.keep s.ext) (0*34+0) (PH (by omega))) h bu rfl rfl λf h=>e9 ac 1 h rfl λf h=>cr h rfl (λhc=>?_) (λhc=>?_)))
     ·have k0:=hc
      refine cQ 8 h (by kernel_rfl) (aX 0 h s nl rfl rfl (bq _ _ _ _ _) rfl λf h=>ar ac 1 h rfl λf h=>av h (bg (hL9.keep s.ext) (0) aC4 Dm (h.ev rfl) (h.ev rfl) (rfl) (by omega)) rfl λf h=>av h (bf Ev (h.ev rfl) ((hL9.keep s.ext).some (by omega))) rfl λf h=>aE (br.elF (hL9.keep s.ext) (0) 1 32 (by omega) (by decide) (C:=df (l.getD 0 (0,0#256,0))) (Yz l 0 (by omega)) (D:=aI (l.getD 0 (0,0#256,0)).2.1) (lS _)) h ca rfl (by first|exact aC _|exact aB _ _) rfl λf h=>ar ac 1 h rfl λf h=>bj h TW (λw9 hE9=>J9 ho oa ob oc (l.getD 0 (0,0#256,0)).2.1 now w9 (ma.keep (s.getG 1 rfl) hE9) ⟨hw9,hh9,hi9⟩) rfl rfl λf h=>ar ac 1 h rfl λf h=>bK s λw1 s=>nt (cw ac 1 h rfl λf h=>bB h s Ic (zL l hll vl _ (hL9.keep s.ext)) rfl rfl ?_));intro f w1 v48 hT hE h sq;replace s:=s.sl_new hE hT
      have hv48:=bR (br.of_own (s.getSl 0 rfl))
      refine al ac 1 h rfl λf h=>am h (ld (l:=l) (lM (br.of_own (s.getSl 0 rfl))) (jE (br.of_own (s.getSl 0 rfl))) Ze rfl (h.ev rfl) rfl (h.ev rfl)) rfl λf h=>aO (eh mZ au) h s DM rfl rfl λf w1 b12 h s=>aj 0 h s oJ rfl rfl rfl (eJ _ _) (eJ _ _) (pc _ _ hv48) λw1 s=>nt (cw ac 1 h rfl λf h=>ak 0 h s oJ rfl rfl (eJ _ _) rfl λf h=>am h (oi ub (h.ev rfl) (h.ev rfl)) rfl λf h=>aj 4 h s fV rfl rfl rfl (cp _ _ _ _) (cp _ _ _ _) (go _ _ _ hv48) λw1 s=>e9 ac 1 h rfl λf h=>av8 (bL 4 rfl h s fV rfl rfl (cp _ _ _ _) rfl ((show (oK ho (l.getD 0 (0,0#256,0)).2.1 now)=xb ho l now from by unfold xb;rw [k0];rfl)▸HR (W3 ⟨r0,fv.1 n0,q0⟩ d0) (s.sel [1] rfl (by decide)))))
     ·have k0:=hc
      refine kt (cw ac 1 h rfl λf h=>bB h s Ic (zL l hll vl _ (hL9.keep s.ext)) rfl rfl ?_);intro f w1 v48 hT hE h sq;replace s:=s.sl_new hE hT
      have hv48:=bR (br.of_own (s.getSl 0 rfl))
      refine al ac 1 h rfl λf h=>am h (ld (l:=l) (lM (br.of_own (s.getSl 0 rfl))) (jE (br.of_own (s.getSl 0 rfl))) Ze rfl (h.ev rfl) rfl (h.ev rfl)) rfl λf h=>aO (eh mZ au) h s DM rfl rfl λf w1 b12 h s=>aj 0 h s oJ rfl rfl rfl (eJ _ _) (eJ _ _) (pc _ _ hv48) λw1 s=>nt (cw ac 1 h rfl λf h=>ak 0 h s oJ rfl rfl (eJ _ _) rfl λf h=>am h (oi ub (h.ev rfl) (h.ev rfl)) rfl λf h=>aj 4 h s fV rfl rfl rfl (cp _ _ _ _) (cp _ _ _ _) (go _ _ _ hv48) λw1 s=>e9 ac 1 h rfl λf h=>av8 (bL 4 rfl h s fV rfl rfl (cp _ _ _ _) rfl ((show ho.gt=xb ho l now from by unfold xb;rw [k0];rfl)▸HR (W3 ⟨r0,fv.1 n0,q0⟩ d0) (s.sel [1] rfl (by decide)))))
end Go.Proofs.YtkhepdpfdhdlaaaGreatDoor
