/- Package host: what its functions answer. -/
import Derived.Test.YthmlflaiidhoiaaGreatDoorZb
import Derived.Test.YthmlflaiidhoiaaGreatDoorZf
set_option linter.unusedVariables false
namespace Go.Proofs.YthmlflaiidhoiaaGreatDoor
open Go.RowKit
set_option maxHeartbeats 2000000 in
theorem H6 (ho:Ho) (vw vh vi:Value) (l:List dN) (vl:Value) (sx:ByteArray) (now:Int) (w:World) (hHo:pE w vw vh vi ho) (hB9:B9 ho) (hL9:iJ w vl l) (hll:l.length<=1000):Calls Tryz.prog 116 [.agg (ca ho.no ho.gt vw vh vi),vl,.string sx,.int .i64 now].toArray w (cb w (SdP w vl l (dM ho l sx now) (oA ho l sx now))):=by
 obtain ⟨hw9,hh9,hi9⟩:=hB9
 refine bK Tryz.func116 rfl Tryz.ntmps116 rfl λf h s=>qr (aV (ca ho.no ho.gt vw vh vi) h s rfl rfl rfl λf w1 b4 h s=>aK (dP 0 mZ ax cr) h s F6 rfl rfl λf w1 b8 h s=>e9 ac 1 h rfl λf h=>qr (ak 1 h s gc rfl rfl (bG _ _ _ _ _) rfl λf h=>aY h s K7 (vW ho vw vh vi _ (hHo.keep s.ext) ⟨hw9,hh9,hi9⟩) rfl rfl ?_));rintro f w1 v14 ⟨oa,ob,oc,rfl,hO⟩ hE h sq;replace s:=s.add hO;clear hO
 have ho1:=bI (bs.of_own (s.getSl 0 rfl))
 have ho2:=bI (bs.of_own (s.getSl 1 rfl))
 have ho3:=bI (bs.of_own (s.getSl 2 rfl))
 obtain ⟨ko,s⟩:=KY s
 refine aK (ca 0 0 ax ax ax) h s yS rfl rfl λf w1 b10 h s=>al 0 h s oM rfl rfl rfl (bG _ _ _ _ _) (bG _ _ _ _ _) (fe _ _ (ho1) (ho2) (ho3)) λw1 s=>nt (ah (ah ?_))
 refine aw (ak 0 h s oM rfl rfl (bG _ _ _ _ _) rfl λf h=>fh h s KP (EU ho oa ob oc _ (s.getG 1 rfl) ⟨hw9,hh9,hi9⟩) rfl rfl (λr0 f w1 h s=>?_) (λr0 f w1 h s=>?_))
 ·refine e9 ac 11 h rfl λf h=>dG h rfl (qr (ai h (jf wM) rfl λf h=>al 2 h s gk rfl rfl rfl (co _ _ _ _) (co _ _ _ _) (gH _ _ _ (rfl)) λw1 s=>e9 ac 1 h rfl λf h=>rt (cc 2 rfl h s gk rfl rfl (co _ _ _ _) rfl (r7 (Pe λe9=>by rw [r0] at e9;cases e9.1) (s.pick _ (aJ0 _))))))
 ·skip
  refine am ac 3 h rfl λf h=>cy h rfl (fh h s JB (xe now _) rfl rfl (λn0 f w1 h s=>?_) (λn0 f w1 h s=>?_))
  ·refine e9 ac 7 h rfl λf h=>dG h rfl (qr (ai h (jf wM) rfl λf h=>al 2 h s gk rfl rfl rfl (co _ _ _ _) (co _ _ _ _) (gH _ _ _ (rfl)) λw1 s=>e9 ac 1 h rfl λf h=>rt (cc 2 rfl h s gk rfl rfl (co _ _ _ _) rfl (r7 (Pe λe9=>by rw [gy.2 e9.2.1] at n0;cases n0) (s.pick _ (aJ0 _))))))
  ·skip
   cases q0:(dQ l:Bool)
   ·refine am ac 4 h rfl λf h=>cy h rfl (jD false h s kM (fj l vl _ (hL9.keep s.ext) (by omega)) (q0) rfl rfl λf w1 h s=>e9 ac 2 h rfl λf h=>dG h rfl (qr (ai h (jf wM) rfl λf h=>al 2 h s gk rfl rfl rfl (co _ _ _ _) (co _ _ _ _) (gH _ _ _ (rfl)) λw1 s=>e9 ac 1 h rfl λf h=>rt (cc 2 rfl h s gk rfl rfl (co _ _ _ _) rfl (r7 (Pe λe9=>by rw [q0] at e9;cases e9.2.2) (s.pick _ (aJ0 _)))))))
   ·refine am ac 4 h rfl λf h=>cy h rfl (aY h s kM (aR (.bool true) (fj l vl _ (hL9.keep s.ext) (by omega)) (aH3 Value.bool q0)) rfl rfl ?_);intro f w1 v9 hT hE h s;obtain rfl:=hT
    refine e9 ac 2 h rfl λf h=>nH h rfl (ah (bU ac 1 h rfl λf h=>ai h (dU aR4 (h.ev rfl)) rfl λf h=>e9 ac 1 h rfl λf h=>bV h rfl (λhc=>?_) (λhc=>?_)))
    ·have d0:¬ sx.size<=64:=by have:=aG9 hc;omega
     refine qr (ai h (jf wM) rfl λf h=>al 2 h s gk rfl rfl rfl (co _ _ _ _) (co _ _ _ _) (gH _ _ _ (rfl)) λw1 s=>e9 ac 1 h rfl λf h=>rt (cc 2 rfl h s gk rfl rfl (co _ _ _ _) rfl (r7 (Z9 ⟨r0,gy.1 n0,q0⟩ d0) (s.pick _ (aJ0 _)))))
    ·have d0:sx.size<=64:=by have:=aH0 hc;omega
     have hl1:1<=l.length:=((fN _).1 q0).1
     refine kt (bU ac 1 h rfl λf h=>ag (V:=.int .i64 ho.gt) (ae (aJ.of_own s 0 rfl) 1 (Ow _ _ _ _ _)) h bJ rfl rfl λf h=>e9 ac 1 h rfl λf h=>ah (bU ac 1 h rfl λf h=>ai h (bj (hL9.keep s.ext) (0) aS1 As (h.ev rfl) (h.ev rfl) (rfl) (by omega)) rfl λf h=>ai h (bq GL (h.ev rfl) ((hL9.keep s.ext).some (by omega))) rfl λf h=>ag (V:=.int .i64 (l.getD 0 (0,0#256,0)).1) (er (hL9.keep s.ext) (0*34+0) (R2 (by omega))) h bJ rfl rfl λf h=>e9 ac 1 h rfl λf h=>bV h rfl (λhc=>?_) (λhc=>?_)))
     ·have k0:=hc
      refine dJ 8 h (by kernel_rfl) (aT 0 h s oM rfl rfl (bG _ _ _ _ _) rfl λf h=>ay ac 1 h rfl λf h=>aF h (bj (hL9.keep s.ext) (0) aS1 As (h.ev rfl) (h.ev rfl) (rfl) (by omega)) rfl λf h=>aF h (bq Fp (h.ev rfl) ((hL9.keep s.ext).some (by omega))) rfl λf h=>bh (bs.elF (hL9.keep s.ext) (0) 1 32 (by omega) (by decide) (C:=cG (l.getD 0 (0,0#256,0))) (ag1 l 0 (by omega)) (D:=aH (l.getD 0 (0,0#256,0)).2.1) (mY _)) h bW rfl (by first|exact aA _|exact au _ _) rfl λf h=>ay ac 1 h rfl λf h=>bF h Ve (λw9 hE9=>NF ho oa ob oc (l.getD 0 (0,0#256,0)).2.1 now w9 (pE.keep (s.getG 1 rfl) hE9) ⟨hw9,hh9,hi9⟩) rfl rfl λf h=>ay ac 1 h rfl λf h=>bY s λw1 s=>nt (bU ac 1 h rfl λf h=>aY h s L7 (Bn l hll vl _ (hL9.keep s.ext)) rfl rfl ?_));intro f w1 v48 hT hE h sq;replace s:=s.sl_new hE hT
      have hv48:=bI (bs.of_own (s.getSl 0 rfl))
      refine am ac 1 h rfl λf h=>ai h (lY (l:=l) (jN (bs.of_own (s.getSl 0 rfl))) (iS (bs.of_own (s.getSl 0 rfl))) ae3 rfl (h.ev rfl) rfl (h.ev rfl)) rfl λf h=>aK (eG mZ ax) h s Gr rfl rfl λf w1 b12 h s=>al 0 h s qf rfl rfl rfl (eV _ _) (eV _ _) (ql _ _ hv48) λw1 s=>nt (bU ac 1 h rfl λf h=>ak 0 h s qf rfl rfl (eV _ _) rfl λf h=>ai h (pS wM (h.ev rfl) (h.ev rfl)) rfl λf h=>al 4 h s gk rfl rfl rfl (co _ _ _ _) (co _ _ _ _) (gH _ _ _ hv48) λw1 s=>e9 ac 1 h rfl λf h=>aL3 (cc 4 rfl h s gk rfl rfl (co _ _ _ _) rfl ((show (qv ho (l.getD 0 (0,0#256,0)).2.1 now)=xR ho l now from by unfold xR;rw [k0];rfl)▸ND (ZC ⟨r0,gy.1 n0,q0⟩ d0) (s.sel [1] rfl (by decide)))))
     ·have k0:=hc
      refine kt (bU ac 1 h rfl λf h=>aY h s L7 (Bn l hll vl _ (hL9.keep s.ext)) rfl rfl ?_);intro f w1 v48 hT hE h sq;replace s:=s.sl_new hE hT
      have hv48:=bI (bs.of_own (s.getSl 0 rfl))
      refine am ac 1 h rfl λf h=>ai h (lY (l:=l) (jN (bs.of_own (s.getSl 0 rfl))) (iS (bs.of_own (s.getSl 0 rfl))) ae3 rfl (h.ev rfl) rfl (h.ev rfl)) rfl λf h=>aK (eG mZ ax) h s Gr rfl rfl λf w1 b12 h s=>al 0 h s qf rfl rfl rfl (eV _ _) (eV _ _) (ql _ _ hv48) λw1 s=>nt (bU ac 1 h rfl λf h=>ak 0 h s qf rfl rfl (eV _ _) rfl λf h=>ai h (pS wM (h.ev rfl) (h.ev rfl)) rfl λf h=>al 4 h s gk rfl rfl rfl (co _ _ _ _) (co _ _ _ _) (gH _ _ _ hv48) λw1 s=>e9 ac 1 h rfl λf h=>aL3 (cc 4 rfl h s gk rfl rfl (co _ _ _ _) rfl ((show ho.gt=xR ho l now from by unfold xR;rw [k0];rfl)▸ND (ZC ⟨r0,gy.1 n0,q0⟩ d0) (s.sel [1] rfl (by decide)))))
end Go.Proofs.YthmlflaiidhoiaaGreatDoor
