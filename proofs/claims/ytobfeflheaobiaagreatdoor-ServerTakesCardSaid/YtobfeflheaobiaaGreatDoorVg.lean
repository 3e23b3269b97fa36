/- What is judged, by the reference. -/
import Derived.Test.YtobfeflheaobiaaGreatDoorVc
import Derived.Test.YtobfeflheaobiaaGreatDoorVe
set_option linter.unusedVariables false
set_option linter.unusedSimpArgs false
set_option linter.unusedSectionVars false
namespace Go.Proofs.YtobfeflheaobiaaGreatDoor
open Go.RowKit
theorem xU (m:Mg) (vs:Value) (w:World) (hV:dM w vs m.l) (hml:m.l.length≤1000):Calls Tryz.prog 53 [.agg (aP m vs)].toArray w (cp w (is (.bool (cC m)))):=by
 refine bF Tryz.func53 rfl Tryz.ntmps53 rfl fun f h s=>qr (aZ (aP m vs) h s rfl rfl rfl fun f w1 b1 h s=>e9 ab 1 h rfl fun f h=>al ?_)
 refine aF (ak 0 h s bL rfl rfl (ax _ _) rfl fun f h=>gg h s Ci (lK m vs _ (hV.keep s.ext) (by omega)) rfl rfl (fun h0 f w1 h s=>?_) (fun h0 f w1 h s=>?_))
 ·refine am ab 5 h rfl fun f h=>cw h rfl rfl rfl rfl ?_;intro f h
  refine cw h rfl rfl rfl rfl ?_;intro f h
  refine cw h rfl rfl rfl rfl ?_;intro f h
  refine am ab 2 h rfl fun f h=>cw h rfl rfl rfl rfl ?_;intro f h
  refine cw h rfl rfl rfl rfl ?_;intro f h
  refine cw h rfl rfl rfl rfl ?_;intro f h
  refine e9 ab 3 h rfl fun f h=>wpIn_ret (aH rfl h s rfl (by show _=_;unfold cC;rw [h0];rfl))
 ·skip
  refine am ab 2 h rfl fun f h=>bf h rfl (ag (ac (aG.of_own s 0 rfl) 0 (cN _ _)) h bo rfl rfl fun f h=>bf h rfl (cZ ab h rfl (fun h1 f h=>?_) (fun h1 f h=>?_)))
  ·skip
   refine am ab 2 h rfl fun f h=>bf h rfl (ag (ac (aG.of_own s 0 rfl) 0 (cN _ _)) h bo rfl rfl fun f h=>bf h rfl (cZ ab h rfl (fun h2 f h=>?_) (fun h2 f h=>?_)))
   ·refine am ab 3 h rfl fun f h=>bf h rfl (ag (ac (aG.of_own s 0 rfl) 0 (cN _ _)) h bo rfl rfl fun f h=>e9 ab 4 h rfl fun f h=>wpIn_ret (aH rfl h s rfl (by show _=_;unfold cC;rw [h0,h1,h2];rfl)))
   ·refine e9 ab 8 h rfl fun f h=>wpIn_ret (aH rfl h s rfl (by show _=_;unfold cC;rw [h0,h1,h2];rfl))
  ·refine e9 ab 12 h rfl fun f h=>wpIn_ret (aH rfl h s rfl (by show _=_;unfold cC;rw [h0,h1];rfl))
theorem wE (sx:ByteArray) (m:Mg) (vs:Value) (w:World) (hsx:sx.size≤64) (ha:cC m=true):Calls Tryz.prog 57 [.string sx,.agg (aP m vs)].toArray w (cp w (is (.agg (jc (cD sx m) (dC sx m) aI)))):=by
 obtain ⟨hh1,hh2⟩:=oH (fP ha).1
 refine bF Tryz.func57 rfl Tryz.ntmps57 rfl fun f h s=>qr (aZ (aP m vs) h s rfl rfl rfl fun f w1 b3 h s=>aK (jc 0 mZ aI) h s yS rfl rfl fun f w1 b4 h s=>nt (al (bZ ab 2 h rfl fun f h=>ag (ac (aG.of_own s 1 rfl) 33 (tL _ _)) h bo rfl rfl fun f h=>e9 ab 1 h rfl fun f h=>cd h rfl (fun hc=>?_) (fun hc=>?_))))
 ·have c1:=hc
  refine al (al ?_)
  refine rs ab 1 h rfl fun f h=>ag (ac (aG.of_own s 1 rfl) 0 (cN _ _)) h bo rfl rfl fun f h=>cZ ab h rfl (fun k2 f h=>?_) (fun k2 f h=>?_)
  ·refine e9 ab 8 h rfl fun f h=>iU h rfl (qr (ae h (fB ra rfl) rfl fun f h=>aj 0 h s f8 rfl rfl rfl (cc _ _ _) (cc _ _ _) (fh _ _ rfl) fun w1 s=>nt (rt (cR 0 rfl h s f8 rfl rfl (cc _ _ _) (by show _=_;rw [show cD sx m=4 by unfold cD;rw [c1,k2];rfl,show dC sx m=mZ by unfold dC;rw [c1,k2];rfl])))))
  ·skip
   refine am ab 2 h rfl fun f h=>bf h rfl (ar (aG.subL (aG.of_own s 1 rfl) 1 32 (D:=aA (_)) (cQ _ _)) h aN rfl (by first|exact ai _|exact ah _ _) rfl fun f h=>am ab 2 h rfl fun f h=>bf h rfl (ar (aG.subL (aG.of_own s 1 rfl) 34 32 (D:=aA (_)) (yA _ _)) h aN rfl (by first|exact ai _|exact ah _ _) rfl fun f h=>bf h rfl (gg h s NF (wS m.i m.t.2.1 _) rfl rfl (fun l0 f w1 h s=>?_) (fun l0 f w1 h s=>?_))))
   ·refine e9 ab 1 h rfl fun f h=>iU h rfl (qr (ae h (fB ra rfl) rfl fun f h=>aj 0 h s f8 rfl rfl rfl (cc _ _ _) (cc _ _ _) (fh _ _ rfl) fun w1 s=>nt (rt (cR 0 rfl h s f8 rfl rfl (cc _ _ _) (by show _=_;rw [show cD sx m=4 by unfold cD;rw [c1,k2,l0];rfl,show dC sx m=mZ by unfold dC;rw [c1,k2];rfl])))))
   ·refine e9 ab 1 h rfl fun f h=>cy h rfl (qr (ae h (fB ra rfl) rfl fun f h=>aj 0 h s f8 rfl rfl rfl (cc _ _ _) (cc _ _ _) (fh _ _ rfl) fun w1 s=>nt (rt (bK (cR 0 rfl h s f8 rfl rfl (cc _ _ _) (by show _=_;rw [show cD sx m=2 by unfold cD;rw [c1,k2,l0];rfl,show dC sx m=mZ by unfold dC;rw [c1,k2];rfl]))))))
 ·have c1:=hc
  refine kt (bZ ab 2 h rfl fun f h=>ar (aG.subL (aG.of_own s 1 rfl) 1 32 (D:=aA (_)) (cQ _ _)) h aN rfl (by first|exact ai _|exact ah _ _) rfl fun f h=>am ab 2 h rfl fun f h=>ag (V:=.int .i64 ((m.t.2.2.toNat:Nat):Int)) (ac (aG.of_own s 1 rfl) 66 ((by rw [pJ,hh1]))) h bo rfl rfl fun f h=>c7 h s Md (AU sx hsx m.i m.t.2.2.toNat hh2 _) rfl rfl fun f w1 h s=>e9 ab 1 h rfl fun f h=>al (bZ ab 1 h rfl fun f h=>ag (ac (aG.of_own s 1 rfl) 0 (cN _ _)) h bo rfl rfl fun f h=>e9 ab 1 h rfl fun f h=>cd h rfl (fun hc=>?_) (fun hc=>?_)))
  ·have k2:=hc
   refine bZ ab 1 h rfl fun f h=>ar (aG.subL (aG.of_own s 1 rfl) 1 32 (D:=aA (_)) (cQ _ _)) h aN rfl (by first|exact ai _|exact ah _ _) rfl fun f h=>am ab 1 h rfl fun f h=>ar (aG.subL (aG.of_own s 1 rfl) 33 34 (D:=bg (_)) (cI _ _)) h bY rfl (aC _) rfl fun f h=>am ab 1 h rfl fun f h=>ae h (lx li rfl (h.ev rfl) (h.ev rfl) (h.ev rfl)) rfl fun f h=>ae h (tO ra rfl (h.ev rfl)) rfl fun f h=>aj 0 h s f8 rfl rfl rfl (cc _ _ _) (cc _ _ _) (fh _ _ rfl) fun w1 s=>nt (rt (cR 0 rfl h s f8 rfl rfl (cc _ _ _) (by show _=_;rw [show cD sx m=1 by unfold cD;rw [c1,k2];rfl,show dC sx m=(xJ sx m) by unfold dC;rw [c1,k2];rfl];rfl)))
  ·have k2:=hc
   refine kt (al (bZ ab 1 h rfl fun f h=>ag (ac (aG.of_own s 1 rfl) 69 (eW _ _)) h dG rfl rfl fun f h=>am ab 1 h rfl fun f h=>ae h (i3 (h.ev rfl) (h.ev rfl)) rfl fun f h=>nt (cd h rfl (fun hc=>?_) (fun hc=>?_))))
   ·have o1:decide (m.o=Az sx m)=false:=decide_eq_false (of_decide_eq_true hc)
    refine qr (ae h (fB ra rfl) rfl fun f h=>aj 0 h s f8 rfl rfl rfl (cc _ _ _) (cc _ _ _) (fh _ _ rfl) fun w1 s=>nt (rt (cR 0 rfl h s f8 rfl rfl (cc _ _ _) (by show _=_;rw [show cD sx m=4 by unfold cD;rw [c1,k2,o1];rfl,show dC sx m=mZ by unfold dC;rw [c1,k2];rfl]))))
   ·have o1:decide (m.o=Az sx m)=true:=decide_eq_true (Decidable.of_not_not (of_decide_eq_false hc))
    refine kt (al (bZ ab 1 h rfl fun f h=>ag (ac (aG.of_own s 1 rfl) 0 (cN _ _)) h bo rfl rfl fun f h=>e9 ab 1 h rfl fun f h=>cd h rfl (fun hc=>?_) (fun hc=>?_)))
    ·have k4:=hc
     refine qr (ae h (fB ra rfl) rfl fun f h=>aj 0 h s f8 rfl rfl rfl (cc _ _ _) (cc _ _ _) (fh _ _ rfl) fun w1 s=>nt (rt (cR 0 rfl h s f8 rfl rfl (cc _ _ _) (by show _=_;rw [show cD sx m=2 by unfold cD;rw [c1,k2,o1,k4];rfl,show dC sx m=mZ by unfold dC;rw [c1,k2];rfl]))))
    ·have k4:=hc
     refine kt (qr (ae h (fB ra rfl) rfl fun f h=>aj 0 h s f8 rfl rfl rfl (cc _ _ _) (cc _ _ _) (fh _ _ rfl) fun w1 s=>nt (wpIn_ret (cR 0 rfl h s f8 rfl rfl (cc _ _ _) (by show _=_;rw [show cD sx m=3 by unfold cD;rw [c1,k2,o1,k4];rfl,show dC sx m=mZ by unfold dC;rw [c1,k2];rfl])))))
theorem nK (m:Mg) (vs:Value) (now:Int) (w:World) (h0:0≤now∧now≤1099511627776) (h1:0≤m.n∧m.n≤1099511627776):Calls Tryz.prog 58 [.agg (aP m vs),.int .i64 now].toArray w (cp w (is (.agg (aB (en m now))))):=by
 refine bF Tryz.func58 rfl Tryz.ntmps58 rfl fun f h s=>qr (aZ (aP m vs) h s rfl rfl rfl fun f w1 b2 h s=>aK (aB aW) h s eL rfl rfl fun f w1 b4 h s=>nt (bZ ab 2 h rfl fun f h=>ag (ac (aG.of_own s 1 rfl) 68 (ee _ _)) h bo rfl rfl fun f h=>ae h (a6 (h.ev rfl) (h.ev rfl) (by omega)) rfl fun f h=>e9 ab 1 h rfl fun f h=>al (bH ab 2 h rfl fun f h=>cd h rfl (fun hc=>?_) (fun hc=>?_))))
 ·have hc:=of_decide_eq_true hc
  refine re ab 1 h rfl fun f h=>bZ ab 1 h rfl fun f h=>ar (aG.subL (aG.of_own s 1 rfl) 1 32 (D:=aA (_)) (cQ _ _)) h aN rfl (by first|exact ai _|exact ah _ _) rfl fun f h=>am ab 1 h rfl fun f h=>ar (aG.subL (aG.of_own s 1 rfl) 33 34 (D:=bg (_)) (cI _ _)) h bY rfl (aC _) rfl fun f h=>am ab 1 h rfl fun f h=>ae h (iF jM (h.ev rfl) (h.ev rfl) (h.ev rfl)) rfl fun f h=>aj 0 h s a8 rfl rfl rfl (ao _) (ao _) (bm _) fun w1 s=>nt (wpIn_ret (cR 0 rfl h s a8 rfl rfl (ao _) (by show _=_;unfold en;rw [show min (now+m.n) 1099511627776=1099511627776 by omega])))
 ·have hc:=of_decide_eq_false hc
  refine kt (bZ ab 1 h rfl fun f h=>ar (aG.subL (aG.of_own s 1 rfl) 1 32 (D:=aA (_)) (cQ _ _)) h aN rfl (by first|exact ai _|exact ah _ _) rfl fun f h=>am ab 1 h rfl fun f h=>ar (aG.subL (aG.of_own s 1 rfl) 33 34 (D:=bg (_)) (cI _ _)) h bY rfl (aC _) rfl fun f h=>am ab 1 h rfl fun f h=>ae h (iF jM (h.ev rfl) (h.ev rfl) (h.ev rfl)) rfl fun f h=>aj 0 h s a8 rfl rfl rfl (ao _) (ao _) (bm _) fun w1 s=>nt (wpIn_ret (cR 0 rfl h s a8 rfl rfl (ao _) (by show _=_;unfold en;rw [show min (now+m.n) 1099511627776=now+m.n by omega]))))
end Go.Proofs.YtobfeflheaobiaaGreatDoor
