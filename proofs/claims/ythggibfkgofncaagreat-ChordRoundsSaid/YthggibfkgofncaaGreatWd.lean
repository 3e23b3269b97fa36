/- What Drop, Notify and Follow of package node answer. -/
import Derived.Test.YthggibfkgofncaaGreatVj
import Derived.Test.YthggibfkgofncaaGreatWz
set_option linter.unusedVariables false
set_option linter.unusedSimpArgs false
set_option linter.unusedSectionVars false
namespace Go.Proofs.YthggibfkgofncaaGreat
open Go.RowKit
theorem lV (n:Nd) (vs vf:Value) (x:Mb) (w:World) (hRs:bO w vs 33 n.sc.length (am n.sc)) (hRf:bO w vf 33 n.fg.length (am n.fg)) (hns:n.sc.length≤1000) (hnf:n.fg.length≤1000):Calls Tryz.prog 91 [.agg (au n.me n.pr vs vf),.agg (av x)].toArray w (cO w (pY w 28 (zZ n x) (AQ n x))):=by
 refine bh Tryz.func91 rfl Tryz.ntmps91 rfl [(0,.agg (au n.me n.pr vs vf)),(1,.agg (av x))] (by simp) fun f h=>?_
 have s:=St.start w
 refine ak fun K1 hK1=>?_
 refine ag ?_
 refine bR (au n.me n.pr vs vf) h s rfl rfl rfl ?_;intro f w1 b2 h s
 refine bR ((av x)) h s rfl rfl rfl ?_;intro f w1 b3 h s
 refine bi (au ap ap aU aU) h s ei rfl rfl ?_;intro f w1 b4 h s
 refine ac h (aj (h.ev rfl)) rfl ?_;intro f h
 refine ai ?_
 refine hK1 _ _ ?_
 refine ak fun K2 hK2=>?_
 refine ak fun K3 hK3=>?_
 cases hr:(cr n:Bool)
 ·skip
  refine ag ?_
  refine ay 2 h s bw rfl rfl (aw _ _ _ _) rfl ?_;intro f h
  refine aK h s fY (aT (.bool false) (cS n vs vf _ (hRs.keep s.ext) (hRf.keep s.ext) hns hnf) (congrArg Value.bool hr)) rfl rfl ?_;intro f w1 v9 hT hE h s;obtain rfl:=hT
  refine ac h (aE (.bool true) (bI (h.ev rfl)) rfl) rfl ?_;intro f h
  refine ac h (ah (h.ev rfl)) rfl ?_;intro f h
  refine aY (b:=false) h rfl rfl rfl rfl ?_;intro f h
  refine aY (b:=false) h rfl rfl rfl rfl ?_;intro f h
  refine aY (b:=false) h rfl rfl rfl rfl ?_;intro f h
  refine ac h (aO (h.ev rfl) (h.ev rfl)) rfl ?_;intro f h
  refine ai ?_
  refine hK3 _ _ ?_
  refine wpIn_cond_true (h.ev rfl) ?_
  refine ak fun K4 hK4=>?_
  refine ag ?_
  refine ac h (d3 pP) rfl ?_;intro f h
  refine aA 0 h s bw rfl rfl rfl (aw _ _ _ _) (aw _ _ _ _) (br (rfl) (rfl)) ?_;intro w1 s
  refine ac h (aj (h.ev rfl)) rfl ?_;intro f h
  refine ai ?_
  refine hK4 _ _ ?_
  refine wpIn_ret ?_
  refine a8 ?_
  exact bS 0 rfl h s bw rfl rfl (aw _ _ _ _) rfl (jR s (vg hr).1 (vg hr).2)
 ·skip
  cases hx:(dI x:Bool)
  ·skip
   refine ag ?_
   refine ay 2 h s bw rfl rfl (aw _ _ _ _) rfl ?_;intro f h
   refine aK h s fY (aT (.bool true) (cS n vs vf _ (hRs.keep s.ext) (hRf.keep s.ext) hns hnf) (congrArg Value.bool hr)) rfl rfl ?_;intro f w1 v9 hT hE h s;obtain rfl:=hT
   refine ac h (aE (.bool false) (bI (h.ev rfl)) rfl) rfl ?_;intro f h
   refine ac h (ah (h.ev rfl)) rfl ?_;intro f h
   refine a2 h rfl rfl rfl ?_
   refine ay 1 h s aJ rfl rfl (al _) rfl ?_;intro f h
   refine a2 h rfl rfl rfl ?_
   refine aK h s fJ (aT (.bool false) (di x _) (congrArg Value.bool hx)) rfl rfl ?_;intro f w1 v9 hT hE h s;obtain rfl:=hT
   refine a2 h rfl rfl rfl ?_
   refine ac h (aE (.bool true) (bI (h.ev rfl)) rfl) rfl ?_;intro f h
   refine ac h (aL (h.ev rfl) (h.ev rfl)) rfl ?_;intro f h
   refine ai ?_
   refine hK3 _ _ ?_
   refine wpIn_cond_true (h.ev rfl) ?_
   refine ak fun K5 hK5=>?_
   refine ag ?_
   refine ac h (d3 pP) rfl ?_;intro f h
   refine aA 0 h s bw rfl rfl rfl (aw _ _ _ _) (aw _ _ _ _) (br (rfl) (rfl)) ?_;intro w1 s
   refine ac h (aj (h.ev rfl)) rfl ?_;intro f h
   refine ai ?_
   refine hK5 _ _ ?_
   refine wpIn_ret ?_
   refine a8 ?_
   exact bS 0 rfl h s bw rfl rfl (aw _ _ _ _) rfl (jR s (wh hx).1 (wh hx).2)
  ·skip
   refine ag ?_
   refine ay 2 h s bw rfl rfl (aw _ _ _ _) rfl ?_;intro f h
   refine aK h s fY (aT (.bool true) (cS n vs vf _ (hRs.keep s.ext) (hRf.keep s.ext) hns hnf) (congrArg Value.bool hr)) rfl rfl ?_;intro f w1 v9 hT hE h s;obtain rfl:=hT
   refine ac h (aE (.bool false) (bI (h.ev rfl)) rfl) rfl ?_;intro f h
   refine ac h (ah (h.ev rfl)) rfl ?_;intro f h
   refine a2 h rfl rfl rfl ?_
   refine ay 1 h s aJ rfl rfl (al _) rfl ?_;intro f h
   refine a2 h rfl rfl rfl ?_
   refine aK h s fJ (aT (.bool true) (di x _) (congrArg Value.bool hx)) rfl rfl ?_;intro f w1 v9 hT hE h s;obtain rfl:=hT
   refine a2 h rfl rfl rfl ?_
   refine ac h (aE (.bool false) (bI (h.ev rfl)) rfl) rfl ?_;intro f h
   refine ac h (aL (h.ev rfl) (h.ev rfl)) rfl ?_;intro f h
   refine ai ?_
   refine hK3 _ _ ?_
   refine wpIn_cond_false (h.ev rfl) ?_
   refine wpIn_skip ?_
   refine hK2 _ _ ?_
   refine ak fun K6 hK6=>?_
   refine ag ?_
   refine ay 2 h s bw rfl rfl (aw _ _ _ _) rfl ?_;intro f h
   refine aK h s uC (iS n vs vf _ (hRs.keep s.ext) (hRf.keep s.ext) hns hnf) rfl rfl ?_;rintro f w1 v17 ⟨us,uf,rfl,hS⟩ hE h sq;replace s:=s.add hS
   refine aA 4 h s bw rfl rfl rfl (aw _ _ _ _) (aw _ _ _ _) (br (bo (s.getSl 0 rfl)) (bo (s.getSl 1 rfl))) ?_;intro w1 s
   refine ai ?_
   refine hK6 _ _ ?_
   refine ak fun K7 hK7=>?_
   cases g0:(decide (x.1≠n.me.1):Bool)
   ·skip
    refine ag ?_
    refine ac h (aq aP (h.ev rfl)) rfl ?_;intro f h
    refine aC (ax (bq.of_own s 3 rfl) 0 (aV _)) h bV rfl rfl ?_;intro f h
    refine ac h (aq bA (h.ev rfl)) rfl ?_;intro f h
    refine ac h (aq aP (h.ev rfl)) rfl ?_;intro f h
    refine aC (ax (bq.of_own s 4 rfl) 0 (dz _ _ _ _)) h bV rfl rfl ?_;intro f h
    refine ac h (aE (.bool false) (cJ (h.ev rfl) (h.ev rfl)) (congrArg Value.bool g0)) rfl ?_;intro f h
    refine ac h (ah (h.ev rfl)) rfl ?_;intro f h
    refine aY (b:=true) h rfl rfl rfl rfl ?_;intro f h
    refine aY (b:=true) h rfl rfl rfl rfl ?_;intro f h
    refine aY (b:=true) h rfl rfl rfl rfl ?_;intro f h
    refine aY (b:=true) h rfl rfl rfl rfl ?_;intro f h
    refine aY (b:=true) h rfl rfl rfl rfl ?_;intro f h
    refine aY (b:=true) h rfl rfl rfl rfl ?_;intro f h
    refine ac h (aL (h.ev rfl) (h.ev rfl)) rfl ?_;intro f h
    refine ac h (aj (h.ev rfl)) rfl ?_;intro f h
    refine ai ?_
    refine hK7 _ _ ?_
    refine ak fun K8 hK8=>?_
    refine ak fun K9 hK9=>?_
    refine bG 18 [[],[0],[0,1],[0,1,2],[0,1],[0,1,2,3,4],[0,1,2,3,4,5],[0,1,2,3,4,5,6],[0,1,2,3,4,5,6,7],[0,1,2,3,4,5,6],[0,1,2,3,4,5,6,9],[0,1,2,3,4,5,6,9,10],[0,1,2,3,4,5,6],[0,1,2,3,4,5,6,12],[0,1,2,3,4,5,6,12,13],[0,1,2,3,4,5,6,7,8,9,10,11,12,13,14],[0,1,2,3,4,5,6,7,8,9,10,11,12,13,14,15],[0,1,2,3,4,5,6,7,8,9,10,11,12,13,14,15,16]] h (by kernel_rfl) (by kernel_rfl) (by kernel_rfl) ?_
    refine ao h (ah (h.ev rfl)) rfl ?_;intro f h
    refine ao h (ah (h.ev rfl)) rfl ?_;intro f h
    refine ba (b:=true) h rfl rfl rfl rfl ?_;intro f h
    refine ba (b:=true) h rfl rfl rfl rfl ?_;intro f h
    refine ba (b:=true) h rfl rfl rfl rfl ?_;intro f h
    refine ba (b:=true) h rfl rfl rfl rfl ?_;intro f h
    refine ba (b:=true) h rfl rfl rfl rfl ?_;intro f h
    refine dc h rfl rfl rfl rfl ?_;intro f h
    refine dc h rfl rfl rfl rfl ?_;intro f h
    refine dc h rfl rfl rfl rfl ?_;intro f h
    refine dc h rfl rfl rfl rfl ?_;intro f h
    refine dc h rfl rfl rfl rfl ?_;intro f h
    refine dc h rfl rfl rfl rfl ?_;intro f h
    refine dc h rfl rfl rfl rfl ?_;intro f h
    refine dc h rfl rfl rfl rfl ?_;intro f h
    refine dc h rfl rfl rfl rfl ?_;intro f h
    refine ba (b:=true) h rfl rfl rfl rfl ?_;intro f h
    refine ao h (aL (h.ev rfl) (h.ev rfl)) rfl ?_;intro f h
    refine cn s fun w1 s=>?_
    refine ai ?_
    refine hK9 _ _ ?_
    refine wpIn_cond_false (h.ev rfl) ?_
    refine wpIn_skip ?_
    refine hK8 _ _ ?_
    refine ak fun K10 hK10=>?_
    refine ag ?_
    refine ay 4 h s bw rfl rfl (aw _ _ _ _) rfl ?_;intro f h
    refine aA 2 h s bw rfl rfl rfl (aw _ _ _ _) (aw _ _ _ _) (br (bo (s.getSl 0 rfl)) (bo (s.getSl 1 rfl))) ?_;intro w1 s
    refine ac h (aj (h.ev rfl)) rfl ?_;intro f h
    refine ai ?_
    refine hK10 _ _ ?_
    refine wpIn_ret ?_
    exact bS 2 rfl h s bw rfl rfl (aw _ _ _ _) rfl (gr ((gB hr hx).1.trans (by rw [y3 g0])) (gB hr hx).2 (s.pick _ (List.Sublist.cons_cons _ (List.Sublist.cons_cons _ (List.Sublist.cons _ (List.Sublist.cons _ (List.Sublist.cons _ (List.nil_sublist _))))))))
   ·skip
    cases g1:(decide (x.2≠n.me.2):Bool)
    ·skip
     refine ag ?_
     refine ac h (aq aP (h.ev rfl)) rfl ?_;intro f h
     refine aC (ax (bq.of_own s 3 rfl) 0 (aV _)) h bV rfl rfl ?_;intro f h
     refine ac h (aq bA (h.ev rfl)) rfl ?_;intro f h
     refine ac h (aq aP (h.ev rfl)) rfl ?_;intro f h
     refine aC (ax (bq.of_own s 4 rfl) 0 (dz _ _ _ _)) h bV rfl rfl ?_;intro f h
     refine ac h (aE (.bool true) (cJ (h.ev rfl) (h.ev rfl)) (congrArg Value.bool g0)) rfl ?_;intro f h
     refine ac h (ah (h.ev rfl)) rfl ?_;intro f h
     refine a2 h rfl rfl rfl ?_
     refine ac h (aq ce (h.ev rfl)) rfl ?_;intro f h
     refine a2 h rfl rfl rfl ?_
     refine aI (bq.subL (bq.of_own s 3 rfl) 1 32 (D:=bD (_)) (co _)) h cq rfl (by first|exact aR _|exact aM _ _) rfl ?_;intro f h
     refine a2 h rfl rfl rfl ?_
     refine ac h (aq bA (h.ev rfl)) rfl ?_;intro f h
     refine a2 h rfl rfl rfl ?_
     refine ac h (aq ce (h.ev rfl)) rfl ?_;intro f h
     refine a2 h rfl rfl rfl ?_
     refine aI (bq.subL (bq.of_own s 4 rfl) 1 32 (D:=bD n.me.2) (ec _ _ _ _)) h cq rfl (by first|exact aR _|exact aM _ _) rfl ?_;intro f h
     refine a2 h rfl rfl rfl ?_
     refine ac h (aE (.bool false) (ik gY (h.ev rfl) (h.ev rfl)) (congrArg Value.bool g1)) rfl ?_;intro f h
     refine ac h (aO (h.ev rfl) (h.ev rfl)) rfl ?_;intro f h
     refine ac h (aj (h.ev rfl)) rfl ?_;intro f h
     refine ai ?_
     refine hK7 _ _ ?_
     refine ak fun K11 hK11=>?_
     refine ak fun K12 hK12=>?_
     refine bG 18 [[],[0],[0,1],[0,1,2],[0,1],[0,1,2,3,4],[0,1,2,3,4,5],[0,1,2,3,4,5,6],[0,1,2,3,4,5,6,7],[0,1,2,3,4,5,6],[0,1,2,3,4,5,6,9],[0,1,2,3,4,5,6,9,10],[0,1,2,3,4,5,6],[0,1,2,3,4,5,6,12],[0,1,2,3,4,5,6,12,13],[0,1,2,3,4,5,6,7,8,9,10,11,12,13,14],[0,1,2,3,4,5,6,7,8,9,10,11,12,13,14,15],[0,1,2,3,4,5,6,7,8,9,10,11,12,13,14,15,16]] h (by kernel_rfl) (by kernel_rfl) (by kernel_rfl) ?_
     refine ao h (ah (h.ev rfl)) rfl ?_;intro f h
     refine ao h (ah (h.ev rfl)) rfl ?_;intro f h
     refine ba (b:=true) h rfl rfl rfl rfl ?_;intro f h
     refine ba (b:=true) h rfl rfl rfl rfl ?_;intro f h
     refine ba (b:=true) h rfl rfl rfl rfl ?_;intro f h
     refine ba (b:=true) h rfl rfl rfl rfl ?_;intro f h
     refine ba (b:=true) h rfl rfl rfl rfl ?_;intro f h
     refine dc h rfl rfl rfl rfl ?_;intro f h
     refine dc h rfl rfl rfl rfl ?_;intro f h
     refine dc h rfl rfl rfl rfl ?_;intro f h
     refine dc h rfl rfl rfl rfl ?_;intro f h
     refine dc h rfl rfl rfl rfl ?_;intro f h
     refine dc h rfl rfl rfl rfl ?_;intro f h
     refine dc h rfl rfl rfl rfl ?_;intro f h
     refine dc h rfl rfl rfl rfl ?_;intro f h
     refine dc h rfl rfl rfl rfl ?_;intro f h
     refine ba (b:=true) h rfl rfl rfl rfl ?_;intro f h
     refine ao h (aL (h.ev rfl) (h.ev rfl)) rfl ?_;intro f h
     refine cn s fun w1 s=>?_
     refine ai ?_
     refine hK12 _ _ ?_
     refine wpIn_cond_false (h.ev rfl) ?_
     refine wpIn_skip ?_
     refine hK11 _ _ ?_
     refine ak fun K13 hK13=>?_
     refine ag ?_
     refine ay 4 h s bw rfl rfl (aw _ _ _ _) rfl ?_;intro f h
     refine aA 2 h s bw rfl rfl rfl (aw _ _ _ _) (aw _ _ _ _) (br (bo (s.getSl 0 rfl)) (bo (s.getSl 1 rfl))) ?_;intro w1 s
     refine ac h (aj (h.ev rfl)) rfl ?_;intro f h
     refine ai ?_
     refine hK13 _ _ ?_
     refine wpIn_ret ?_
     exact bS 2 rfl h s bw rfl rfl (aw _ _ _ _) rfl (gr ((gB hr hx).1.trans (by rw [B2 g1])) (gB hr hx).2 (s.pick _ (List.Sublist.cons_cons _ (List.Sublist.cons_cons _ (List.Sublist.cons _ (List.Sublist.cons _ (List.Sublist.cons _ (List.nil_sublist _))))))))
    ·skip
     refine ag ?_
     refine ac h (aq aP (h.ev rfl)) rfl ?_;intro f h
     refine aC (ax (bq.of_own s 3 rfl) 0 (aV _)) h bV rfl rfl ?_;intro f h
     refine ac h (aq bA (h.ev rfl)) rfl ?_;intro f h
     refine ac h (aq aP (h.ev rfl)) rfl ?_;intro f h
     refine aC (ax (bq.of_own s 4 rfl) 0 (dz _ _ _ _)) h bV rfl rfl ?_;intro f h
     refine ac h (aE (.bool true) (cJ (h.ev rfl) (h.ev rfl)) (congrArg Value.bool g0)) rfl ?_;intro f h
     refine ac h (ah (h.ev rfl)) rfl ?_;intro f h
     refine a2 h rfl rfl rfl ?_
     refine ac h (aq ce (h.ev rfl)) rfl ?_;intro f h
     refine a2 h rfl rfl rfl ?_
     refine aI (bq.subL (bq.of_own s 3 rfl) 1 32 (D:=bD (_)) (co _)) h cq rfl (by first|exact aR _|exact aM _ _) rfl ?_;intro f h
     refine a2 h rfl rfl rfl ?_
     refine ac h (aq bA (h.ev rfl)) rfl ?_;intro f h
     refine a2 h rfl rfl rfl ?_
     refine ac h (aq ce (h.ev rfl)) rfl ?_;intro f h
     refine a2 h rfl rfl rfl ?_
     refine aI (bq.subL (bq.of_own s 4 rfl) 1 32 (D:=bD n.me.2) (ec _ _ _ _)) h cq rfl (by first|exact aR _|exact aM _ _) rfl ?_;intro f h
     refine a2 h rfl rfl rfl ?_
     refine ac h (aE (.bool true) (ik gY (h.ev rfl) (h.ev rfl)) (congrArg Value.bool g1)) rfl ?_;intro f h
     refine ac h (aO (h.ev rfl) (h.ev rfl)) rfl ?_;intro f h
     refine ac h (aj (h.ev rfl)) rfl ?_;intro f h
     refine ai ?_
     refine hK7 _ _ ?_
     refine ak fun K14 hK14=>?_
     refine ak fun K15 hK15=>?_
     cases q0:(decide (n.pr=c4):Bool)
     ·skip
      cases q1:(qb x.2 n.pr.2 n.me.2:Bool)
      ·skip
       refine bG 18 [[],[0],[0,1],[0,1,2],[0,1],[0,1,2,3,4],[0,1,2,3,4,5],[0,1,2,3,4,5,6],[0,1,2,3,4,5,6,7],[0,1,2,3,4,5,6],[0,1,2,3,4,5,6,9],[0,1,2,3,4,5,6,9,10],[0,1,2,3,4,5,6],[0,1,2,3,4,5,6,12],[0,1,2,3,4,5,6,12,13],[0,1,2,3,4,5,6,7,8,9,10,11,12,13,14],[0,1,2,3,4,5,6,7,8,9,10,11,12,13,14,15],[0,1,2,3,4,5,6,7,8,9,10,11,12,13,14,15,16]] h (by kernel_rfl) (by kernel_rfl) (by kernel_rfl) ?_
       refine ao h (ah (h.ev rfl)) rfl ?_;intro f h
       refine ao h (ah (h.ev rfl)) rfl ?_;intro f h
       refine bf h rfl rfl rfl ?_
       refine ao h (aq cx (h.ev rfl)) rfl ?_;intro f h
       refine bf h rfl rfl rfl ?_
       refine bg (bq.subL (bq.of_own s 4 rfl) 33 33 (D:=av n.pr) (cN _ _ _ _)) h aJ rfl (al _) rfl ?_;intro f h
       refine bf h rfl rfl rfl ?_
       refine cm h fA (fun w9 hE9=>dh w9) rfl rfl ?_;intro f h
       refine bf h rfl rfl rfl ?_
       refine ao h (aE (.bool false) (cU (i9 _ _) (by kernel_rfl) (by decide) (h.ev rfl) (h.ev rfl) (decide (n.pr=c4)) (er _ _)) (congrArg Value.bool q0)) rfl ?_;intro f h
       refine bf h rfl rfl rfl ?_
       refine ao h (ah (h.ev rfl)) rfl ?_;intro f h
       refine bf h rfl rfl rfl ?_
       refine ao h (aq ce (h.ev rfl)) rfl ?_;intro f h
       refine bf h rfl rfl rfl ?_
       refine bg (bq.subL (bq.of_own s 3 rfl) 1 32 (D:=bD (_)) (co _)) h cq rfl (by first|exact aR _|exact aM _ _) rfl ?_;intro f h
       refine bf h rfl rfl rfl ?_
       refine ao h (aq cx (h.ev rfl)) rfl ?_;intro f h
       refine bf h rfl rfl rfl ?_
       refine ao h (aq ce (h.ev rfl)) rfl ?_;intro f h
       refine bf h rfl rfl rfl ?_
       refine bg (bq.subL (bq.of_own s 4 rfl) 34 32 (D:=bD n.pr.2) (mI _ _ _ _)) h cq rfl (by first|exact aR _|exact aM _ _) rfl ?_;intro f h
       refine bf h rfl rfl rfl ?_
       refine ao h (aq bA (h.ev rfl)) rfl ?_;intro f h
       refine bf h rfl rfl rfl ?_
       refine ao h (aq ce (h.ev rfl)) rfl ?_;intro f h
       refine bf h rfl rfl rfl ?_
       refine bg (bq.subL (bq.of_own s 4 rfl) 1 32 (D:=bD n.me.2) (ec _ _ _ _)) h cq rfl (by first|exact aR _|exact aM _ _) rfl ?_;intro f h
       refine bf h rfl rfl rfl ?_
       refine cm h nV (fun w9 hE9=>aT (.bool false) (ol _ _ _ w9) (congrArg Value.bool q1)) rfl rfl ?_;intro f h
       refine bf h rfl rfl rfl ?_
       refine ao h (aL (h.ev rfl) (h.ev rfl)) rfl ?_;intro f h
       refine ao h (aO (h.ev rfl) (h.ev rfl)) rfl ?_;intro f h
       refine cn s fun w1 s=>?_
       refine ai ?_
       refine hK15 _ _ ?_
       refine wpIn_cond_false (h.ev rfl) ?_
       refine wpIn_skip ?_
       refine hK14 _ _ ?_
       refine ak fun K16 hK16=>?_
       refine ag ?_
       refine ay 4 h s bw rfl rfl (aw _ _ _ _) rfl ?_;intro f h
       refine aA 2 h s bw rfl rfl rfl (aw _ _ _ _) (aw _ _ _ _) (br (bo (s.getSl 0 rfl)) (bo (s.getSl 1 rfl))) ?_;intro w1 s
       refine ac h (aj (h.ev rfl)) rfl ?_;intro f h
       refine ai ?_
       refine hK16 _ _ ?_
       refine wpIn_ret ?_
       exact bS 2 rfl h s bw rfl rfl (aw _ _ _ _) rfl (gr ((gB hr hx).1.trans (by rw [Cr q0 q1])) (gB hr hx).2 (s.pick _ (List.Sublist.cons_cons _ (List.Sublist.cons_cons _ (List.Sublist.cons _ (List.Sublist.cons _ (List.Sublist.cons _ (List.nil_sublist _))))))))
      ·skip
       refine bG 18 [[],[0],[0,1],[0,1,2],[0,1],[0,1,2,3,4],[0,1,2,3,4,5],[0,1,2,3,4,5,6],[0,1,2,3,4,5,6,7],[0,1,2,3,4,5,6],[0,1,2,3,4,5,6,9],[0,1,2,3,4,5,6,9,10],[0,1,2,3,4,5,6],[0,1,2,3,4,5,6,12],[0,1,2,3,4,5,6,12,13],[0,1,2,3,4,5,6,7,8,9,10,11,12,13,14],[0,1,2,3,4,5,6,7,8,9,10,11,12,13,14,15],[0,1,2,3,4,5,6,7,8,9,10,11,12,13,14,15,16]] h (by kernel_rfl) (by kernel_rfl) (by kernel_rfl) ?_
       refine ao h (ah (h.ev rfl)) rfl ?_;intro f h
       refine ao h (ah (h.ev rfl)) rfl ?_;intro f h
       refine bf h rfl rfl rfl ?_
       refine ao h (aq cx (h.ev rfl)) rfl ?_;intro f h
       refine bf h rfl rfl rfl ?_
       refine bg (bq.subL (bq.of_own s 4 rfl) 33 33 (D:=av n.pr) (cN _ _ _ _)) h aJ rfl (al _) rfl ?_;intro f h
       refine bf h rfl rfl rfl ?_
       refine cm h fA (fun w9 hE9=>dh w9) rfl rfl ?_;intro f h
       refine bf h rfl rfl rfl ?_
       refine ao h (aE (.bool false) (cU (i9 _ _) (by kernel_rfl) (by decide) (h.ev rfl) (h.ev rfl) (decide (n.pr=c4)) (er _ _)) (congrArg Value.bool q0)) rfl ?_;intro f h
       refine bf h rfl rfl rfl ?_
       refine ao h (ah (h.ev rfl)) rfl ?_;intro f h
       refine bf h rfl rfl rfl ?_
       refine ao h (aq ce (h.ev rfl)) rfl ?_;intro f h
       refine bf h rfl rfl rfl ?_
       refine bg (bq.subL (bq.of_own s 3 rfl) 1 32 (D:=bD (_)) (co _)) h cq rfl (by first|exact aR _|exact aM _ _) rfl ?_;intro f h
       refine bf h rfl rfl rfl ?_
       refine ao h (aq cx (h.ev rfl)) rfl ?_;intro f h
       refine bf h rfl rfl rfl ?_
       refine ao h (aq ce (h.ev rfl)) rfl ?_;intro f h
       refine bf h rfl rfl rfl ?_
       refine bg (bq.subL (bq.of_own s 4 rfl) 34 32 (D:=bD n.pr.2) (mI _ _ _ _)) h cq rfl (by first|exact aR _|exact aM _ _) rfl ?_;intro f h
       refine bf h rfl rfl rfl ?_
       refine ao h (aq bA (h.ev rfl)) rfl ?_;intro f h
       refine bf h rfl rfl rfl ?_
       refine ao h (aq ce (h.ev rfl)) rfl ?_;intro f h
       refine bf h rfl rfl rfl ?_
       refine bg (bq.subL (bq.of_own s 4 rfl) 1 32 (D:=bD n.me.2) (ec _ _ _ _)) h cq rfl (by first|exact aR _|exact aM _ _) rfl ?_;intro f h
       refine bf h rfl rfl rfl ?_
       refine cm h nV (fun w9 hE9=>aT (.bool true) (ol _ _ _ w9) (congrArg Value.bool q1)) rfl rfl ?_;intro f h
       refine bf h rfl rfl rfl ?_
       refine ao h (aL (h.ev rfl) (h.ev rfl)) rfl ?_;intro f h
       refine ao h (aO (h.ev rfl) (h.ev rfl)) rfl ?_;intro f h
       refine cn s fun w1 s=>?_
       refine ai ?_
       refine hK15 _ _ ?_
       refine wpIn_cond_true (h.ev rfl) ?_
       refine ag ?_
       refine ay 3 h s aJ rfl rfl (al _) rfl ?_;intro f h
       refine ac h (aq cx (h.ev rfl)) rfl ?_;intro f h
       refine fG 4 h s aJ rfl rfl rfl (al _) (by rw [aw];omega) (aX _) ?_;intro w1 s
       replace s:=s.recell (D:=au n.me x us uf) 4 rfl (ld _ _ _ _ _)
       refine ai ?_
       refine hK14 _ _ ?_
       refine ak fun K17 hK17=>?_
       refine ag ?_
       refine ay 4 h s bw rfl rfl (aw _ _ _ _) rfl ?_;intro f h
       refine aA 2 h s bw rfl rfl rfl (aw _ _ _ _) (aw _ _ _ _) (br (bo (s.getSl 0 rfl)) (bo (s.getSl 1 rfl))) ?_;intro w1 s
       refine ac h (aj (h.ev rfl)) rfl ?_;intro f h
       refine ai ?_
       refine hK17 _ _ ?_
       refine wpIn_ret ?_
       exact bS 2 rfl h s bw rfl rfl (aw _ _ _ _) rfl (gr ((gB hr hx).1.trans (by rw [CD g0 g1 q0 q1])) (gB hr hx).2 (s.pick _ (List.Sublist.cons_cons _ (List.Sublist.cons_cons _ (List.Sublist.cons _ (List.Sublist.cons _ (List.Sublist.cons _ (List.nil_sublist _))))))))
     ·skip
      refine bG 18 [[],[0],[0,1],[0,1,2],[0,1],[0,1,2,3,4],[0,1,2,3,4,5],[0,1,2,3,4,5,6],[0,1,2,3,4,5,6,7],[0,1,2,3,4,5,6],[0,1,2,3,4,5,6,9],[0,1,2,3,4,5,6,9,10],[0,1,2,3,4,5,6],[0,1,2,3,4,5,6,12],[0,1,2,3,4,5,6,12,13],[0,1,2,3,4,5,6,7,8,9,10,11,12,13,14],[0,1,2,3,4,5,6,7,8,9,10,11,12,13,14,15],[0,1,2,3,4,5,6,7,8,9,10,11,12,13,14,15,16]] h (by kernel_rfl) (by kernel_rfl) (by kernel_rfl) ?_
      refine ao h (ah (h.ev rfl)) rfl ?_;intro f h
      refine ao h (ah (h.ev rfl)) rfl ?_;intro f h
      refine bf h rfl rfl rfl ?_
      refine ao h (aq cx (h.ev rfl)) rfl ?_;intro f h
      refine bf h rfl rfl rfl ?_
      refine bg (bq.subL (bq.of_own s 4 rfl) 33 33 (D:=av n.pr) (cN _ _ _ _)) h aJ rfl (al _) rfl ?_;intro f h
      refine bf h rfl rfl rfl ?_
      refine cm h fA (fun w9 hE9=>dh w9) rfl rfl ?_;intro f h
      refine bf h rfl rfl rfl ?_
      refine ao h (aE (.bool true) (cU (i9 _ _) (by kernel_rfl) (by decide) (h.ev rfl) (h.ev rfl) (decide (n.pr=c4)) (er _ _)) (congrArg Value.bool q0)) rfl ?_;intro f h
      refine bf h rfl rfl rfl ?_
      refine ao h (ah (h.ev rfl)) rfl ?_;intro f h
      refine ba (b:=false) h rfl rfl rfl rfl ?_;intro f h
      refine ba (b:=false) h rfl rfl rfl rfl ?_;intro f h
      refine ba (b:=false) h rfl rfl rfl rfl ?_;intro f h
      refine ba (b:=false) h rfl rfl rfl rfl ?_;intro f h
      refine ba (b:=false) h rfl rfl rfl rfl ?_;intro f h
      refine ba (b:=false) h rfl rfl rfl rfl ?_;intro f h
      refine ba (b:=false) h rfl rfl rfl rfl ?_;intro f h
      refine ba (b:=false) h rfl rfl rfl rfl ?_;intro f h
      refine ba (b:=false) h rfl rfl rfl rfl ?_;intro f h
      refine bf h rfl rfl rfl ?_
      refine ao h (aO (h.ev rfl) (h.ev rfl)) rfl ?_;intro f h
      refine ao h (aO (h.ev rfl) (h.ev rfl)) rfl ?_;intro f h
      refine cn s fun w1 s=>?_
      refine ai ?_
      refine hK15 _ _ ?_
      refine wpIn_cond_true (h.ev rfl) ?_
      refine ag ?_
      refine ay 3 h s aJ rfl rfl (al _) rfl ?_;intro f h
      refine ac h (aq cx (h.ev rfl)) rfl ?_;intro f h
      refine fG 4 h s aJ rfl rfl rfl (al _) (by rw [aw];omega) (aX _) ?_;intro w1 s
      replace s:=s.recell (D:=au n.me x us uf) 4 rfl (ld _ _ _ _ _)
      refine ai ?_
      refine hK14 _ _ ?_
      refine ak fun K18 hK18=>?_
      refine ag ?_
      refine ay 4 h s bw rfl rfl (aw _ _ _ _) rfl ?_;intro f h
      refine aA 2 h s bw rfl rfl rfl (aw _ _ _ _) (aw _ _ _ _) (br (bo (s.getSl 0 rfl)) (bo (s.getSl 1 rfl))) ?_;intro w1 s
      refine ac h (aj (h.ev rfl)) rfl ?_;intro f h
      refine ai ?_
      refine hK18 _ _ ?_
      refine wpIn_ret ?_
      exact bS 2 rfl h s bw rfl rfl (aw _ _ _ _) rfl (gr ((gB hr hx).1.trans (by rw [Ce g0 g1 q0])) (gB hr hx).2 (s.pick _ (List.Sublist.cons_cons _ (List.Sublist.cons_cons _ (List.Sublist.cons _ (List.Sublist.cons _ (List.Sublist.cons _ (List.nil_sublist _))))))))
theorem te (m:Mb) (z:Nd) (ws wf:Value) (w:World):Calls Tryz.prog 122 [.agg (av m),.agg (au z.me z.pr ws wf)].toArray w (cO w (is (.agg (av (j2 m z))))):=by
 refine bh Tryz.func122 rfl Tryz.ntmps122 rfl [(0,.agg (av m)),(1,.agg (au z.me z.pr ws wf))] (by simp) fun f h=>?_
 have s:=St.start w
 refine ak fun K1 hK1=>?_
 refine ag ?_
 refine bR ((av m)) h s rfl rfl rfl ?_;intro f w1 b2 h s
 refine bR (au z.me z.pr ws wf) h s rfl rfl rfl ?_;intro f w1 b3 h s
 refine bi (av ap) h s cF rfl rfl ?_;intro f w1 b4 h s
 refine ai ?_
 refine hK1 _ _ ?_
 refine ak fun K2 hK2=>?_
 refine ag ?_
 refine ac h (aq cx (h.ev rfl)) rfl ?_;intro f h
 refine aI (bq.subL (bq.of_own s 1 rfl) 33 33 (D:=av z.pr) (cN _ _ _ _)) h aJ rfl (al _) rfl ?_;intro f h
 refine bi (av ap) h s cF rfl rfl ?_;intro f w1 b5 h s
 refine aA 0 h s aJ rfl rfl rfl (al _) (al _) (aX _) ?_;intro w1 s
 refine ai ?_
 refine hK2 _ _ ?_
 refine ak fun K3 hK3=>?_
 refine ak fun K4 hK4=>?_
 cases q0:(decide (z.pr=c4):Bool)
 ·skip
  cases q1:(decide (z.pr.1=m.1):Bool)
  ·skip
   cases q2:(decide (z.pr.2=m.2):Bool)
   ·skip
    cases q3:(decide (z.pr.2=z.me.2):Bool)
    ·skip
     refine bG 25 [[],[],[0,1],[0,1,2],[0,1,2,3],[0,1,2,3,4],[0,1,2,3],[0,1,2,3,6],[0,1,2,3,4,5,6,7],[0,1,2,3,4,5,6,7,8],[0,1,2,3,4,5,6,7,8,9],[0,1,2,3,4,5,6,7,8,9,10],[0,1,2,3,4,5,6,7,8,9,10,11],[0,1,2,3,4,5,6,7,8,9,10],[0,1,2,3,4,5,6,7,8,9,10,13],[0,1,2,3,4,5,6,7,8,9,10,11,12,13,14],[0,1,2,3,4,5,6,7,8,9,10,11,12,13,14,15],[0,1,2,3,4,5,6,7,8,9,10,11,12,13,14,15,16],[0,1,2,3,4,5,6,7,8,9,10,11,12,13,14,15,16,17],[0,1,2,3,4,5,6,7,8,9,10,11,12,13,14,15,16,17,18],[0,1,2,3,4,5,6,7,8,9,10,11,12,13,14,15,16,17],[0,1,2,3,4,5,6,7,8,9,10,11,12,13,14,15,16,17,20],[0,1,2,3,4,5,6,7,8,9,10,11,12,13,14,15,16,17,20,21],[0,1,2,3,4,5,6,7,8,9,10,11,12,13,14,15,16,17,18,19,20,21,22],[0,1,2,3,4,5,6,7,8,9,10,11,12,13,14,15,16,17,18,19,20,21,22,23]] h (by kernel_rfl) (by kernel_rfl) (by kernel_rfl) ?_
     refine bC 0 h s aJ rfl rfl (al _) rfl ?_;intro f h
     refine cm h fA (fun w9 hE9=>dh w9) rfl rfl ?_;intro f h
     refine ao h (aE (.bool false) (cU (i9 _ _) (by kernel_rfl) (by decide) (h.ev rfl) (h.ev rfl) (decide (z.pr=c4)) (er _ _)) (congrArg Value.bool q0)) rfl ?_;intro f h
     refine ao h (ah (h.ev rfl)) rfl ?_;intro f h
     refine bf h rfl rfl rfl ?_
     refine ao h (aq aP (h.ev rfl)) rfl ?_;intro f h
     refine bf h rfl rfl rfl ?_
     refine bz (ax (bq.of_own s 0 rfl) 0 (aV _)) h bV rfl rfl ?_;intro f h
     refine bf h rfl rfl rfl ?_
     refine ao h (aq aP (h.ev rfl)) rfl ?_;intro f h
     refine bf h rfl rfl rfl ?_
     refine bz (ax (bq.of_own s 3 rfl) 0 (aV _)) h bV rfl rfl ?_;intro f h
     refine bf h rfl rfl rfl ?_
     refine ao h (aE (.bool false) (cb (h.ev rfl) (h.ev rfl)) (congrArg Value.bool q1)) rfl ?_;intro f h
     refine ao h (aL (h.ev rfl) (h.ev rfl)) rfl ?_;intro f h
     refine ao h (ah (h.ev rfl)) rfl ?_;intro f h
     refine bf h rfl rfl rfl ?_
     refine ao h (aq ce (h.ev rfl)) rfl ?_;intro f h
     refine bf h rfl rfl rfl ?_
     refine bg (bq.subL (bq.of_own s 0 rfl) 1 32 (D:=bD (_)) (co _)) h cq rfl (by first|exact aR _|exact aM _ _) rfl ?_;intro f h
     refine bf h rfl rfl rfl ?_
     refine ao h (aq ce (h.ev rfl)) rfl ?_;intro f h
     refine bf h rfl rfl rfl ?_
     refine bg (bq.subL (bq.of_own s 3 rfl) 1 32 (D:=bD (_)) (co _)) h cq rfl (by first|exact aR _|exact aM _ _) rfl ?_;intro f h
     refine bf h rfl rfl rfl ?_
     refine ao h (aE (.bool false) (dM gY (h.ev rfl) (h.ev rfl)) (congrArg Value.bool q2)) rfl ?_;intro f h
     refine ao h (aL (h.ev rfl) (h.ev rfl)) rfl ?_;intro f h
     refine ao h (ah (h.ev rfl)) rfl ?_;intro f h
     refine bf h rfl rfl rfl ?_
     refine ao h (aq ce (h.ev rfl)) rfl ?_;intro f h
     refine bf h rfl rfl rfl ?_
     refine bg (bq.subL (bq.of_own s 0 rfl) 1 32 (D:=bD (_)) (co _)) h cq rfl (by first|exact aR _|exact aM _ _) rfl ?_;intro f h
     refine bf h rfl rfl rfl ?_
     refine ao h (aq bA (h.ev rfl)) rfl ?_;intro f h
     refine bf h rfl rfl rfl ?_
     refine ao h (aq ce (h.ev rfl)) rfl ?_;intro f h
     refine bf h rfl rfl rfl ?_
     refine bg (bq.subL (bq.of_own s 2 rfl) 1 32 (D:=bD z.me.2) (ec _ _ _ _)) h cq rfl (by first|exact aR _|exact aM _ _) rfl ?_;intro f h
     refine bf h rfl rfl rfl ?_
     refine ao h (aE (.bool false) (dM gY (h.ev rfl) (h.ev rfl)) (congrArg Value.bool q3)) rfl ?_;intro f h
     refine ao h (aL (h.ev rfl) (h.ev rfl)) rfl ?_;intro f h
     refine cn s fun w1 s=>?_
     refine ai ?_
     refine hK4 _ _ ?_
     refine wpIn_cond_false (h.ev rfl) ?_
     refine wpIn_skip ?_
     refine hK3 _ _ ?_
     refine ak fun K5 hK5=>?_
     refine ak fun K6 hK6=>?_
     cases q4:(qb z.pr.2 m.2 z.me.2:Bool)
     ·skip
      refine ag ?_
      refine ac h (aq ce (h.ev rfl)) rfl ?_;intro f h
      refine aI (bq.subL (bq.of_own s 0 rfl) 1 32 (D:=bD (_)) (co _)) h cq rfl (by first|exact aR _|exact aM _ _) rfl ?_;intro f h
      refine ac h (aq ce (h.ev rfl)) rfl ?_;intro f h
      refine aI (bq.subL (bq.of_own s 3 rfl) 1 32 (D:=bD (_)) (co _)) h cq rfl (by first|exact aR _|exact aM _ _) rfl ?_;intro f h
      refine ac h (aq bA (h.ev rfl)) rfl ?_;intro f h
      refine ac h (aq ce (h.ev rfl)) rfl ?_;intro f h
      refine aI (bq.subL (bq.of_own s 2 rfl) 1 32 (D:=bD z.me.2) (ec _ _ _ _)) h cq rfl (by first|exact aR _|exact aM _ _) rfl ?_;intro f h
      refine aK h s nV (aT (.bool false) (ol _ _ _ _) (congrArg Value.bool q4)) rfl rfl ?_;intro f w1 v9 hT hE h s;obtain rfl:=hT
      refine ac h (aE (.bool true) (bI (h.ev rfl)) rfl) rfl ?_;intro f h
      refine ai ?_
      refine hK6 _ _ ?_
      refine wpIn_cond_true (h.ev rfl) ?_
      refine ak fun K7 hK7=>?_
      refine ag ?_
      refine ac h (aq bA (h.ev rfl)) rfl ?_;intro f h
      refine aI (bq.subL (bq.of_own s 2 rfl) 0 33 (D:=av z.me) (bZ _ _ _ _)) h aJ rfl (al _) rfl ?_;intro f h
      refine aA 1 h s aJ rfl rfl rfl (al _) (al _) (aX _) ?_;intro w1 s
      refine ai ?_
      refine hK7 _ _ ?_
      refine wpIn_ret ?_
      refine a8 ?_
      exact eP 1 rfl h s aJ rfl rfl (al _) (by show _=_;rw [Dx q4])
     ·skip
      refine ag ?_
      refine ac h (aq ce (h.ev rfl)) rfl ?_;intro f h
      refine aI (bq.subL (bq.of_own s 0 rfl) 1 32 (D:=bD (_)) (co _)) h cq rfl (by first|exact aR _|exact aM _ _) rfl ?_;intro f h
      refine ac h (aq ce (h.ev rfl)) rfl ?_;intro f h
      refine aI (bq.subL (bq.of_own s 3 rfl) 1 32 (D:=bD (_)) (co _)) h cq rfl (by first|exact aR _|exact aM _ _) rfl ?_;intro f h
      refine ac h (aq bA (h.ev rfl)) rfl ?_;intro f h
      refine ac h (aq ce (h.ev rfl)) rfl ?_;intro f h
      refine aI (bq.subL (bq.of_own s 2 rfl) 1 32 (D:=bD z.me.2) (ec _ _ _ _)) h cq rfl (by first|exact aR _|exact aM _ _) rfl ?_;intro f h
      refine aK h s nV (aT (.bool true) (ol _ _ _ _) (congrArg Value.bool q4)) rfl rfl ?_;intro f w1 v9 hT hE h s;obtain rfl:=hT
      refine ac h (aE (.bool false) (bI (h.ev rfl)) rfl) rfl ?_;intro f h
      refine ai ?_
      refine hK6 _ _ ?_
      refine wpIn_cond_false (h.ev rfl) ?_
      refine wpIn_skip ?_
      refine hK5 _ _ ?_
      refine ak fun K8 hK8=>?_
      refine ag ?_
      refine ay 0 h s aJ rfl rfl (al _) rfl ?_;intro f h
      refine aA 1 h s aJ rfl rfl rfl (al _) (al _) (aX _) ?_;intro w1 s
      refine ai ?_
      refine hK8 _ _ ?_
      refine wpIn_ret ?_
      exact eP 1 rfl h s aJ rfl rfl (al _) (by show _=_;rw [DE q0 q1 q2 q3 q4])
    ·skip
     refine bG 25 [[],[],[0,1],[0,1,2],[0,1,2,3],[0,1,2,3,4],[0,1,2,3],[0,1,2,3,6],[0,1,2,3,4,5,6,7],[0,1,2,3,4,5,6,7,8],[0,1,2,3,4,5,6,7,8,9],[0,1,2,3,4,5,6,7,8,9,10],[0,1,2,3,4,5,6,7,8,9,10,11],[0,1,2,3,4,5,6,7,8,9,10],[0,1,2,3,4,5,6,7,8,9,10,13],[0,1,2,3,4,5,6,7,8,9,10,11,12,13,14],[0,1,2,3,4,5,6,7,8,9,10,11,12,13,14,15],[0,1,2,3,4,5,6,7,8,9,10,11,12,13,14,15,16],[0,1,2,3,4,5,6,7,8,9,10,11,12,13,14,15,16,17],[0,1,2,3,4,5,6,7,8,9,10,11,12,13,14,15,16,17,18],[0,1,2,3,4,5,6,7,8,9,10,11,12,13,14,15,16,17],[0,1,2,3,4,5,6,7,8,9,10,11,12,13,14,15,16,17,20],[0,1,2,3,4,5,6,7,8,9,10,11,12,13,14,15,16,17,20,21],[0,1,2,3,4,5,6,7,8,9,10,11,12,13,14,15,16,17,18,19,20,21,22],[0,1,2,3,4,5,6,7,8,9,10,11,12,13,14,15,16,17,18,19,20,21,22,23]] h (by kernel_rfl) (by kernel_rfl) (by kernel_rfl) ?_
     refine bC 0 h s aJ rfl rfl (al _) rfl ?_;intro f h
     refine cm h fA (fun w9 hE9=>dh w9) rfl rfl ?_;intro f h
     refine ao h (aE (.bool false) (cU (i9 _ _) (by kernel_rfl) (by decide) (h.ev rfl) (h.ev rfl) (decide (z.pr=c4)) (er _ _)) (congrArg Value.bool q0)) rfl ?_;intro f h
     refine ao h (ah (h.ev rfl)) rfl ?_;intro f h
     refine bf h rfl rfl rfl ?_
     refine ao h (aq aP (h.ev rfl)) rfl ?_;intro f h
     refine bf h rfl rfl rfl ?_
     refine bz (ax (bq.of_own s 0 rfl) 0 (aV _)) h bV rfl rfl ?_;intro f h
     refine bf h rfl rfl rfl ?_
     refine ao h (aq aP (h.ev rfl)) rfl ?_;intro f h
     refine bf h rfl rfl rfl ?_
     refine bz (ax (bq.of_own s 3 rfl) 0 (aV _)) h bV rfl rfl ?_;intro f h
     refine bf h rfl rfl rfl ?_
     refine ao h (aE (.bool false) (cb (h.ev rfl) (h.ev rfl)) (congrArg Value.bool q1)) rfl ?_;intro f h
     refine ao h (aL (h.ev rfl) (h.ev rfl)) rfl ?_;intro f h
     refine ao h (ah (h.ev rfl)) rfl ?_;intro f h
     refine bf h rfl rfl rfl ?_
     refine ao h (aq ce (h.ev rfl)) rfl ?_;intro f h
     refine bf h rfl rfl rfl ?_
     refine bg (bq.subL (bq.of_own s 0 rfl) 1 32 (D:=bD (_)) (co _)) h cq rfl (by first|exact aR _|exact aM _ _) rfl ?_;intro f h
     refine bf h rfl rfl rfl ?_
     refine ao h (aq ce (h.ev rfl)) rfl ?_;intro f h
     refine bf h rfl rfl rfl ?_
     refine bg (bq.subL (bq.of_own s 3 rfl) 1 32 (D:=bD (_)) (co _)) h cq rfl (by first|exact aR _|exact aM _ _) rfl ?_;intro f h
     refine bf h rfl rfl rfl ?_
     refine ao h (aE (.bool false) (dM gY (h.ev rfl) (h.ev rfl)) (congrArg Value.bool q2)) rfl ?_;intro f h
     refine ao h (aL (h.ev rfl) (h.ev rfl)) rfl ?_;intro f h
     refine ao h (ah (h.ev rfl)) rfl ?_;intro f h
     refine bf h rfl rfl rfl ?_
     refine ao h (aq ce (h.ev rfl)) rfl ?_;intro f h
     refine bf h rfl rfl rfl ?_
     refine bg (bq.subL (bq.of_own s 0 rfl) 1 32 (D:=bD (_)) (co _)) h cq rfl (by first|exact aR _|exact aM _ _) rfl ?_;intro f h
     refine bf h rfl rfl rfl ?_
     refine ao h (aq bA (h.ev rfl)) rfl ?_;intro f h
     refine bf h rfl rfl rfl ?_
     refine ao h (aq ce (h.ev rfl)) rfl ?_;intro f h
     refine bf h rfl rfl rfl ?_
     refine bg (bq.subL (bq.of_own s 2 rfl) 1 32 (D:=bD z.me.2) (ec _ _ _ _)) h cq rfl (by first|exact aR _|exact aM _ _) rfl ?_;intro f h
     refine bf h rfl rfl rfl ?_
     refine ao h (aE (.bool true) (dM gY (h.ev rfl) (h.ev rfl)) (congrArg Value.bool q3)) rfl ?_;intro f h
     refine ao h (aL (h.ev rfl) (h.ev rfl)) rfl ?_;intro f h
     refine cn s fun w1 s=>?_
     refine ai ?_
     refine hK4 _ _ ?_
     refine wpIn_cond_true (h.ev rfl) ?_
     refine ak fun K9 hK9=>?_
     refine ag ?_
     refine ac h (aq bA (h.ev rfl)) rfl ?_;intro f h
     refine aI (bq.subL (bq.of_own s 2 rfl) 0 33 (D:=av z.me) (bZ _ _ _ _)) h aJ rfl (al _) rfl ?_;intro f h
     refine aA 1 h s aJ rfl rfl rfl (al _) (al _) (aX _) ?_;intro w1 s
     refine ai ?_
     refine hK9 _ _ ?_
     refine wpIn_ret ?_
     refine a8 ?_
     exact eP 1 rfl h s aJ rfl rfl (al _) (by show _=_;rw [Dj q3])
   ·skip
    refine bG 25 [[],[],[0,1],[0,1,2],[0,1,2,3],[0,1,2,3,4],[0,1,2,3],[0,1,2,3,6],[0,1,2,3,4,5,6,7],[0,1,2,3,4,5,6,7,8],[0,1,2,3,4,5,6,7,8,9],[0,1,2,3,4,5,6,7,8,9,10],[0,1,2,3,4,5,6,7,8,9,10,11],[0,1,2,3,4,5,6,7,8,9,10],[0,1,2,3,4,5,6,7,8,9,10,13],[0,1,2,3,4,5,6,7,8,9,10,11,12,13,14],[0,1,2,3,4,5,6,7,8,9,10,11,12,13,14,15],[0,1,2,3,4,5,6,7,8,9,10,11,12,13,14,15,16],[0,1,2,3,4,5,6,7,8,9,10,11,12,13,14,15,16,17],[0,1,2,3,4,5,6,7,8,9,10,11,12,13,14,15,16,17,18],[0,1,2,3,4,5,6,7,8,9,10,11,12,13,14,15,16,17],[0,1,2,3,4,5,6,7,8,9,10,11,12,13,14,15,16,17,20],[0,1,2,3,4,5,6,7,8,9,10,11,12,13,14,15,16,17,20,21],[0,1,2,3,4,5,6,7,8,9,10,11,12,13,14,15,16,17,18,19,20,21,22],[0,1,2,3,4,5,6,7,8,9,10,11,12,13,14,15,16,17,18,19,20,21,22,23]] h (by kernel_rfl) (by kernel_rfl) (by kernel_rfl) ?_
    refine bC 0 h s aJ rfl rfl (al _) rfl ?_;intro f h
    refine cm h fA (fun w9 hE9=>dh w9) rfl rfl ?_;intro f h
    refine ao h (aE (.bool false) (cU (i9 _ _) (by kernel_rfl) (by decide) (h.ev rfl) (h.ev rfl) (decide (z.pr=c4)) (er _ _)) (congrArg Value.bool q0)) rfl ?_;intro f h
    refine ao h (ah (h.ev rfl)) rfl ?_;intro f h
    refine bf h rfl rfl rfl ?_
    refine ao h (aq aP (h.ev rfl)) rfl ?_;intro f h
    refine bf h rfl rfl rfl ?_
    refine bz (ax (bq.of_own s 0 rfl) 0 (aV _)) h bV rfl rfl ?_;intro f h
    refine bf h rfl rfl rfl ?_
    refine ao h (aq aP (h.ev rfl)) rfl ?_;intro f h
    refine bf h rfl rfl rfl ?_
    refine bz (ax (bq.of_own s 3 rfl) 0 (aV _)) h bV rfl rfl ?_;intro f h
    refine bf h rfl rfl rfl ?_
    refine ao h (aE (.bool false) (cb (h.ev rfl) (h.ev rfl)) (congrArg Value.bool q1)) rfl ?_;intro f h
    refine ao h (aL (h.ev rfl) (h.ev rfl)) rfl ?_;intro f h
    refine ao h (ah (h.ev rfl)) rfl ?_;intro f h
    refine bf h rfl rfl rfl ?_
    refine ao h (aq ce (h.ev rfl)) rfl ?_;intro f h
    refine bf h rfl rfl rfl ?_
    refine bg (bq.subL (bq.of_own s 0 rfl) 1 32 (D:=bD (_)) (co _)) h cq rfl (by first|exact aR _|exact aM _ _) rfl ?_;intro f h
    refine bf h rfl rfl rfl ?_
    refine ao h (aq ce (h.ev rfl)) rfl ?_;intro f h
    refine bf h rfl rfl rfl ?_
    refine bg (bq.subL (bq.of_own s 3 rfl) 1 32 (D:=bD (_)) (co _)) h cq rfl (by first|exact aR _|exact aM _ _) rfl ?_;intro f h
    refine bf h rfl rfl rfl ?_
    refine ao h (aE (.bool true) (dM gY (h.ev rfl) (h.ev rfl)) (congrArg Value.bool q2)) rfl ?_;intro f h
    refine ao h (aL (h.ev rfl) (h.ev rfl)) rfl ?_;intro f h
    refine ao h (ah (h.ev rfl)) rfl ?_;intro f h
    refine ba (b:=false) h rfl rfl rfl rfl ?_;intro f h
    refine ba (b:=false) h rfl rfl rfl rfl ?_;intro f h
    refine ba (b:=false) h rfl rfl rfl rfl ?_;intro f h
    refine ba (b:=false) h rfl rfl rfl rfl ?_;intro f h
    refine ba (b:=false) h rfl rfl rfl rfl ?_;intro f h
    refine ba (b:=false) h rfl rfl rfl rfl ?_;intro f h
    refine ao h (aO (h.ev rfl) (h.ev rfl)) rfl ?_;intro f h
    refine cn s fun w1 s=>?_
    refine ai ?_
    refine hK4 _ _ ?_
    refine wpIn_cond_true (h.ev rfl) ?_
    refine ak fun K10 hK10=>?_
    refine ag ?_
    refine ac h (aq bA (h.ev rfl)) rfl ?_;intro f h
    refine aI (bq.subL (bq.of_own s 2 rfl) 0 33 (D:=av z.me) (bZ _ _ _ _)) h aJ rfl (al _) rfl ?_;intro f h
    refine aA 1 h s aJ rfl rfl rfl (al _) (al _) (aX _) ?_;intro w1 s
    refine ai ?_
    refine hK10 _ _ ?_
    refine wpIn_ret ?_
    refine a8 ?_
    exact eP 1 rfl h s aJ rfl rfl (al _) (by show _=_;rw [Dr q2])
  ·skip
   refine bG 25 [[],[],[0,1],[0,1,2],[0,1,2,3],[0,1,2,3,4],[0,1,2,3],[0,1,2,3,6],[0,1,2,3,4,5,6,7],[0,1,2,3,4,5,6,7,8],[0,1,2,3,4,5,6,7,8,9],[0,1,2,3,4,5,6,7,8,9,10],[0,1,2,3,4,5,6,7,8,9,10,11],[0,1,2,3,4,5,6,7,8,9,10],[0,1,2,3,4,5,6,7,8,9,10,13],[0,1,2,3,4,5,6,7,8,9,10,11,12,13,14],[0,1,2,3,4,5,6,7,8,9,10,11,12,13,14,15],[0,1,2,3,4,5,6,7,8,9,10,11,12,13,14,15,16],[0,1,2,3,4,5,6,7,8,9,10,11,12,13,14,15,16,17],[0,1,2,3,4,5,6,7,8,9,10,11,12,13,14,15,16,17,18],[0,1,2,3,4,5,6,7,8,9,10,11,12,13,14,15,16,17],[0,1,2,3,4,5,6,7,8,9,10,11,12,13,14,15,16,17,20],[0,1,2,3,4,5,6,7,8,9,10,11,12,13,14,15,16,17,20,21],[0,1,2,3,4,5,6,7,8,9,10,11,12,13,14,15,16,17,18,19,20,21,22],[0,1,2,3,4,5,6,7,8,9,10,11,12,13,14,15,16,17,18,19,20,21,22,23]] h (by kernel_rfl) (by kernel_rfl) (by kernel_rfl) ?_
   refine bC 0 h s aJ rfl rfl (al _) rfl ?_;intro f h
   refine cm h fA (fun w9 hE9=>dh w9) rfl rfl ?_;intro f h
   refine ao h (aE (.bool false) (cU (i9 _ _) (by kernel_rfl) (by decide) (h.ev rfl) (h.ev rfl) (decide (z.pr=c4)) (er _ _)) (congrArg Value.bool q0)) rfl ?_;intro f h
   refine ao h (ah (h.ev rfl)) rfl ?_;intro f h
   refine bf h rfl rfl rfl ?_
   refine ao h (aq aP (h.ev rfl)) rfl ?_;intro f h
   refine bf h rfl rfl rfl ?_
   refine bz (ax (bq.of_own s 0 rfl) 0 (aV _)) h bV rfl rfl ?_;intro f h
   refine bf h rfl rfl rfl ?_
   refine ao h (aq aP (h.ev rfl)) rfl ?_;intro f h
   refine bf h rfl rfl rfl ?_
   refine bz (ax (bq.of_own s 3 rfl) 0 (aV _)) h bV rfl rfl ?_;intro f h
   refine bf h rfl rfl rfl ?_
   refine ao h (aE (.bool true) (cb (h.ev rfl) (h.ev rfl)) (congrArg Value.bool q1)) rfl ?_;intro f h
   refine ao h (aL (h.ev rfl) (h.ev rfl)) rfl ?_;intro f h
   refine ao h (ah (h.ev rfl)) rfl ?_;intro f h
   refine ba (b:=false) h rfl rfl rfl rfl ?_;intro f h
   refine ba (b:=false) h rfl rfl rfl rfl ?_;intro f h
   refine ba (b:=false) h rfl rfl rfl rfl ?_;intro f h
   refine ba (b:=false) h rfl rfl rfl rfl ?_;intro f h
   refine ba (b:=false) h rfl rfl rfl rfl ?_;intro f h
   refine ao h (aO (h.ev rfl) (h.ev rfl)) rfl ?_;intro f h
   refine ao h (ah (h.ev rfl)) rfl ?_;intro f h
   refine ba (b:=false) h rfl rfl rfl rfl ?_;intro f h
   refine ba (b:=false) h rfl rfl rfl rfl ?_;intro f h
   refine ba (b:=false) h rfl rfl rfl rfl ?_;intro f h
   refine ba (b:=false) h rfl rfl rfl rfl ?_;intro f h
   refine ba (b:=false) h rfl rfl rfl rfl ?_;intro f h
   refine ba (b:=false) h rfl rfl rfl rfl ?_;intro f h
   refine ao h (aO (h.ev rfl) (h.ev rfl)) rfl ?_;intro f h
   refine cn s fun w1 s=>?_
   refine ai ?_
   refine hK4 _ _ ?_
   refine wpIn_cond_true (h.ev rfl) ?_
   refine ak fun K11 hK11=>?_
   refine ag ?_
   refine ac h (aq bA (h.ev rfl)) rfl ?_;intro f h
   refine aI (bq.subL (bq.of_own s 2 rfl) 0 33 (D:=av z.me) (bZ _ _ _ _)) h aJ rfl (al _) rfl ?_;intro f h
   refine aA 1 h s aJ rfl rfl rfl (al _) (al _) (aX _) ?_;intro w1 s
   refine ai ?_
   refine hK11 _ _ ?_
   refine wpIn_ret ?_
   refine a8 ?_
   exact eP 1 rfl h s aJ rfl rfl (al _) (by show _=_;rw [C4 q1])
 ·skip
  refine bG 25 [[],[],[0,1],[0,1,2],[0,1,2,3],[0,1,2,3,4],[0,1,2,3],[0,1,2,3,6],[0,1,2,3,4,5,6,7],[0,1,2,3,4,5,6,7,8],[0,1,2,3,4,5,6,7,8,9],[0,1,2,3,4,5,6,7,8,9,10],[0,1,2,3,4,5,6,7,8,9,10,11],[0,1,2,3,4,5,6,7,8,9,10],[0,1,2,3,4,5,6,7,8,9,10,13],[0,1,2,3,4,5,6,7,8,9,10,11,12,13,14],[0,1,2,3,4,5,6,7,8,9,10,11,12,13,14,15],[0,1,2,3,4,5,6,7,8,9,10,11,12,13,14,15,16],[0,1,2,3,4,5,6,7,8,9,10,11,12,13,14,15,16,17],[0,1,2,3,4,5,6,7,8,9,10,11,12,13,14,15,16,17,18],[0,1,2,3,4,5,6,7,8,9,10,11,12,13,14,15,16,17],[0,1,2,3,4,5,6,7,8,9,10,11,12,13,14,15,16,17,20],[0,1,2,3,4,5,6,7,8,9,10,11,12,13,14,15,16,17,20,21],[0,1,2,3,4,5,6,7,8,9,10,11,12,13,14,15,16,17,18,19,20,21,22],[0,1,2,3,4,5,6,7,8,9,10,11,12,13,14,15,16,17,18,19,20,21,22,23]] h (by kernel_rfl) (by kernel_rfl) (by kernel_rfl) ?_
  refine bC 0 h s aJ rfl rfl (al _) rfl ?_;intro f h
  refine cm h fA (fun w9 hE9=>dh w9) rfl rfl ?_;intro f h
  refine ao h (aE (.bool true) (cU (i9 _ _) (by kernel_rfl) (by decide) (h.ev rfl) (h.ev rfl) (decide (z.pr=c4)) (er _ _)) (congrArg Value.bool q0)) rfl ?_;intro f h
  refine ao h (ah (h.ev rfl)) rfl ?_;intro f h
  refine ba (b:=false) h rfl rfl rfl rfl ?_;intro f h
  refine ba (b:=false) h rfl rfl rfl rfl ?_;intro f h
  refine ba (b:=false) h rfl rfl rfl rfl ?_;intro f h
  refine ba (b:=false) h rfl rfl rfl rfl ?_;intro f h
  refine ba (b:=false) h rfl rfl rfl rfl ?_;intro f h
  refine ao h (aO (h.ev rfl) (h.ev rfl)) rfl ?_;intro f h
  refine ao h (ah (h.ev rfl)) rfl ?_;intro f h
  refine ba (b:=false) h rfl rfl rfl rfl ?_;intro f h
  refine ba (b:=false) h rfl rfl rfl rfl ?_;intro f h
  refine ba (b:=false) h rfl rfl rfl rfl ?_;intro f h
  refine ba (b:=false) h rfl rfl rfl rfl ?_;intro f h
  refine ba (b:=false) h rfl rfl rfl rfl ?_;intro f h
  refine ao h (aO (h.ev rfl) (h.ev rfl)) rfl ?_;intro f h
  refine ao h (ah (h.ev rfl)) rfl ?_;intro f h
  refine ba (b:=false) h rfl rfl rfl rfl ?_;intro f h
  refine ba (b:=false) h rfl rfl rfl rfl ?_;intro f h
  refine ba (b:=false) h rfl rfl rfl rfl ?_;intro f h
  refine ba (b:=false) h rfl rfl rfl rfl ?_;intro f h
  refine ba (b:=false) h rfl rfl rfl rfl ?_;intro f h
  refine ba (b:=false) h rfl rfl rfl rfl ?_;intro f h
  refine ao h (aO (h.ev rfl) (h.ev rfl)) rfl ?_;intro f h
  refine cn s fun w1 s=>?_
  refine ai ?_
  refine hK4 _ _ ?_
  refine wpIn_cond_true (h.ev rfl) ?_
  refine ak fun K12 hK12=>?_
  refine ag ?_
  refine ac h (aq bA (h.ev rfl)) rfl ?_;intro f h
  refine aI (bq.subL (bq.of_own s 2 rfl) 0 33 (D:=av z.me) (bZ _ _ _ _)) h aJ rfl (al _) rfl ?_;intro f h
  refine aA 1 h s aJ rfl rfl rfl (al _) (al _) (aX _) ?_;intro w1 s
  refine ai ?_
  refine hK12 _ _ ?_
  refine wpIn_ret ?_
  refine a8 ?_
  exact eP 1 rfl h s aJ rfl rfl (al _) (by show _=_;rw [Dk q0])
theorem kr (l:List Mb) (vh:Value) (m:Mb) (B9:List Own) (w0 w:World) (s:St w0 (.sl vh 28 33 (l).length (am (l))::B9) w):Calls Tryz.prog 124 [vh,.agg (av m)].toArray w (fun e w9=>∃ v9,e=.returned v9∧St w0 (.sl v9 28 33 (kj l m).length (am (kj l m))::B9) w9):=by
 refine dT Tryz.func124 rfl Tryz.ntmps124 rfl [(0,vh),(1,.agg (av m))] (by simp) fun f h=>?_
 refine ak fun K1 hK1=>?_
 refine ag ?_
 refine bR ((av m)) h s rfl rfl rfl ?_;intro f w1 b3 h s
 refine ac h (aj (h.ev rfl)) rfl ?_;intro f h
 refine ai ?_
 refine hK1 _ _ ?_
 refine ak fun K2 hK2=>?_
 refine ak fun K3 hK3=>?_
 refine ag ?_
 refine ac h (ah (h.ev rfl)) rfl ?_;intro f h
 refine da 1 h s Tryz.underlying36 rfl rfl rfl ?_;intro f h
 refine ac h (cb (h.ev rfl) (h.ev rfl)) rfl ?_;intro f h
 refine ai ?_
 refine hK3 _ _ ?_
 refine bL h rfl (fun hc=>?_) (fun hc=>?_)
 ·have h0:l.length=0:=by have:=of_decide_eq_true hc;omega
  refine ak fun K4 hK4=>?_
  refine ag ?_
  refine ay 0 h s aJ rfl rfl (al _) rfl ?_;intro f h
  refine cW (vs:=[.agg (av m)]) [.tmp 8] h s Tryz.underlying36 dY rfl rfl (jb _) rfl rfl rfl ?_;intro f w1 v9 h s
  replace s:=s.resl (m:=[m].length) (ys:=am [m]) 0 rfl rfl (by rw [eY,dU])
  refine ac h (aj (h.ev rfl)) rfl ?_;intro f h
  refine ai ?_
  refine hK4 _ _ ?_
  refine wpIn_ret ?_
  refine a8 ?_
  exact gb rfl h rfl (⟨_,rfl,nk (rf h0).symm (s.pick _ (List.Sublist.cons_cons _ (List.Sublist.cons _ (List.Sublist.cons _ (List.Sublist.refl _)))))⟩)
 ·have h0:¬ l.length=0:=by have:=of_decide_eq_false hc;omega
  refine wpIn_skip ?_
  refine hK2 _ _ ?_
  refine ak fun K5 hK5=>?_
  refine ag ?_
  refine ac h (ah (h.ev rfl)) rfl ?_;intro f h
  refine ac h (aj (h.ev rfl)) rfl ?_;intro f h
  refine ai ?_
  refine hK5 _ _ ?_
  refine wpIn_ret ?_
  exact gb rfl h rfl (⟨_,rfl,nk (pv h0).symm (s.pick _ (List.Sublist.cons _ (List.Sublist.cons_cons _ (List.Sublist.refl _))))⟩)
theorem tk (nos:List Int) (vn:Value) (no:Int) (w:World) (hN:bO w vn 1 nos.length (nos.map (Value.int .i64))) (hnn:nos.length≤1000):Calls Tryz.prog 144 [vn,.int .i64 no].toArray w (cO w (fun v _=>∃ r:Int,v=.int .i64 r∧((r = -1∧∀ k,k<nos.length→nos.getD k 0≠no)∨∃ k:Nat,k<nos.length∧r=(k:Int)∧nos.getD k 0=no))):=by
 refine bh Tryz.func144 rfl Tryz.ntmps144 rfl [(0,vn),(1,.int .i64 no)] (by simp) fun f h=>?_
 have s:=St.start w
 refine ak fun K1 hK1=>?_
 refine ag ?_
 refine ac h (aj (h.ev rfl)) rfl ?_;intro f h
 refine ai ?_
 refine hK1 _ _ ?_
 refine ak fun K2 hK2=>?_
 refine ak fun K3 hK3=>?_
 refine ag ?_
 refine ac h (ah (h.ev rfl)) rfl ?_;intro f h
 refine ac h (bK (hN.keep s.ext) Tryz.underlying78 (h.ev rfl)) rfl ?_;intro f h
 refine ac h (ah (h.ev rfl)) rfl ?_;intro f h
 refine ai ?_
 refine hK3 _ _ ?_
 refine wpIn_block ?_
 refine wpIn_loop_ghost (fun nn aa ww=>∃ k:Nat,Sl 19 aa [(0,vn),(1,.int .i64 no),(6,vn),(7,.int .i64 (nos.length:Int)),(8,.int .i64 (k:Int))]∧St w [] ww∧nn=nos.length - k∧k≤nos.length∧∀ j,j<k→decide (no=nos.getD j 0)=false) (nos.length - (0)) ⟨0,h.only ⟨rfl,rfl,rfl,rfl,aQ rfl (by omega),trivial⟩,s.as trivial,rfl,Nat.zero_le _,fun j hj=>absurd hj (Nat.not_lt_zero _)⟩ ?_
 rintro _ f w1 ⟨k,h,s,hnn,hp0,hp1⟩
 refine ak fun K4 hK4=>?_
 refine ag ?_
 refine ac h (cc (h.ev rfl) (h.ev rfl)) rfl ?_;intro f h
 refine ai ?_
 refine hK4 _ _ ?_
 refine ak fun K5 hK5=>?_
 refine bL h rfl (fun hc=>?_) (fun hc=>?_)
 ·replace hc:=of_decide_eq_true hc
  refine wpIn_skip ?_
  refine hK5 _ _ ?_
  refine ak fun K6 hK6=>?_
  refine wpIn_block ?_
  refine ak fun K7 hK7=>?_
  refine ag ?_
  refine ac h (ah (h.ev rfl)) rfl ?_;intro f h
  refine ac h (aj (h.ev rfl)) rfl ?_;intro f h
  refine ai ?_
  refine hK7 _ _ ?_
  refine ak fun K8 hK8=>?_
  refine ag ?_
  have hkl:k<nos.length:=by omega
  refine ac h (ah (h.ev rfl)) rfl ?_;intro f h
  refine ac h (ah (h.ev rfl)) rfl ?_;intro f h
  refine ac h (ah (h.ev rfl)) rfl ?_;intro f h
  refine ac h (bU (hN.keep s.ext) (k) Tryz.underlying78 Dq (h.ev rfl) (h.ev rfl) (by omega) (by omega)) rfl ?_;intro f h
  refine aC ((hN.keep s.ext).el1 (k) (V:=.int .i64 (nos.getD k 0)) (Cc nos k hkl)) h bV rfl rfl ?_;intro f h
  refine ac h (cb (h.ev rfl) (h.ev rfl)) rfl ?_;intro f h
  refine ai ?_
  refine hK8 _ _ ?_
  refine bL h rfl (fun hc=>?_) (fun hc=>?_)
  ·refine ak fun K9 hK9=>?_
   refine ag ?_
   refine ac h (ah (h.ev rfl)) rfl ?_;intro f h
   refine ac h (aj (h.ev rfl)) rfl ?_;intro f h
   refine ai ?_
   refine hK9 _ _ ?_
   refine wpIn_ret ?_
   refine bT ?_
   refine a8 ?_
   refine a8 ?_
   refine bT ?_
   refine a8 ?_
   exact bu rfl h s rfl (⟨_,rfl,.inr ⟨k,hkl,rfl,(of_decide_eq_true hc).symm⟩⟩)
  ·refine wpIn_skip ?_
   refine bH ?_
   refine hK6 _ _ ?_
   refine ag ?_
   refine ac h (cp (h.ev rfl) (h.ev rfl) (by omega)) rfl ?_;intro f h
   refine ac h (ah (h.ev rfl)) rfl ?_;intro f h
   refine ai ?_
   refine ca ?_
   exact ⟨_,by omega,⟨k+1,h.only ⟨rfl,rfl,rfl,rfl,aQ rfl (by omega),trivial⟩,St.as s trivial,rfl,by omega,d1 (q:=fun j=>decide (no=nos.getD j 0)) hp1 hc⟩⟩
 ·replace hc:=of_decide_eq_false hc
  refine wpIn_exit ?_
  refine bN ?_
  refine bN ?_
  refine cG ?_
  refine hK2 _ _ ?_
  refine ak fun K10 hK10=>?_
  refine ag ?_
  refine ac h (aj (h.ev rfl)) rfl ?_;intro f h
  refine ai ?_
  refine hK10 _ _ ?_
  refine wpIn_ret ?_
  exact bu rfl h s rfl (⟨_,rfl,.inl ⟨rfl,fun i hi e9=>of_decide_eq_false (hp1 i (by omega)) e9.symm⟩⟩)
theorem sO (nos:List Int) (vn:Value) (no:Int) (w:World) (hN:bO w vn 1 nos.length (nos.map (Value.int .i64))) (hnn:nos.length≤1000):Calls Tryz.prog 128 [vn,.int .i64 no].toArray w (cO w (is (.bool (nos.any fun k=>decide (k=no))))):=by
 refine bh Tryz.func128 rfl Tryz.ntmps128 rfl [(0,vn),(1,.int .i64 no)] (by simp) fun f h=>?_
 have s:=St.start w
 refine ak fun K1 hK1=>?_
 refine ag ?_
 refine ac h (aj (h.ev rfl)) rfl ?_;intro f h
 refine ai ?_
 refine hK1 _ _ ?_
 refine ak fun K2 hK2=>?_
 refine ag ?_
 refine ac h (ah (h.ev rfl)) rfl ?_;intro f h
 refine ac h (ah (h.ev rfl)) rfl ?_;intro f h
 refine aK h s zV (tk nos vn no _ (hN.keep s.ext) hnn) rfl rfl ?_;rintro f w1 v9 ⟨r9,rfl,hr⟩ hE h s
 refine ac h (aE (.bool (nos.any fun k=>decide (k=no))) (d7 (h.ev rfl) (h.ev rfl)) (congrArg Value.bool (xh hr))) rfl ?_;intro f h
 refine ac h (aj (h.ev rfl)) rfl ?_;intro f h
 refine ai ?_
 refine hK2 _ _ ?_
 refine wpIn_ret ?_
 exact bu rfl h s rfl (rfl)
theorem g7 (x:Mb) (nos:List Int) (vn:Value) (bx:Nat) (w:World) (hb:gy w bx #[vn]) (hN:bO w vn 1 nos.length (nos.map (Value.int .i64))) (hnn:nos.length≤1000):Calls Tryz.prog 127 [.agg (av x),.pointer (some ⟨bx,0,none⟩)].toArray w (cO w (is (.bool (dB nos x)))):=by
 refine bh Tryz.func127 rfl Tryz.ntmps127 rfl [(0,.agg (av x)),(1,.pointer (some ⟨bx,0,none⟩))] (by simp) fun f h=>?_
 have s:=St.start w
 refine ak fun K1 hK1=>?_
 refine ag ?_
 refine bR ((av x)) h s rfl rfl rfl ?_;intro f w1 b2 h s
 refine ac h (aj (h.ev rfl)) rfl ?_;intro f h
 refine ai ?_
 refine hK1 _ _ ?_
 refine ak fun K2 hK2=>?_
 refine ag ?_
 refine aC (V:=vn) (ax (bq.of_tab (hb.keep s.ext)) 0 (rfl)) h r5 rfl rfl ?_;intro f h
 refine ac h (aq aP (h.ev rfl)) rfl ?_;intro f h
 refine aC (ax (bq.of_own s 0 rfl) 0 (aV _)) h bV rfl rfl ?_;intro f h
 refine aK h s A1 (sO nos vn x.1 _ (hN.keep s.ext) hnn) rfl rfl ?_;intro f w1 v9 hT hE h s;obtain rfl:=hT
 refine ac h (aj (h.ev rfl)) rfl ?_;intro f h
 refine ai ?_
 refine hK2 _ _ ?_
 refine wpIn_ret ?_
 exact bu rfl h s rfl (rfl)
theorem pV (l:List Mb) (vh:Value) (g9:Nat) (caps:List Value) (p:Mb→Bool) (w:World) (hR:bO w vh 33 l.length (am l)) (hln:l.length≤1000) (hg:Fnc Tryz.prog g9) (hp:∀ w9,Ext w w9→∀ x∈l,Calls Tryz.prog g9 (.agg (av x)::caps).toArray w9 (cO w9 (is (.bool (p x))))):Calls Tryz.prog 112 [vh,.func (.func g9) #[] caps.toArray].toArray w (cO w (fun v _=>∃ r:Int,v=.int .i64 r∧((r = -1∧∀ x∈l,p x=false)∨∃ k:Nat,k<l.length∧r=(k:Int)∧p (l.getD k ap)=true∧∀ i,i<k→p (l.getD i ap)=false))):=by
 refine bh Tryz.func112 rfl Tryz.ntmps112 rfl [(0,vh),(1,.func (.func g9) #[] caps.toArray)] (by simp) fun f h=>?_
 have s:=St.start w
 refine ak fun K1 hK1=>?_
 refine ag ?_
 refine ac h (aj (h.ev rfl)) rfl ?_;intro f h
 refine ai ?_
 refine hK1 _ _ ?_
 refine ak fun K2 hK2=>?_
 refine ak fun K3 hK3=>?_
 refine ag ?_
 refine ac h (ah (h.ev rfl)) rfl ?_;intro f h
 refine ac h (bK (hR.keep s.ext) Tryz.underlying36 (h.ev rfl)) rfl ?_;intro f h
 refine ac h (ah (h.ev rfl)) rfl ?_;intro f h
 refine ai ?_
 refine hK3 _ _ ?_
 refine wpIn_block ?_
 refine wpIn_loop_ghost (fun nn aa ww=>∃ k:Nat,Sl 19 aa [(0,vh),(1,.func (.func g9) #[] caps.toArray),(6,vh),(7,.int .i64 (l.length:Int)),(8,.int .i64 (k:Int))]∧St w [] ww∧nn=l.length - k∧k≤l.length∧∀ i (hi:i<l.length),i<k→p l[i]=false) (l.length - (0)) ⟨0,h.only ⟨rfl,rfl,rfl,rfl,aQ rfl (by omega),trivial⟩,s.as trivial,rfl,Nat.zero_le _,fun i hi h9=>absurd h9 (Nat.not_lt_zero _)⟩ ?_
 rintro _ f w1 ⟨k,h,s,hnn,hp0,hp1⟩
 refine ak fun K4 hK4=>?_
 refine ag ?_
 refine ac h (cc (h.ev rfl) (h.ev rfl)) rfl ?_;intro f h
 refine ai ?_
 refine hK4 _ _ ?_
 refine ak fun K5 hK5=>?_
 refine bL h rfl (fun hc=>?_) (fun hc=>?_)
 ·replace hc:=of_decide_eq_true hc
  refine wpIn_skip ?_
  refine hK5 _ _ ?_
  refine ak fun K6 hK6=>?_
  refine wpIn_block ?_
  refine ak fun K7 hK7=>?_
  refine ag ?_
  refine ac h (ah (h.ev rfl)) rfl ?_;intro f h
  refine ac h (aj (h.ev rfl)) rfl ?_;intro f h
  refine ai ?_
  refine hK7 _ _ ?_
  refine ak fun K8 hK8=>?_
  refine ag ?_
  have hkl:k<l.length:=by omega
  refine ac h (ah (h.ev rfl)) rfl ?_;intro f h
  refine ac h (ah (h.ev rfl)) rfl ?_;intro f h
  refine ac h (ah (h.ev rfl)) rfl ?_;intro f h
  refine ac h (bU (hR.keep s.ext) (k) Tryz.underlying36 cA (h.ev rfl) (h.ev rfl) (by omega) (by omega)) rfl ?_;intro f h
  refine aI ((hR.keep s.ext).el (k) (by omega) (by decide) (D:=av l[k]) (rO l k hkl)) h aJ rfl (al _) rfl ?_;intro f h
  refine fk [.agg (av l[k])] (caps:=caps) h s hg rfl (hp _ s.ext _ (List.getElem_mem hkl)) rfl rfl ?_;intro f w1 v9 hT hE h s;obtain rfl:=hT
  refine ai ?_
  refine hK8 _ _ ?_
  refine bL h rfl (fun hc=>?_) (fun hc=>?_)
  ·refine ak fun K9 hK9=>?_
   refine ag ?_
   refine ac h (ah (h.ev rfl)) rfl ?_;intro f h
   refine ac h (aj (h.ev rfl)) rfl ?_;intro f h
   refine ai ?_
   refine hK9 _ _ ?_
   refine wpIn_ret ?_
   refine bT ?_
   refine a8 ?_
   refine a8 ?_
   refine bT ?_
   refine a8 ?_
   exact bu rfl h s rfl (⟨_,rfl,.inr ⟨k,hkl,rfl,by rw [← ms hkl];exact hc,fun i hi=>by rw [← ms (show i<l.length by omega)];exact hp1 i (by omega) hi⟩⟩)
  ·refine wpIn_skip ?_
   refine bH ?_
   refine hK6 _ _ ?_
   refine ag ?_
   refine ac h (cp (h.ev rfl) (h.ev rfl) (by omega)) rfl ?_;intro f h
   refine ac h (ah (h.ev rfl)) rfl ?_;intro f h
   refine ai ?_
   refine ca ?_
   exact ⟨_,by omega,⟨k+1,h.only ⟨rfl,rfl,rfl,rfl,aQ rfl (by omega),trivial⟩,St.as s trivial,rfl,by omega,pX (fun y=>p y=false) hp1 hkl hc⟩⟩
 ·replace hc:=of_decide_eq_false hc
  refine wpIn_exit ?_
  refine bN ?_
  refine bN ?_
  refine cG ?_
  refine hK2 _ _ ?_
  refine ak fun K10 hK10=>?_
  refine ag ?_
  refine ac h (aj (h.ev rfl)) rfl ?_;intro f h
  refine ai ?_
  refine hK10 _ _ ?_
  refine wpIn_ret ?_
  exact bu rfl h s rfl (⟨_,rfl,.inl ⟨rfl,fun x hx=>(by obtain ⟨i,hi,e⟩:=List.getElem_of_mem hx;rw [← e];exact hp1 i hi (by omega))⟩⟩)
set_option maxHeartbeats 1000000 in
theorem ki (l:List Mb) (hln:l.length≤1000) (vh:Value) (g9:Nat) (caps:List Value) (p:Mb→Bool) (B9:List Own) (w0 w:World) (s:St w0 (.sl vh 28 33 (l).length (am (l))::B9) w) (hg:Fnc Tryz.prog g9) (hp:∀ (A9:List Own) (w9:World),St w0 (A9++B9) w9→∀ x∈l,Calls Tryz.prog g9 (.agg (av x)::caps).toArray w9 (cO w9 (is (.bool (p x))))):Calls Tryz.prog 129 [vh,.func (.func g9) #[] caps.toArray].toArray w (fun e w9=>∃ v9,e=.returned v9∧St w0 (.sl v9 28 33 ((l.filter fun x => !p x)).length (am ((l.filter fun x => !p x)))::B9) w9):=by
 refine dT Tryz.func129 rfl Tryz.ntmps129 rfl [(0,vh),(1,.func (.func g9) #[] caps.toArray)] (by simp) fun f h=>?_
 refine ak fun K1 hK1=>?_
 refine ag ?_
 refine ac h (aj (h.ev rfl)) rfl ?_;intro f h
 refine ai ?_
 refine hK1 _ _ ?_
 refine ak fun K2 hK2=>?_
 refine ag ?_
 refine ac h (ah (h.ev rfl)) rfl ?_;intro f h
 refine ac h (ah (h.ev rfl)) rfl ?_;intro f h
 refine aK h s t2 (pV l vh g9 caps p _ (bO.of_own (s.getSl 0 rfl)) hln hg (fun w9 h9 x hx=>hp [_] w9 (s.more h9) x hx)) rfl rfl ?_;rintro f w1 v9 ⟨r9,rfl,hr⟩ hE h s
 refine ac h (aj (h.ev rfl)) rfl ?_;intro f h
 refine ai ?_
 refine hK2 _ _ ?_
 refine ak fun K3 hK3=>?_
 refine ak fun K4 hK4=>?_
 refine ag ?_
 refine ac h (ah (h.ev rfl)) rfl ?_;intro f h
 refine ac h (cb (h.ev rfl) (h.ev rfl)) rfl ?_;intro f h
 refine ai ?_
 refine hK4 _ _ ?_
 refine bL h rfl (fun hc=>?_) (fun hc=>?_)
 ·have hc:=of_decide_eq_true hc
  have hn:=(hr.resolve_right (fun ⟨k9,_,h9,_⟩=>by omega)).2
  refine ak fun K5 hK5=>?_
  refine ag ?_
  refine ac h (ah (h.ev rfl)) rfl ?_;intro f h
  refine ac h (aj (h.ev rfl)) rfl ?_;intro f h
  refine ai ?_
  refine hK5 _ _ ?_
  refine wpIn_ret ?_
  refine a8 ?_
  exact gb rfl h rfl (⟨_,rfl,nk (sr hn).symm s⟩)
 ·obtain ⟨k9,hk9,rfl,hpk,hpf⟩:=hr.resolve_left (fun h9=>of_decide_eq_false hc h9.1)
  have hqk:(!p (l.getD k9 ap))=false:=by rw [hpk];rfl
  obtain ⟨hst1,hst2⟩:=sB (q:=(fun x => !p x)) hk9 (fun i hi=>by rw [hpf i hi];rfl) hqk
  refine wpIn_skip ?_
  refine hK3 _ _ ?_
  refine ak fun K6 hK6=>?_
  refine ak fun K7 hK7=>?_
  refine ag ?_
  refine ac h (ah (h.ev rfl)) rfl ?_;intro f h
  refine ac h (cp (h.ev rfl) (h.ev rfl) (by omega)) rfl ?_;intro f h
  refine ac h (aj (h.ev rfl)) rfl ?_;intro f h
  refine ai ?_
  refine hK7 _ _ ?_
  refine wpIn_block ?_
  refine wpIn_loop_ghost (fun nn aa ww=>∃ j:Nat,Sl 42 aa [(0,vh),(1,.func (.func g9) #[] caps.toArray),(8,vh),(5,.int .i64 (((ja (fun x => !p x) l j):Nat):Int)),(6,.int .i64 (j:Int))]∧St w0 (.sl vh 28 33 (l).length (am (oa (fun x => !p x) l j))::B9) ww∧nn=l.length - j∧k9+1≤j∧j≤l.length) (l.length - (k9+1)) ⟨k9+1,h.only ⟨rfl,rfl,rfl,aQ rfl (by omega),aQ rfl (by omega),trivial⟩,s.as ⟨j9 rfl (by rw [hst1]),eH _⟩,rfl,by omega,by omega⟩ ?_
  rintro _ f w1 ⟨j,h,s,hnn,hp0,hp1⟩
  refine ak fun K8 hK8=>?_
  refine ak fun K9 hK9=>?_
  refine ag ?_
  refine ac h (ah (h.ev rfl)) rfl ?_;intro f h
  refine ac h (ah (h.ev rfl)) rfl ?_;intro f h
  refine da 0 h s Tryz.underlying36 rfl rfl rfl ?_;intro f h
  refine ac h (cc (h.ev rfl) (h.ev rfl)) rfl ?_;intro f h
  refine ai ?_
  refine hK9 _ _ ?_
  refine bL h rfl (fun hc=>?_) (fun hc=>?_)
  ·replace hc:=of_decide_eq_true hc
   refine wpIn_skip ?_
   refine hK8 _ _ ?_
   refine ak fun K10 hK10=>?_
   refine wpIn_block ?_
   refine ak fun K11 hK11=>?_
   refine ag ?_
   have hjl:j<l.length:=by omega
   have hix:=qR (fun x => !p x) l j
   refine ac h (ah (h.ev rfl)) rfl ?_;intro f h
   refine ac h (ah (h.ev rfl)) rfl ?_;intro f h
   refine ac h (bU (bO.of_own (s.getSl 0 rfl)) (j) Tryz.underlying36 cA (h.ev rfl) (h.ev rfl) (rfl) (by omega)) rfl ?_;intro f h
   refine aI ((bO.of_own (s.getSl 0 rfl)).el (j) (by omega) (by decide) (D:=av (l.getD j ap)) ((cX (oa (fun x => !p x) l j) j (by rw [rG];omega)).trans (by rw [wV hjl]))) h aJ rfl (al _) rfl ?_;intro f h
   refine bi (av ap) h s cF rfl rfl ?_;intro f w1 b7 h s
   refine aA 0 h s aJ rfl rfl rfl (al _) (al _) (aX _) ?_;intro w1 s
   refine ai ?_
   refine hK11 _ _ ?_
   refine ak fun K12 hK12=>?_
   cases hq:(p (l.getD j ap):Bool)
   ·skip
    refine ag ?_
    refine ac h (ah (h.ev rfl)) rfl ?_;intro f h
    refine ay 0 h s aJ rfl rfl (al _) rfl ?_;intro f h
    refine fk [.agg (av (l.getD j ap))] (caps:=caps) h s hg rfl (hp [_,_] _ s _ (dx hjl)) rfl rfl ?_;intro f w1 v28 hT hE h s;obtain rfl:=hT
    refine ac h (aE (.bool true) (bI (h.ev rfl)) (by rw [hq];rfl)) rfl ?_;intro f h
    refine ai ?_
    refine hK12 _ _ ?_
    refine wpIn_cond_true (h.ev rfl) ?_
    refine ak fun K13 hK13=>?_
    refine ag ?_
    refine ac h (ah (h.ev rfl)) rfl ?_;intro f h
    refine ac h (ah (h.ev rfl)) rfl ?_;intro f h
    refine ay 0 h s aJ rfl rfl (al _) rfl ?_;intro f h
    refine ac h (bU (bO.of_own (s.getSl 1 rfl)) ((ja (fun x => !p x) l j)) Tryz.underlying36 cA (h.ev rfl) (h.ev rfl) (rfl) (by omega)) rfl ?_;intro f h
    refine dH 1 ((ja (fun x => !p x) l j)) h s aJ rfl rfl rfl (al _) (by omega) (aX _) ((qp (l:=(oa (fun x => !p x) l j)) _ (by rw [rG];omega)).trans (congrArg am (rk (q:=(fun x => !p x)) hjl (by rw [hq];rfl)).1.symm)) ?_;intro w1 s
    refine ai ?_
    refine hK13 _ _ ?_
    refine ag ?_
    refine ac h (ah (h.ev rfl)) rfl ?_;intro f h
    refine ac h (cp (h.ev rfl) (h.ev rfl) (by omega)) rfl ?_;intro f h
    refine ac h (aj (h.ev rfl)) rfl ?_;intro f h
    refine ai ?_
    refine bH ?_
    refine hK10 _ _ ?_
    refine ag ?_
    refine ac h (ah (h.ev rfl)) rfl ?_;intro f h
    refine ac h (cp (h.ev rfl) (h.ev rfl) (by omega)) rfl ?_;intro f h
    refine ac h (aj (h.ev rfl)) rfl ?_;intro f h
    refine ai ?_
    refine ca ?_
    have h8:=(rk (q:=(fun x => !p x)) hjl (by rw [hq];rfl)).2
    exact ⟨_,by omega,⟨j+1,h.only ⟨rfl,rfl,rfl,aQ rfl (by omega),aQ rfl (by omega),trivial⟩,St.as (s.pick _ (List.sublist_append_right [_] _)) ⟨rfl,eH _⟩,rfl,by omega,by omega⟩⟩
   ·skip
    refine ag ?_
    refine ac h (ah (h.ev rfl)) rfl ?_;intro f h
    refine ay 0 h s aJ rfl rfl (al _) rfl ?_;intro f h
    refine fk [.agg (av (l.getD j ap))] (caps:=caps) h s hg rfl (hp [_,_] _ s _ (dx hjl)) rfl rfl ?_;intro f w1 v28 hT hE h s;obtain rfl:=hT
    refine ac h (aE (.bool false) (bI (h.ev rfl)) (by rw [hq];rfl)) rfl ?_;intro f h
    refine ai ?_
    refine hK12 _ _ ?_
    refine wpIn_cond_false (h.ev rfl) ?_
    refine wpIn_skip ?_
    refine bH ?_
    refine hK10 _ _ ?_
    refine ag ?_
    refine ac h (ah (h.ev rfl)) rfl ?_;intro f h
    refine ac h (cp (h.ev rfl) (h.ev rfl) (by omega)) rfl ?_;intro f h
    refine ac h (aj (h.ev rfl)) rfl ?_;intro f h
    refine ai ?_
    refine ca ?_
    obtain ⟨h7,h8⟩:=ve (q:=(fun x => !p x)) hjl (by rw [hq];rfl)
    exact ⟨_,by omega,⟨j+1,h.only ⟨rfl,rfl,rfl,aQ rfl (by omega),aQ rfl (by omega),trivial⟩,St.as (s.pick _ (List.sublist_append_right [_] _)) ⟨j9 rfl (by rw [h7]),eH _⟩,rfl,by omega,by omega⟩⟩
  ·replace hc:=of_decide_eq_false hc
   refine wpIn_exit ?_
   refine bN ?_
   refine bN ?_
   refine cG ?_
   refine hK6 _ _ ?_
   refine ak fun K14 hK14=>?_
   refine ag ?_
   obtain rfl:j=l.length:=by omega
   have hlt:=AR (q:=(fun x => !p x)) hk9 hqk
   have hI:=yy (fun x => !p x) l
   obtain ⟨b9,cap,cur,fz,hvh,hfz,hnc,hcm,hcs,hct,s2⟩:=s.open_sl (by omega)
   clear s
   subst hvh
   have s:=s2
   have hz33:(Value.agg (av ap)).cells.size=33:=al _
   refine ac h (ah (h.ev rfl)) rfl ?_;intro f h
   refine ac h (ah (h.ev rfl)) rfl ?_;intro f h
   refine ac h (aE (.slice (some ⟨b9,(ja (fun x => !p x) l l.length)*33,none⟩) (l.length - (ja (fun x => !p x) l l.length)) (cap - (ja (fun x => !p x) l l.length))) (gF (i:=(ja (fun x => !p x) l l.length)) Tryz.underlying36 cA (h.ev rfl) (h.ev rfl) rfl (by omega)) (by unfold Cm;rw [if_neg (by omega)])) rfl ?_;intro f h
   refine kb (fz:=fz) (Z:=.agg (av ap)) 0 h s Tryz.underlying36 cF rfl (by omega) rfl hfz (by rw [hz33];omega) (aX _) ?_;intro w1 s
   refine ai ?_
   refine hK14 _ _ ?_
   refine ak fun K15 hK15=>?_
   refine ag ?_
   refine ac h (ah (h.ev rfl)) rfl ?_;intro f h
   refine ac h (ah (h.ev rfl)) rfl ?_;intro f h
   refine ac h (gz (i:=(ja (fun x => !p x) l l.length)) Tryz.underlying36 cA (h.ev rfl) (h.ev rfl) rfl (by omega)) rfl ?_;intro f h
   refine ac h (aj (h.ev rfl)) rfl ?_;intro f h
   refine ai ?_
   refine hK15 _ _ ?_
   refine wpIn_ret ?_
   exact gb rfl h rfl (⟨_,rfl,(by have hzl:(Builtin.zeroCells (Value.agg (av ap)).cells (l.length - (ja (fun x => !p x) l l.length))).toList.length=(l.length - (l.filter fun x => !p x).length)*33:=(by rw [Array.length_toList,size_zeroCells,hz33,hI]);obtain ⟨hf1,hf2⟩:=tR cur.toList _ (fun x => !p x) l hct (by have e9:=Array.length_toList (xs:=cur);omega) hzl ((ja (fun x => !p x) l l.length)*33) (by rw [hI]) ((l.length - (ja (fun x => !p x) l l.length))*(Value.agg (av ap)).cells.size) (by rw [hz33,hI]);rw [← hI];exact s.close_sl (by rw [List.size_toArray];exact hfz.imp id fun h9=>(by rw [hf1,Array.length_toList];exact h9)) (by omega) hcm (by rw [List.size_toArray];exact hf1.trans hcs) hf2 (by rw [dC,hI]))⟩)
set_option maxHeartbeats 1000000 in
theorem sW (n:Nd) (vs vf:Value) (nos:List Int) (vn:Value) (w:World) (hRs:bO w vs 33 n.sc.length (am n.sc)) (hRf:bO w vf 33 n.fg.length (am n.fg)) (hns:n.sc.length≤1000) (hnf:n.fg.length≤1000) (hN:bO w vn 1 nos.length (nos.map (Value.int .i64))) (hnn:nos.length≤1000):Calls Tryz.prog 96 [.agg (au n.me n.pr vs vf),vn].toArray w (cO w (pY w 28 (Bx n nos) (Bw n))):=by
 refine bh Tryz.func96 rfl Tryz.ntmps96 rfl [(0,.agg (au n.me n.pr vs vf)),(1,vn)] (by simp) fun f h=>?_
 have s:=St.start w
 refine ak fun K1 hK1=>?_
 refine ag ?_
 refine bR (au n.me n.pr vs vf) h s rfl rfl rfl ?_;intro f w1 b2 h s
 refine bR (#[vn]) h s rfl (Bf (hN.keep s.ext)) rfl ?_;intro f w1 b3 h s
 refine bi (au ap ap aU aU) h s ei rfl rfl ?_;intro f w1 b4 h s
 refine ac h (aj (h.ev rfl)) rfl ?_;intro f h
 refine ai ?_
 refine hK1 _ _ ?_
 refine ak fun K2 hK2=>?_
 refine ak fun K3 hK3=>?_
 cases hr:(cr n:Bool)
 ·skip
  refine ag ?_
  refine ay 2 h s bw rfl rfl (aw _ _ _ _) rfl ?_;intro f h
  refine aK h s fY (aT (.bool false) (cS n vs vf _ (hRs.keep s.ext) (hRf.keep s.ext) hns hnf) (congrArg Value.bool hr)) rfl rfl ?_;intro f w1 v9 hT hE h s;obtain rfl:=hT
  refine ac h (aE (.bool true) (bI (h.ev rfl)) rfl) rfl ?_;intro f h
  refine ai ?_
  refine hK3 _ _ ?_
  refine wpIn_cond_true (h.ev rfl) ?_
  refine ak fun K4 hK4=>?_
  refine ag ?_
  refine ac h (d3 pP) rfl ?_;intro f h
  refine aA 0 h s bw rfl rfl rfl (aw _ _ _ _) (aw _ _ _ _) (br (rfl) (rfl)) ?_;intro w1 s
  refine ac h (aj (h.ev rfl)) rfl ?_;intro f h
  refine ai ?_
  refine hK4 _ _ ?_
  refine wpIn_ret ?_
  refine a8 ?_
  exact bS 0 rfl h s bw rfl rfl (aw _ _ _ _) rfl (jR s (zg nos hr).1 (zg nos hr).2)
 ·skip
  refine ag ?_
  refine ay 2 h s bw rfl rfl (aw _ _ _ _) rfl ?_;intro f h
  refine aK h s fY (aT (.bool true) (cS n vs vf _ (hRs.keep s.ext) (hRf.keep s.ext) hns hnf) (congrArg Value.bool hr)) rfl rfl ?_;intro f w1 v9 hT hE h s;obtain rfl:=hT
  refine ac h (aE (.bool false) (bI (h.ev rfl)) rfl) rfl ?_;intro f h
  refine ai ?_
  refine hK3 _ _ ?_
  refine wpIn_cond_false (h.ev rfl) ?_
  refine wpIn_skip ?_
  refine hK2 _ _ ?_
  refine ak fun K5 hK5=>?_
  refine ag ?_
  have hrt:=hr
  refine ac h (dg [.pointer (some ⟨b3,0,none⟩)] (jX h rfl)) rfl ?_;intro f h
  refine ac h (aj (h.ev rfl)) rfl ?_;intro f h
  refine ai ?_
  refine hK5 _ _ ?_
  refine ak fun K6 hK6=>?_
  refine ag ?_
  refine ay 2 h s bw rfl rfl (aw _ _ _ _) rfl ?_;intro f h
  refine aK h s uC (iS n vs vf _ (hRs.keep s.ext) (hRf.keep s.ext) hns hnf) rfl rfl ?_;rintro f w1 v13 ⟨us,uf,rfl,hS⟩ hE h sq;replace s:=s.add hS
  refine aA 4 h s bw rfl rfl rfl (aw _ _ _ _) (aw _ _ _ _) (br (bo (s.getSl 0 rfl)) (bo (s.getSl 1 rfl))) ?_;intro w1 s
  refine ai ?_
  refine hK6 _ _ ?_
  refine ak fun K7 hK7=>?_
  refine qH 1 7 [[],[0],[],[0,1,2],[],[4],[0,1,2,3,4,5],[0,1,2,3,4,5,6],[0,1,2,3,4,5,6,7]] [[],[],[],[9],[],[],[3],[],[]] [fun _=>[],fun _=>[],fun _=>[],fun v=>[.sl (v 3) 28 33 (n.sc.filter fun x => !(dB nos) x).length (am (n.sc.filter fun x => !(dB nos) x))],fun _=>[],fun _=>[],fun v=>[.sl (v 6) 28 33 (kj (n.sc.filter fun x => !(dB nos) x) n.me).length (am (kj (n.sc.filter fun x => !(dB nos) x) n.me))],fun _=>[],fun _=>[]] [[.sl us 28 33 n.sc.length (am n.sc)]] [fun v=>v 0=.pointer (some ⟨b2,66,none⟩),fun v=>v 1=us,fun v=>v 2=.func (.func 127) #[] #[.pointer (some ⟨b3,0,none⟩)],fun _=>True,fun v=>v 4=.pointer (some ⟨b2,0,none⟩),fun v=>v 5=.agg (av n.me),fun _=>True,fun _=>True,fun _=>True] [.sl uf 28 33 n.fg.length (am n.fg),.blk b4 (.cells (au ap ap aU aU) 42),.blk b3 (.cells (#[vn]) 78),.blk b2 (.cells (au n.me n.pr us uf) 42)] h s rfl (by kernel_rfl) (by kernel_rfl) (by kernel_rfl) (And.intro ?_ (And.intro ?_ (And.intro ?_ (And.intro ?_ (And.intro ?_ (And.intro ?_ (And.intro ?_ (trivial)))))))) [0,1,2,4,5,6] (by kernel_rfl) ?_
  ·intro f9 w2 vl5 E9 hs9 hd9 hl hF s
   have e2:f9.tmps.getD 2 undef=_:=cK hl 2 (by kernel_rfl) (by kernel_rfl) (h.holds 2 _ rfl)
   have h:=aB [(2,_)] (hs9.trans h.size) (hd9.trans h.defers) (holds_lk ⟨e2,trivial⟩)
   replace s:St w (.sl uf 28 33 n.fg.length (am n.fg)::.blk b4 (.cells (au ap ap aU aU) 42)::.blk b3 (.cells (#[vn]) 78)::.blk b2 (.cells (au n.me n.pr us uf) 42)::E9) _:=s
   refine ac h (aq cC (h.ev rfl)) rfl ?_;intro f h
   exact ai ⟨_,a6 14 rfl (h.holds 14 _ rfl),rfl,s⟩
  ·intro f9 w2 vl5 E9 hs9 hd9 hl hF s
   have e14:f9.tmps.getD 14 undef=.pointer (some ⟨b2,66,none⟩):=(bc hl 14 0 (by kernel_rfl) (by kernel_rfl)).trans (hF 0 (by decide))
   have h:=aB [(14,.pointer (some ⟨b2,66,none⟩))] (hs9.trans h.size) (hd9.trans h.defers) (holds_lk ⟨e14,trivial⟩)
   replace s:St w (.sl uf 28 33 n.fg.length (am n.fg)::.blk b4 (.cells (au ap ap aU aU) 42)::.blk b3 (.cells (#[vn]) 78)::.blk b2 (.cells (au n.me n.pr us uf) 42)::E9) _:=s
   refine aC (V:=us) (ax (bq.of_own s 3 rfl) 66 (c7 _ _ _ _)) h cf rfl rfl ?_;intro f h
   exact ai ⟨_,a6 15 rfl (h.holds 15 _ rfl),rfl,s⟩
  ·intro f9 w2 vl5 E9 hs9 hd9 hl hF s
   have e6:f9.tmps.getD 6 undef=_:=cK hl 6 (by kernel_rfl) (by kernel_rfl) (h.holds 6 _ rfl)
   have h:=aB [(6,_)] (hs9.trans h.size) (hd9.trans h.defers) (holds_lk ⟨e6,trivial⟩)
   replace s:St w (.sl uf 28 33 n.fg.length (am n.fg)::.blk b4 (.cells (au ap ap aU aU) 42)::.blk b3 (.cells (#[vn]) 78)::.blk b2 (.cells (au n.me n.pr us uf) 42)::E9) _:=s
   refine ac h (ah (h.ev rfl)) rfl ?_;intro f h
   exact ai ⟨_,a6 16 rfl (h.holds 16 _ rfl),rfl,s⟩
  ·intro f9 w2 vl5 E9 hs9 hd9 hl hF s
   have e15:f9.tmps.getD 15 undef=us:=(bc hl 15 1 (by kernel_rfl) (by kernel_rfl)).trans (hF 1 (by decide))
   have e16:f9.tmps.getD 16 undef=.func (.func 127) #[] #[.pointer (some ⟨b3,0,none⟩)]:=(bc hl 16 2 (by kernel_rfl) (by kernel_rfl)).trans (hF 2 (by decide))
   have h:=aB [(15,us),(16,.func (.func 127) #[] #[.pointer (some ⟨b3,0,none⟩)])] (hs9.trans h.size) (hd9.trans h.defers) (holds_lk ⟨e15,e16,trivial⟩)
   replace s:St w (.sl us 28 33 n.sc.length (am n.sc)::.sl uf 28 33 n.fg.length (am n.fg)::.blk b4 (.cells (au ap ap aU aU) 42)::.blk b3 (.cells (#[vn]) 78)::.blk b2 (.cells (au n.me n.pr us uf) 42)::E9) _:=s
   refine cV [us,.func (.func 127) #[] #[.pointer (some ⟨b3,0,none⟩)]] h uO (ki n.sc hns us 127 [.pointer (some ⟨b3,0,none⟩)] (dB nos) _ _ _ s nF (fun A9 w9 s9 x hx=>g7 x nos vn b3 w9 (gy.of_mem (u:=78) s9 (by simp)) (hN.keep s9.ext) hnn)) rfl rfl ?_;rintro f w1 v17 s h
   exact ai ⟨_,a6 17 rfl (h.holds 17 _ rfl),trivial,s⟩
  ·intro f9 w2 vl5 E9 hs9 hd9 hl hF s
   have e2:f9.tmps.getD 2 undef=_:=cK hl 2 (by kernel_rfl) (by kernel_rfl) (h.holds 2 _ rfl)
   have h:=aB [(2,_)] (hs9.trans h.size) (hd9.trans h.defers) (holds_lk ⟨e2,trivial⟩)
   replace s:St w (.sl uf 28 33 n.fg.length (am n.fg)::.blk b4 (.cells (au ap ap aU aU) 42)::.blk b3 (.cells (#[vn]) 78)::.blk b2 (.cells (au n.me n.pr us uf) 42)::E9) _:=s
   refine ac h (aq bA (h.ev rfl)) rfl ?_;intro f h
   exact ai ⟨_,a6 18 rfl (h.holds 18 _ rfl),rfl,s⟩
  ·intro f9 w2 vl5 E9 hs9 hd9 hl hF s
   have e18:f9.tmps.getD 18 undef=.pointer (some ⟨b2,0,none⟩):=(bc hl 18 4 (by kernel_rfl) (by kernel_rfl)).trans (hF 4 (by decide))
   have h:=aB [(18,.pointer (some ⟨b2,0,none⟩))] (hs9.trans h.size) (hd9.trans h.defers) (holds_lk ⟨e18,trivial⟩)
   replace s:St w (.sl uf 28 33 n.fg.length (am n.fg)::.blk b4 (.cells (au ap ap aU aU) 42)::.blk b3 (.cells (#[vn]) 78)::.blk b2 (.cells (au n.me n.pr us uf) 42)::E9) _:=s
   refine aI (bq.subL (bq.of_own s 3 rfl) 0 33 (D:=av n.me) (bZ _ _ _ _)) h aJ rfl (al _) rfl ?_;intro f h
   exact ai ⟨_,a6 19 rfl (h.holds 19 _ rfl),rfl,s⟩
  ·intro f9 w2 vl5 E9 hs9 hd9 hl hF s
   have e17:f9.tmps.getD 17 undef=(vl5 3):=bc hl 17 3 (by kernel_rfl) (by kernel_rfl)
   have e19:f9.tmps.getD 19 undef=.agg (av n.me):=(bc hl 19 5 (by kernel_rfl) (by kernel_rfl)).trans (hF 5 (by decide))
   have h:=aB [(17,(vl5 3)),(19,.agg (av n.me))] (hs9.trans h.size) (hd9.trans h.defers) (holds_lk ⟨e17,e19,trivial⟩)
   replace s:St w (.sl (vl5 3) 28 33 (n.sc.filter fun x => !(dB nos) x).length (am (n.sc.filter fun x => !(dB nos) x))::.sl uf 28 33 n.fg.length (am n.fg)::.blk b4 (.cells (au ap ap aU aU) 42)::.blk b3 (.cells (#[vn]) 78)::.blk b2 (.cells (au n.me n.pr us uf) 42)::E9) _:=s
   refine cV [(vl5 3),.agg (av n.me)] h uz (kr (n.sc.filter fun x => !(dB nos) x) (vl5 3) n.me _ _ _ s) rfl rfl ?_;rintro f w1 v20 s h
   exact ai ⟨_,a6 20 rfl (h.holds 20 _ rfl),trivial,s⟩
  intro f w1 vl5 hs9 hd9 hv hr hF s
  replace hv:=fun i d h9=>hv i d (show Nat.blt i 7=true from h9)
  replace h:=qJ 7 (ops:=_) [(14,.pointer (some ⟨b2,66,none⟩)),(15,us),(16,.func (.func 127) #[] #[.pointer (some ⟨b3,0,none⟩)]),(17,(vl5 3)),(18,.pointer (some ⟨b2,0,none⟩)),(19,.agg (av n.me)),(20,(vl5 6))] h hs9 hd9 hr ⟨(hv 0 14 rfl rfl).trans (hF 0 (by kernel_rfl)),(hv 1 15 rfl rfl).trans (hF 1 (by kernel_rfl)),(hv 2 16 rfl rfl).trans (hF 2 (by kernel_rfl)),hv 3 17 rfl rfl,(hv 4 18 rfl rfl).trans (hF 4 (by kernel_rfl)),(hv 5 19 rfl rfl).trans (hF 5 (by kernel_rfl)),hv 6 20 rfl rfl,trivial⟩ (by kernel_rfl)
  replace s:St w [.sl (vl5 6) 28 33 (kj (n.sc.filter fun x => !(dB nos) x) n.me).length (am (kj (n.sc.filter fun x => !(dB nos) x) n.me)),.sl uf 28 33 n.fg.length (am n.fg),.blk b4 (.cells (au ap ap aU aU) 42),.blk b3 (.cells (#[vn]) 78),.blk b2 (.cells (au n.me n.pr us uf) 42)] _:=s
  refine ac h (aq cC (h.ev rfl)) rfl ?_;intro f h
  refine bk 4 h s cf rfl rfl rfl (by rw [aw];omega) (bo (s.getSl 0 rfl)) ?_;intro w1 s
  replace s:=s.recell (D:=au n.me n.pr (vl5 6) uf) 4 rfl (gR _ _ _ _ _)
  refine ai ?_
  refine hK7 _ _ ?_
  refine ak fun K8 hK8=>?_
  refine ag ?_
  refine ac h (aq dP (h.ev rfl)) rfl ?_;intro f h
  refine aC (V:=uf) (ax (bq.of_own s 4 rfl) 67 (ed _ _ _ _)) h cf rfl rfl ?_;intro f h
  refine ac h (ah (h.ev rfl)) rfl ?_;intro f h
  replace s:=(s.sel [1,0,2,3,4] rfl (by decide))
  refine cV [uf,.func (.func 127) #[] #[.pointer (some ⟨b3,0,none⟩)]] h uO (ki n.fg hnf uf 127 [.pointer (some ⟨b3,0,none⟩)] (dB nos) _ _ _ s nF (fun A9 w9 s9 x hx=>g7 x nos vn b3 w9 (gy.of_mem (u:=78) s9 (by simp)) (hN.keep s9.ext) hnn)) rfl rfl ?_;rintro f w1 v25 s h
  refine ac h (aq dP (h.ev rfl)) rfl ?_;intro f h
  refine bk 4 h s cf rfl rfl rfl (by rw [aw];omega) (bo (s.getSl 0 rfl)) ?_;intro w1 s
  replace s:=s.recell (D:=au n.me n.pr (vl5 6) v25) 4 rfl (jv _ _ _ _ _)
  refine ai ?_
  refine hK8 _ _ ?_
  refine ak fun K9 hK9=>?_
  refine ak fun K10 hK10=>?_
  cases hgn:(dB nos n.pr:Bool)
  ·skip
   refine ag ?_
   refine ac h (ah (h.ev rfl)) rfl ?_;intro f h
   refine ac h (aq cx (h.ev rfl)) rfl ?_;intro f h
   refine aI (bq.subL (bq.of_own s 4 rfl) 33 33 (D:=av n.pr) (cN _ _ _ _)) h aJ rfl (al _) rfl ?_;intro f h
   refine fk [.agg (av n.pr)] (caps:=[.pointer (some ⟨b3,0,none⟩)]) h s nF rfl (aT (.bool false) (g7 n.pr nos vn b3 _ (gy.of_own s 3 rfl) (hN.keep s.ext) hnn) (congrArg Value.bool hgn)) rfl rfl ?_;intro f w1 v30 hT hE h s;obtain rfl:=hT
   refine ai ?_
   refine hK10 _ _ ?_
   refine wpIn_cond_false (h.ev rfl) ?_
   refine wpIn_skip ?_
   refine hK9 _ _ ?_
   refine ak fun K11 hK11=>?_
   refine ag ?_
   refine ay 4 h s bw rfl rfl (aw _ _ _ _) rfl ?_;intro f h
   refine aA 2 h s bw rfl rfl rfl (aw _ _ _ _) (aw _ _ _ _) (br (bo (s.getSl 1 rfl)) (bo (s.getSl 0 rfl))) ?_;intro w1 s
   refine ac h (aj (h.ev rfl)) rfl ?_;intro f h
   refine ai ?_
   refine hK11 _ _ ?_
   refine wpIn_ret ?_
   exact bS 2 rfl h s bw rfl rfl (aw _ _ _ _) rfl (gr ((mG nos hrt).1.trans (by rw [yW hgn];rfl)) (mG nos hrt).2 (s.sel [1,0] rfl (by decide)))
  ·skip
   refine ag ?_
   refine ac h (ah (h.ev rfl)) rfl ?_;intro f h
   refine ac h (aq cx (h.ev rfl)) rfl ?_;intro f h
   refine aI (bq.subL (bq.of_own s 4 rfl) 33 33 (D:=av n.pr) (cN _ _ _ _)) h aJ rfl (al _) rfl ?_;intro f h
   refine fk [.agg (av n.pr)] (caps:=[.pointer (some ⟨b3,0,none⟩)]) h s nF rfl (aT (.bool true) (g7 n.pr nos vn b3 _ (gy.of_own s 3 rfl) (hN.keep s.ext) hnn) (congrArg Value.bool hgn)) rfl rfl ?_;intro f w1 v30 hT hE h s;obtain rfl:=hT
   refine ai ?_
   refine hK10 _ _ ?_
   refine wpIn_cond_true (h.ev rfl) ?_
   refine ag ?_
   refine aK h s fA (dh _) rfl rfl ?_;intro f w1 v9 hT hE h s;obtain rfl:=hT
   refine ac h (aq cx (h.ev rfl)) rfl ?_;intro f h
   refine fG 4 h s aJ rfl rfl rfl (al _) (by rw [aw];omega) (aX _) ?_;intro w1 s
   replace s:=s.recell (D:=au n.me c4 (vl5 6) v25) 4 rfl (ld _ _ _ _ _)
   refine ai ?_
   refine hK9 _ _ ?_
   refine ak fun K12 hK12=>?_
   refine ag ?_
   refine ay 4 h s bw rfl rfl (aw _ _ _ _) rfl ?_;intro f h
   refine aA 2 h s bw rfl rfl rfl (aw _ _ _ _) (aw _ _ _ _) (br (bo (s.getSl 1 rfl)) (bo (s.getSl 0 rfl))) ?_;intro w1 s
   refine ac h (aj (h.ev rfl)) rfl ?_;intro f h
   refine ai ?_
   refine hK12 _ _ ?_
   refine wpIn_ret ?_
   exact bS 2 rfl h s bw rfl rfl (aw _ _ _ _) rfl (gr ((mG nos hrt).1.trans (by rw [yR hgn];rfl)) (mG nos hrt).2 (s.sel [1,0] rfl (by decide)))
theorem yp (no:Int) (a9:Option Addr) (n9 c9:Nat) (B9:List Own) (w0 w:World) (s:St w0 B9 w):Calls Tryz.prog 123 [.int .i64 no,.slice a9 n9 c9].toArray w (fun e w9=>∃ r,e=.returned r∧∃ bs bn,r=.func (.func 142) #[] #[.pointer (some ⟨bs,0,none⟩),.pointer (some ⟨bn,0,none⟩)]∧St w0 (.blk bs (.cells #[.slice a9 n9 c9] 36)::.blk bn (.cells #[.int .i64 no] 3)::B9) w9):=by
 refine dT Tryz.func123 rfl Tryz.ntmps123 rfl [(0,.int .i64 no),(1,.slice a9 n9 c9)] (by simp) fun f h=>?_
 refine ak fun K1 hK1=>?_
 refine ag ?_
 refine bR (#[.int .i64 no]) h s rfl rfl rfl ?_;intro f w1 b2 h s
 refine bR (#[.slice a9 n9 c9]) h s rfl rfl rfl ?_;intro f w1 b3 h s
 refine ac h (aj (h.ev rfl)) rfl ?_;intro f h
 refine ai ?_
 refine hK1 _ _ ?_
 refine ak fun K2 hK2=>?_
 refine ag ?_
 refine ac h (dg [.pointer (some ⟨b3,0,none⟩),.pointer (some ⟨b2,0,none⟩)] (jX h rfl)) rfl ?_;intro f h
 refine ac h (aj (h.ev rfl)) rfl ?_;intro f h
 refine ai ?_
 refine hK2 _ _ ?_
 refine wpIn_ret ?_
 exact gb rfl h rfl (⟨_,rfl,b3,b2,rfl,s⟩)
theorem wl (no:Int) (l:List Mb) (vh:Value) (B9:List Own) (w0 w:World) (s:St w0 B9 w) (hR:bO w vh 33 l.length (am l)):Calls Tryz.prog 123 [.int .i64 no,vh].toArray w (fun e w9=>∃ r,e=.returned r∧∃ bs bn,r=.func (.func 142) #[] #[.pointer (some ⟨bs,0,none⟩),.pointer (some ⟨bn,0,none⟩)]∧St w0 (.blk bs (.cells #[vh] 36)::.blk bn (.cells #[.int .i64 no] 3)::B9) w9):=by
 obtain ⟨a,c,rfl⟩:=hR.len
 exact yp no a _ c B9 w0 w s
theorem tC (no:Int) (l:List Mb) (hln:l.length≤1000) (vh:Value) (lp bs bn:Nat) (q:Nat→Bool) (GG:Nat→Own→Prop) (g0:Own) (w0 w:World) (s:St w0 [.blk bs (.cells #[vh] 36),.blk bn (.cells #[.int .i64 no] 3),.sl vh 28 33 l.length (am l),g0] w) (hg0:GG 0 g0) (hY:∀ (d:Nat) (B9:List Own) (w9:World) (i:Nat) (g:Own),d<(c5 no l).length→(∀ j,j<d→q j=false)→GG d g→St w0 B9 w9→B9[i]? = some g→gS Tryz.prog lp [Value.agg (av ((c5 no l).getD d ap))].toArray w9 (fun v w2=>v=.bool (!q d)∧∃ g',GG (d+1) g'∧St w0 (B9.set i g') w2)):Calls Tryz.prog 142 [.func (.yield lp) #[] #[],.pointer (some ⟨bs,0,none⟩),.pointer (some ⟨bn,0,none⟩)].toArray w (fun e w9=>(∃ v,e=.returned v)∧∃ d g,GG d g∧St w0 ([.blk bs (.cells #[vh] 36),.blk bn (.cells #[.int .i64 no] 3),.sl vh 28 33 l.length (am l)]++[g]) w9∧d≤(c5 no l).length∧(∀ j,j+1<d→q j=false)∧(lq q d=false→d=(c5 no l).length)):=by
 refine dT Tryz.func142 rfl Tryz.ntmps142 rfl [(0,.func (.yield lp) #[] #[]),(1,.pointer (some ⟨bs,0,none⟩)),(2,.pointer (some ⟨bn,0,none⟩))] (by simp) fun f h=>?_
 refine ak fun K1 hK1=>?_
 refine ag ?_
 refine bX 0 h s cf rfl rfl (rfl) rfl ?_;intro f h
 refine da 2 h s Tryz.underlying36 rfl rfl rfl ?_;intro f h
 refine ac h (ah (h.ev rfl)) rfl ?_;intro f h
 refine ai ?_
 refine hK1 _ _ ?_
 refine wpIn_block ?_
 refine wpIn_loop_ghost (fun nn aa ww=>∃ d:Nat,∃ gg:Own,Sl 23 aa [(0,.func (.yield lp) #[] #[]),(1,.pointer (some ⟨bs,0,none⟩)),(2,.pointer (some ⟨bn,0,none⟩)),(6,vh),(7,.int .i64 (l.length:Int)),(8,.int .i64 (d:Int))]∧St w0 [.blk bs (.cells (#[vh]) 36),.blk bn (.cells (#[.int .i64 no]) 3),.sl vh 28 33 l.length (am l),(gg)] ww∧nn=l.length - d∧d≤(c5 no l).length∧GG d gg∧∀ j,j<d→q j=false) (l.length - (0)) ⟨0,g0,h.only ⟨rfl,rfl,rfl,rfl,rfl,aQ rfl (by omega),trivial⟩,s.as ⟨rfl,rfl,rfl,rfl,trivial⟩,rfl,Nat.zero_le _,hg0,fun j hj=>absurd hj (Nat.not_lt_zero _)⟩ ?_
 rintro _ f w1 ⟨d,gg,h,s,hnn,hp0,hp1,hp2⟩
 refine ak fun K2 hK2=>?_
 refine ag ?_
 refine ac h (cc (h.ev rfl) (h.ev rfl)) rfl ?_;intro f h
 refine ai ?_
 refine hK2 _ _ ?_
 refine ak fun K3 hK3=>?_
 refine bL h rfl (fun hc=>?_) (fun hc=>?_)
 ·replace hc:=of_decide_eq_true hc
  refine wpIn_skip ?_
  refine hK3 _ _ ?_
  refine ak fun K4 hK4=>?_
  refine wpIn_block ?_
  refine ak fun K5 hK5=>?_
  refine ag ?_
  have hdl:d<l.length:=by omega
  refine ac h (bU (bO.of_own (s.getSl 2 rfl)) (d) Tryz.underlying36 cA (h.ev rfl) (h.ev rfl) (by omega) (by omega)) rfl ?_;intro f h
  refine aI ((bO.of_own (s.getSl 2 rfl)).el (d) (by omega) (by decide) (D:=av (l.getD d ap)) (cX l d hdl)) h aJ rfl (al _) rfl ?_;intro f h
  refine bi (av ap) h s cF rfl rfl ?_;intro f w1 b5 h s
  refine aA 0 h s aJ rfl rfl rfl (al _) (al _) (aX _) ?_;intro w1 s
  refine ai ?_
  refine hK5 _ _ ?_
  refine ak fun K6 hK6=>?_
  cases hs9:(decide ((l.getD d ap).1=no):Bool)
  ·skip
   cases hq:(q d:Bool)
   ·skip
    refine ag ?_
    refine ac h (aq aP (h.ev rfl)) rfl ?_;intro f h
    refine aC (ax (bq.of_own s 0 rfl) 0 (aV _)) h bV rfl rfl ?_;intro f h
    refine bX 2 h s bV rfl rfl (rfl) rfl ?_;intro f h
    refine ac h (aE (.bool false) (cb (h.ev rfl) (h.ev rfl)) (congrArg Value.bool hs9)) rfl ?_;intro f h
    refine ac h (ah (h.ev rfl)) rfl ?_;intro f h
    refine a2 h rfl rfl rfl ?_
    have hdm:d<(c5 no l).length:=re hp0 hdl hs9
    refine ac h (ah (h.ev rfl)) rfl ?_;intro f h
    refine a2 h rfl rfl rfl ?_
    refine ay 0 h s aJ rfl rfl (al _) rfl ?_;intro f h
    refine a2 h rfl rfl rfl ?_
    refine eO (V:=.bool true) (G:=GG (d+1)) [.agg (av (l.getD d ap))] 4 h rfl rfl (by have h9:=hY d _ _ 4 gg hdm hp2 hp1 s rfl;rw [hq,jc hdm] at h9;exact h9) rfl ?_;intro f w1 g1 hg1 h s
    refine a2 h rfl rfl rfl ?_
    refine ac h (aE (.bool false) (bI (h.ev rfl)) rfl) rfl ?_;intro f h
    refine ac h (aL (h.ev rfl) (h.ev rfl)) rfl ?_;intro f h
    refine ai ?_
    refine hK6 _ _ ?_
    refine wpIn_cond_false (h.ev rfl) ?_
    refine wpIn_skip ?_
    refine bH ?_
    refine hK4 _ _ ?_
    refine ag ?_
    refine ac h (cp (h.ev rfl) (h.ev rfl) (by omega)) rfl ?_;intro f h
    refine ac h (ah (h.ev rfl)) rfl ?_;intro f h
    refine ai ?_
    refine ca ?_
    exact ⟨_,by omega,⟨d+1,g1,h.only ⟨rfl,rfl,rfl,rfl,rfl,aQ rfl (by omega),trivial⟩,St.as (s.pick _ (List.sublist_append_right [_] _)) ⟨rfl,rfl,rfl,rfl,trivial⟩,rfl,hdm,hg1,d1 hp2 hq⟩⟩
   ·skip
    refine ag ?_
    refine ac h (aq aP (h.ev rfl)) rfl ?_;intro f h
    refine aC (ax (bq.of_own s 0 rfl) 0 (aV _)) h bV rfl rfl ?_;intro f h
    refine bX 2 h s bV rfl rfl (rfl) rfl ?_;intro f h
    refine ac h (aE (.bool false) (cb (h.ev rfl) (h.ev rfl)) (congrArg Value.bool hs9)) rfl ?_;intro f h
    refine ac h (ah (h.ev rfl)) rfl ?_;intro f h
    refine a2 h rfl rfl rfl ?_
    have hdm:d<(c5 no l).length:=re hp0 hdl hs9
    refine ac h (ah (h.ev rfl)) rfl ?_;intro f h
    refine a2 h rfl rfl rfl ?_
    refine ay 0 h s aJ rfl rfl (al _) rfl ?_;intro f h
    refine a2 h rfl rfl rfl ?_
    refine eO (V:=.bool false) (G:=GG (d+1)) [.agg (av (l.getD d ap))] 4 h rfl rfl (by have h9:=hY d _ _ 4 gg hdm hp2 hp1 s rfl;rw [hq,jc hdm] at h9;exact h9) rfl ?_;intro f w1 g1 hg1 h s
    refine a2 h rfl rfl rfl ?_
    refine ac h (aE (.bool true) (bI (h.ev rfl)) rfl) rfl ?_;intro f h
    refine ac h (aL (h.ev rfl) (h.ev rfl)) rfl ?_;intro f h
    refine ai ?_
    refine hK6 _ _ ?_
    refine wpIn_cond_true (h.ev rfl) ?_
    refine wpIn_ret ?_
    refine bT ?_
    refine a8 ?_
    refine a8 ?_
    refine bT ?_
    exact jw rfl h (⟨⟨_,rfl⟩,d+1,g1,hg1,s.pick _ (List.sublist_cons_self _ _),hdm,fun j hj=>hp2 j (by omega),fun h9=>absurd (hq.symm.trans h9) (by decide)⟩)
  ·skip
   refine ag ?_
   refine ac h (aq aP (h.ev rfl)) rfl ?_;intro f h
   refine aC (ax (bq.of_own s 0 rfl) 0 (aV _)) h bV rfl rfl ?_;intro f h
   refine bX 2 h s bV rfl rfl (rfl) rfl ?_;intro f h
   refine ac h (aE (.bool true) (cb (h.ev rfl) (h.ev rfl)) (congrArg Value.bool hs9)) rfl ?_;intro f h
   refine ac h (ah (h.ev rfl)) rfl ?_;intro f h
   refine aY (b:=false) h rfl rfl rfl rfl ?_;intro f h
   refine aY (b:=false) h rfl rfl rfl rfl ?_;intro f h
   refine aY (b:=false) h rfl rfl rfl rfl ?_;intro f h
   refine aY (b:=false) h rfl rfl rfl rfl ?_;intro f h
   refine ac h (aO (h.ev rfl) (h.ev rfl)) rfl ?_;intro f h
   refine ai ?_
   refine hK6 _ _ ?_
   refine wpIn_cond_true (h.ev rfl) ?_
   refine wpIn_ret ?_
   refine bT ?_
   refine a8 ?_
   refine a8 ?_
   refine bT ?_
   exact jw rfl h (⟨⟨_,rfl⟩,d,gg,hp1,s.pick _ (List.sublist_cons_self _ _),hp0,fun j hj=>hp2 j (by omega),fun _=>Nat.le_antisymm hp0 (sj (of_decide_eq_true hs9) hdl)⟩)
 ·replace hc:=of_decide_eq_false hc
  refine wpIn_exit ?_
  refine bN ?_
  refine bN ?_
  refine cG ?_
  exact dA rfl h (⟨⟨_,rfl⟩,d,gg,hp1,s,hp0,fun j hj=>hp2 j (by omega),fun _=>(by have:=wQ no l;omega)⟩)
set_option maxHeartbeats 1000000 in
theorem j4 (n:Nd) (vs vf:Value) (z:Nd) (ws wf:Value) (w:World) (hRs:bO w vs 33 n.sc.length (am n.sc)) (hRf:bO w vf 33 n.fg.length (am n.fg)) (hns:n.sc.length≤900) (hnf:n.fg.length≤900) (hZs:bO w ws 33 z.sc.length (am z.sc)) (hZf:bO w wf 33 z.fg.length (am z.fg)) (hzs:z.sc.length≤900) (hzf:z.fg.length≤900):Calls Tryz.prog 90 [.agg (au n.me n.pr vs vf),.agg (au z.me z.pr ws wf)].toArray w (cO w (pY w 28 (zM n z) (AL n z))):=by
 refine dZ Tryz.func90 rfl Tryz.ntmps90 rfl [(0,.agg (au n.me n.pr vs vf)),(1,.agg (au z.me z.pr ws wf))] (by simp) fun f h=>?_
 have s:=St.start w
 refine ak fun K1 hK1=>?_
 refine ag ?_
 refine bR (au n.me n.pr vs vf) h s rfl rfl rfl ?_;intro f w1 b2 h s
 refine bR (au z.me z.pr ws wf) h s rfl rfl rfl ?_;intro f w1 b3 h s
 refine bi (au ap ap aU aU) h s ei rfl rfl ?_;intro f w1 b4 h s
 refine ac h (aj (h.ev rfl)) rfl ?_;intro f h
 refine ai ?_
 refine hK1 _ _ ?_
 refine ak fun K2 hK2=>?_
 refine ak fun K3 hK3=>?_
 cases hr:(cr n:Bool)
 ·skip
  refine ag ?_
  refine ay 2 h s bw rfl rfl (aw _ _ _ _) rfl ?_;intro f h
  refine aK h s fY (aT (.bool false) (cS n vs vf _ (hRs.keep s.ext) (hRf.keep s.ext) (by omega) (by omega)) (congrArg Value.bool hr)) rfl rfl ?_;intro f w1 v9 hT hE h s;obtain rfl:=hT
  refine ac h (aE (.bool true) (bI (h.ev rfl)) rfl) rfl ?_;intro f h
  refine ac h (ah (h.ev rfl)) rfl ?_;intro f h
  refine aY (b:=false) h rfl rfl rfl rfl ?_;intro f h
  refine aY (b:=false) h rfl rfl rfl rfl ?_;intro f h
  refine aY (b:=false) h rfl rfl rfl rfl ?_;intro f h
  refine ac h (aO (h.ev rfl) (h.ev rfl)) rfl ?_;intro f h
  refine ai ?_
  refine hK3 _ _ ?_
  refine wpIn_cond_true (h.ev rfl) ?_
  refine ak fun K4 hK4=>?_
  refine ag ?_
  refine ac h (d3 pP) rfl ?_;intro f h
  refine aA 0 h s bw rfl rfl rfl (aw _ _ _ _) (aw _ _ _ _) (br (rfl) (rfl)) ?_;intro w1 s
  refine ac h (aj (h.ev rfl)) rfl ?_;intro f h
  refine ai ?_
  refine hK4 _ _ ?_
  refine wpIn_ret ?_
  refine a8 ?_
  exact fN 0 rfl h s bw rfl rfl rfl (aw _ _ _ _) (jR s (wx hr).1 (wx hr).2)
 ·skip
  cases hz:(cr z:Bool)
  ·skip
   refine ag ?_
   refine ay 2 h s bw rfl rfl (aw _ _ _ _) rfl ?_;intro f h
   refine aK h s fY (aT (.bool true) (cS n vs vf _ (hRs.keep s.ext) (hRf.keep s.ext) (by omega) (by omega)) (congrArg Value.bool hr)) rfl rfl ?_;intro f w1 v9 hT hE h s;obtain rfl:=hT
   refine ac h (aE (.bool false) (bI (h.ev rfl)) rfl) rfl ?_;intro f h
   refine ac h (ah (h.ev rfl)) rfl ?_;intro f h
   refine a2 h rfl rfl rfl ?_
   refine ay 1 h s bw rfl rfl (aw _ _ _ _) rfl ?_;intro f h
   refine a2 h rfl rfl rfl ?_
   refine aK h s fY (aT (.bool false) (cS z ws wf _ (hZs.keep s.ext) (hZf.keep s.ext) (by omega) (by omega)) (congrArg Value.bool hz)) rfl rfl ?_;intro f w1 v9 hT hE h s;obtain rfl:=hT
   refine a2 h rfl rfl rfl ?_
   refine ac h (aE (.bool true) (bI (h.ev rfl)) rfl) rfl ?_;intro f h
   refine ac h (aL (h.ev rfl) (h.ev rfl)) rfl ?_;intro f h
   refine ai ?_
   refine hK3 _ _ ?_
   refine wpIn_cond_true (h.ev rfl) ?_
   refine ak fun K5 hK5=>?_
   refine ag ?_
   refine ac h (d3 pP) rfl ?_;intro f h
   refine aA 0 h s bw rfl rfl rfl (aw _ _ _ _) (aw _ _ _ _) (br (rfl) (rfl)) ?_;intro w1 s
   refine ac h (aj (h.ev rfl)) rfl ?_;intro f h
   refine ai ?_
   refine hK5 _ _ ?_
   refine wpIn_ret ?_
   refine a8 ?_
   exact fN 0 rfl h s bw rfl rfl rfl (aw _ _ _ _) (jR s (wz hz).1 (wz hz).2)
  ·skip
   refine ag ?_
   refine ay 2 h s bw rfl rfl (aw _ _ _ _) rfl ?_;intro f h
   refine aK h s fY (aT (.bool true) (cS n vs vf _ (hRs.keep s.ext) (hRf.keep s.ext) (by omega) (by omega)) (congrArg Value.bool hr)) rfl rfl ?_;intro f w1 v9 hT hE h s;obtain rfl:=hT
   refine ac h (aE (.bool false) (bI (h.ev rfl)) rfl) rfl ?_;intro f h
   refine ac h (ah (h.ev rfl)) rfl ?_;intro f h
   refine a2 h rfl rfl rfl ?_
   refine ay 1 h s bw rfl rfl (aw _ _ _ _) rfl ?_;intro f h
   refine a2 h rfl rfl rfl ?_
   refine aK h s fY (aT (.bool true) (cS z ws wf _ (hZs.keep s.ext) (hZf.keep s.ext) (by omega) (by omega)) (congrArg Value.bool hz)) rfl rfl ?_;intro f w1 v9 hT hE h s;obtain rfl:=hT
   refine a2 h rfl rfl rfl ?_
   refine ac h (aE (.bool false) (bI (h.ev rfl)) rfl) rfl ?_;intro f h
   refine ac h (aL (h.ev rfl) (h.ev rfl)) rfl ?_;intro f h
   refine ai ?_
   refine hK3 _ _ ?_
   refine wpIn_cond_false (h.ev rfl) ?_
   refine wpIn_skip ?_
   refine hK2 _ _ ?_
   refine ak fun K6 hK6=>?_
   have hrt:=hr
   refine qH 0 9 [[],[0],[],[0,1,2],[],[4],[0,1,2,3,4,5],[],[7],[0,1,2,3,4,5,6,7,8],[0,1,2,3,4,5,6,7,8,9]] [[],[],[],[],[],[],[],[],[],[],[]] [fun _=>[],fun _=>[],fun _=>[],fun _=>[],fun _=>[],fun _=>[],fun v=>[.sl (v 6) 28 33 2 (am [j2 n.me z,z.me])],fun _=>[],fun _=>[],fun _=>[],fun _=>[]] [] [fun v=>v 0=.pointer (some ⟨b2,0,none⟩),fun v=>v 1=.agg (av n.me),fun v=>v 2=.agg (au z.me z.pr ws wf),fun v=>v 3=.agg (av (j2 n.me z)),fun v=>v 4=.pointer (some ⟨b3,0,none⟩),fun v=>v 5=.agg (av z.me),fun _=>True,fun v=>v 7=.pointer (some ⟨b3,66,none⟩),fun v=>v 8=ws,fun _=>True,fun _=>True] [.blk b4 (.cells (au ap ap aU aU) 42),.blk b3 (.cells (au z.me z.pr ws wf) 42),.blk b2 (.cells (au n.me n.pr vs vf) 42)] h s rfl (by kernel_rfl) (by kernel_rfl) (by kernel_rfl) (And.intro ?_ (And.intro ?_ (And.intro ?_ (And.intro ?_ (And.intro ?_ (And.intro ?_ (And.intro ?_ (And.intro ?_ (And.intro ?_ (trivial)))))))))) [0,1,2,3,4,5,6,7,8] (by kernel_rfl) ?_
   ·intro f9 w2 vl3 E9 hs9 hd9 hl hF s
    have e2:f9.tmps.getD 2 undef=_:=cK hl 2 (by kernel_rfl) (by kernel_rfl) (h.holds 2 _ rfl)
    have h:=aB [(2,_)] (hs9.trans h.size) (hd9.trans h.defers) (holds_lk ⟨e2,trivial⟩)
    replace s:St w (.blk b4 (.cells (au ap ap aU aU) 42)::.blk b3 (.cells (au z.me z.pr ws wf) 42)::.blk b2 (.cells (au n.me n.pr vs vf) 42)::E9) _:=s
    refine ac h (aq bA (h.ev rfl)) rfl ?_;intro f h
    exact ai ⟨_,a6 18 rfl (h.holds 18 _ rfl),rfl,s⟩
   ·intro f9 w2 vl3 E9 hs9 hd9 hl hF s
    have e18:f9.tmps.getD 18 undef=.pointer (some ⟨b2,0,none⟩):=(bc hl 18 0 (by kernel_rfl) (by kernel_rfl)).trans (hF 0 (by decide))
    have h:=aB [(18,.pointer (some ⟨b2,0,none⟩))] (hs9.trans h.size) (hd9.trans h.defers) (holds_lk ⟨e18,trivial⟩)
    replace s:St w (.blk b4 (.cells (au ap ap aU aU) 42)::.blk b3 (.cells (au z.me z.pr ws wf) 42)::.blk b2 (.cells (au n.me n.pr vs vf) 42)::E9) _:=s
    refine aI (bq.subL (bq.of_own s 2 rfl) 0 33 (D:=av n.me) (bZ _ _ _ _)) h aJ rfl (al _) rfl ?_;intro f h
    exact ai ⟨_,a6 19 rfl (h.holds 19 _ rfl),rfl,s⟩
   ·intro f9 w2 vl3 E9 hs9 hd9 hl hF s
    have e3:f9.tmps.getD 3 undef=_:=cK hl 3 (by kernel_rfl) (by kernel_rfl) (h.holds 3 _ rfl)
    have h:=aB [(3,_)] (hs9.trans h.size) (hd9.trans h.defers) (holds_lk ⟨e3,trivial⟩)
    replace s:St w (.blk b4 (.cells (au ap ap aU aU) 42)::.blk b3 (.cells (au z.me z.pr ws wf) 42)::.blk b2 (.cells (au n.me n.pr vs vf) 42)::E9) _:=s
    refine ay 1 h s bw rfl rfl (aw _ _ _ _) rfl ?_;intro f h
    exact ai ⟨_,a6 20 rfl (h.holds 20 _ rfl),rfl,s⟩
   ·intro f9 w2 vl3 E9 hs9 hd9 hl hF s
    have e19:f9.tmps.getD 19 undef=.agg (av n.me):=(bc hl 19 1 (by kernel_rfl) (by kernel_rfl)).trans (hF 1 (by decide))
    have e20:f9.tmps.getD 20 undef=.agg (au z.me z.pr ws wf):=(bc hl 20 2 (by kernel_rfl) (by kernel_rfl)).trans (hF 2 (by decide))
    have h:=aB [(19,.agg (av n.me)),(20,.agg (au z.me z.pr ws wf))] (hs9.trans h.size) (hd9.trans h.defers) (holds_lk ⟨e19,e20,trivial⟩)
    replace s:St w (.blk b4 (.cells (au ap ap aU aU) 42)::.blk b3 (.cells (au z.me z.pr ws wf) 42)::.blk b2 (.cells (au n.me n.pr vs vf) 42)::E9) _:=s
    refine aK h s Ag (te n.me z ws wf _) rfl rfl ?_;intro f w1 v9 hT hE h s;obtain rfl:=hT
    exact ai ⟨_,a6 21 rfl (h.holds 21 _ rfl),rfl,s⟩
   ·intro f9 w2 vl3 E9 hs9 hd9 hl hF s
    have e3:f9.tmps.getD 3 undef=_:=cK hl 3 (by kernel_rfl) (by kernel_rfl) (h.holds 3 _ rfl)
    have h:=aB [(3,_)] (hs9.trans h.size) (hd9.trans h.defers) (holds_lk ⟨e3,trivial⟩)
    replace s:St w (.blk b4 (.cells (au ap ap aU aU) 42)::.blk b3 (.cells (au z.me z.pr ws wf) 42)::.blk b2 (.cells (au n.me n.pr vs vf) 42)::E9) _:=s
    refine ac h (aq bA (h.ev rfl)) rfl ?_;intro f h
    exact ai ⟨_,a6 22 rfl (h.holds 22 _ rfl),rfl,s⟩
   ·intro f9 w2 vl3 E9 hs9 hd9 hl hF s
    have e22:f9.tmps.getD 22 undef=.pointer (some ⟨b3,0,none⟩):=(bc hl 22 4 (by kernel_rfl) (by kernel_rfl)).trans (hF 4 (by decide))
    have h:=aB [(22,.pointer (some ⟨b3,0,none⟩))] (hs9.trans h.size) (hd9.trans h.defers) (holds_lk ⟨e22,trivial⟩)
    replace s:St w (.blk b4 (.cells (au ap ap aU aU) 42)::.blk b3 (.cells (au z.me z.pr ws wf) 42)::.blk b2 (.cells (au n.me n.pr vs vf) 42)::E9) _:=s
    refine aI (bq.subL (bq.of_own s 1 rfl) 0 33 (D:=av z.me) (bZ _ _ _ _)) h aJ rfl (al _) rfl ?_;intro f h
    exact ai ⟨_,a6 23 rfl (h.holds 23 _ rfl),rfl,s⟩
   ·intro f9 w2 vl3 E9 hs9 hd9 hl hF s
    have e21:f9.tmps.getD 21 undef=.agg (av (j2 n.me z)):=(bc hl 21 3 (by kernel_rfl) (by kernel_rfl)).trans (hF 3 (by decide))
    have e23:f9.tmps.getD 23 undef=.agg (av z.me):=(bc hl 23 5 (by kernel_rfl) (by kernel_rfl)).trans (hF 5 (by decide))
    have h:=aB [(21,.agg (av (j2 n.me z))),(23,.agg (av z.me))] (hs9.trans h.size) (hd9.trans h.defers) (holds_lk ⟨e21,e23,trivial⟩)
    replace s:St w (.blk b4 (.cells (au ap ap aU aU) 42)::.blk b3 (.cells (au z.me z.pr ws wf) 42)::.blk b2 (.cells (au n.me n.pr vs vf) 42)::E9) _:=s
    refine cW (vs:=[.agg (av (j2 n.me z)),.agg (av z.me)]) [.tmp 21,.tmp 23] h s Tryz.underlying36 dY rfl rfl (by intro v hv9;simp only [List.mem_cons,List.not_mem_nil,or_false] at hv9;rcases hv9 with rfl|rfl<;>exact al _) rfl rfl rfl ?_;intro f w1 v24 h s
    replace s:=s.resl (m:=2) (ys:=am [j2 n.me z,z.me]) 0 rfl rfl (by simp [am,av,Value.cells])
    exact ai ⟨_,a6 24 rfl (h.holds 24 _ rfl),trivial,s⟩
   ·intro f9 w2 vl3 E9 hs9 hd9 hl hF s
    have e3:f9.tmps.getD 3 undef=_:=cK hl 3 (by kernel_rfl) (by kernel_rfl) (h.holds 3 _ rfl)
    have h:=aB [(3,_)] (hs9.trans h.size) (hd9.trans h.defers) (holds_lk ⟨e3,trivial⟩)
    replace s:St w (.blk b4 (.cells (au ap ap aU aU) 42)::.blk b3 (.cells (au z.me z.pr ws wf) 42)::.blk b2 (.cells (au n.me n.pr vs vf) 42)::E9) _:=s
    refine ac h (aq cC (h.ev rfl)) rfl ?_;intro f h
    exact ai ⟨_,a6 25 rfl (h.holds 25 _ rfl),rfl,s⟩
   ·intro f9 w2 vl3 E9 hs9 hd9 hl hF s
    have e25:f9.tmps.getD 25 undef=.pointer (some ⟨b3,66,none⟩):=(bc hl 25 7 (by kernel_rfl) (by kernel_rfl)).trans (hF 7 (by decide))
    have h:=aB [(25,.pointer (some ⟨b3,66,none⟩))] (hs9.trans h.size) (hd9.trans h.defers) (holds_lk ⟨e25,trivial⟩)
    replace s:St w (.blk b4 (.cells (au ap ap aU aU) 42)::.blk b3 (.cells (au z.me z.pr ws wf) 42)::.blk b2 (.cells (au n.me n.pr vs vf) 42)::E9) _:=s
    refine aC (V:=ws) (ax (bq.of_own s 1 rfl) 66 (c7 _ _ _ _)) h cf rfl rfl ?_;intro f h
    exact ai ⟨_,a6 26 rfl (h.holds 26 _ rfl),rfl,s⟩
   intro f w1 vl3 hs9 hd9 hv hr hF s
   replace hv:=fun i d h9=>hv i d (show Nat.blt i 9=true from h9)
   replace h:=qJ 9 (ops:=_) [(18,.pointer (some ⟨b2,0,none⟩)),(19,.agg (av n.me)),(20,.agg (au z.me z.pr ws wf)),(21,.agg (av (j2 n.me z))),(22,.pointer (some ⟨b3,0,none⟩)),(23,.agg (av z.me)),(24,(vl3 6)),(25,.pointer (some ⟨b3,66,none⟩)),(26,ws)] h hs9 hd9 hr ⟨(hv 0 18 rfl rfl).trans (hF 0 (by kernel_rfl)),(hv 1 19 rfl rfl).trans (hF 1 (by kernel_rfl)),(hv 2 20 rfl rfl).trans (hF 2 (by kernel_rfl)),(hv 3 21 rfl rfl).trans (hF 3 (by kernel_rfl)),(hv 4 22 rfl rfl).trans (hF 4 (by kernel_rfl)),(hv 5 23 rfl rfl).trans (hF 5 (by kernel_rfl)),hv 6 24 rfl rfl,(hv 7 25 rfl rfl).trans (hF 7 (by kernel_rfl)),(hv 8 26 rfl rfl).trans (hF 8 (by kernel_rfl)),trivial⟩ (by kernel_rfl)
   replace s:St w [.sl (vl3 6) 28 33 2 (am [j2 n.me z,z.me]),.blk b4 (.cells (au ap ap aU aU) 42),.blk b3 (.cells (au z.me z.pr ws wf) 42),.blk b2 (.cells (au n.me n.pr vs vf) 42)] _:=s
   refine eS 0 (hZs.keep s.ext) h s Tryz.underlying36 dY rfl rfl rfl (ez _) (by unfold maxLen;omega) (by omega) rfl ?_;intro f w1 v27 h s
   replace s:=s.resl (m:=(dQ n z).length) (ys:=am (dQ n z)) 0 rfl (by show 2+z.sc.length=z.sc.length+1+1;omega) (dl _ _).symm
   refine ac h (aj (h.ev rfl)) rfl ?_;intro f h
   refine ai ?_
   refine hK6 _ _ ?_
   refine ak fun K7 hK7=>?_
   refine ag ?_
   refine bi (#[.slice none 0 0]) h s qM rfl rfl ?_;intro f w1 b7 h s
   refine ai ?_
   refine hK7 _ _ ?_
   refine ak fun K8 hK8=>?_
   refine ak fun K9 hK9=>?_
   refine ag ?_
   replace s:=s.nilSl 28 33
   refine ac h (aq bA (h.ev rfl)) rfl ?_;intro f h
   refine ac h (aq aP (h.ev rfl)) rfl ?_;intro f h
   refine aC (ax (bq.of_own s 5 rfl) 0 (dz _ _ _ _)) h bV rfl rfl ?_;intro f h
   refine ac h (ah (h.ev rfl)) rfl ?_;intro f h
   refine cV [.int .i64 n.me.1,v27] h A5 (wl n.me.1 (dQ n z) v27 _ _ _ s (bO.of_own (s.getSl 2 rfl))) rfl rfl ?_;rintro f w1 r ⟨bs,bn,rfl,s⟩ h
   replace s:=s.sel [0,1,4,2,3,5,6,7] rfl (by decide)
   refine ai ?_
   refine hK9 _ _ ?_
   refine wpIn_block ?_
   refine dJ (fun d A9=>∃ v8:Value,A9=[.sl v8 28 33 (fu ((c5 n.me.1 (dQ n z)).take d)).length (am (fu ((c5 n.me.1 (dQ n z)).take d))),.blk b7 (.cells #[v8] 36),.blk b4 (.cells (au ap ap aU aU) 42),.blk b3 (.cells (au z.me z.pr ws wf) 42),.blk b2 (.cells (au n.me n.pr vs vf) 42)]) [.sl (Value.slice none 0 0) 28 33 0 [],.blk b7 (.cells #[(Value.slice none 0 0)] 36),.blk b4 (.cells (au ap ap aU aU) 42),.blk b3 (.cells (au z.me z.pr ws wf) 42),.blk b2 (.cells (au n.me n.pr vs vf) 42)] [.blk bs (.cells #[v27] 36),.blk bn (.cells #[.int .i64 n.me.1] 3),.sl v27 28 33 (dQ n z).length (am (dQ n z))] ((c5 n.me.1 (dQ n z)).length) (fun _=>false) (fun d=>[Value.agg (av ((c5 n.me.1 (dQ n z)).getD d ap))]) h s rfl AT (List.Perm.refl _) (⟨_,rfl⟩) (fun _=>rfl) ?_ ?_ ?_ ?_
   ·intro lp w2 GG g0 hg0 s2 hY;exact tC n.me.1 (dQ n z) (by show z.sc.length+1+1≤1000;omega) v27 lp bs bn (fun _=>false) GG g0 w w2 s2 hg0 hY
   ·intro lp D9 d9 rc R9 A9 w2 hd9 hq9 hJ9 s
    obtain ⟨v8,rfl⟩:=hJ9
    have h:=Sl.round1 (p:=33) (V:=.agg (av ((c5 n.me.1 (dQ n z)).getD d9 ap))) h rfl
    refine ag ?_
    refine bi (av ap) h s cF rfl rfl ?_;intro f w1 b8 h s
    refine aA 0 h s aJ rfl rfl rfl (al _) (al _) (aX _) ?_;intro w1 s
    refine ai ?_
    refine ca ?_
    refine ⟨_,s.perm (List.perm_middle (l₁:=[_])),fun w3 s=>?_⟩
    refine wpIn_block ?_
    refine ak fun K10 hK10=>?_
    cases g0:(decide ((fu ((c5 n.me.1 (dQ n z)).take d9)).length<4):Bool)
    ·skip
     refine ag ?_
     refine bX 4 h s cf rfl rfl (rfl) rfl ?_;intro f h
     refine da 3 h s Tryz.underlying36 rfl rfl rfl ?_;intro f h
     refine ac h (aE (.bool false) (cc (h.ev rfl) (h.ev rfl)) (congrArg Value.bool (decide_eq_false (by have:=of_decide_eq_false g0;omega)))) rfl ?_;intro f h
     refine ac h (ah (h.ev rfl)) rfl ?_;intro f h
     refine aY (b:=true) h rfl rfl rfl rfl ?_;intro f h
     refine aY (b:=true) h rfl rfl rfl rfl ?_;intro f h
     refine aY (b:=true) h rfl rfl rfl rfl ?_;intro f h
     refine aY (b:=true) h rfl rfl rfl rfl ?_;intro f h
     refine aY (b:=true) h rfl rfl rfl rfl ?_;intro f h
     refine ac h (aL (h.ev rfl) (h.ev rfl)) rfl ?_;intro f h
     refine ai ?_
     refine hK10 _ _ ?_
     refine wpIn_cond_false (h.ev rfl) ?_
     refine wpIn_skip ?_
     refine bH ?_
     replace s:=s.resl (m:=(fu ((c5 n.me.1 (dQ n z)).take (d9+1))).length) (ys:=am (fu ((c5 n.me.1 (dQ n z)).take (d9+1)))) 3 rfl (by rw [ij hd9,qU (of_decide_eq_false g0)]) (by rw [ij hd9,qU (of_decide_eq_false g0)])
     refine ⟨rfl,_,⟨v8,rfl⟩,s.pick _ ?_⟩
     exact List.Sublist.cons_cons _ (List.Sublist.cons _ (List.Sublist.refl _))
    ·skip
     cases g1:(jK (fu ((c5 n.me.1 (dQ n z)).take d9)) ((c5 n.me.1 (dQ n z)).getD d9 ap).1:Bool)
     ·skip
      refine ag ?_
      refine bX 4 h s cf rfl rfl (rfl) rfl ?_;intro f h
      refine da 3 h s Tryz.underlying36 rfl rfl rfl ?_;intro f h
      refine ac h (aE (.bool true) (cc (h.ev rfl) (h.ev rfl)) (congrArg Value.bool (decide_eq_true (by have:=of_decide_eq_true g0;omega)))) rfl ?_;intro f h
      refine ac h (ah (h.ev rfl)) rfl ?_;intro f h
      refine a2 h rfl rfl rfl ?_
      refine bX 4 h s cf rfl rfl (rfl) rfl ?_;intro f h
      refine a2 h rfl rfl rfl ?_
      refine ac h (aq aP (h.ev rfl)) rfl ?_;intro f h
      refine a2 h rfl rfl rfl ?_
      refine aC (ax (bq.of_own s 1 rfl) 0 (aV _)) h bV rfl rfl ?_;intro f h
      refine a2 h rfl rfl rfl ?_
      refine aK h s vC (aT (.bool false) (jS (fu ((c5 n.me.1 (dQ n z)).take d9)) v8 ((c5 n.me.1 (dQ n z)).getD d9 ap).1 _ (bO.of_own (s.getSl 3 rfl)) (by have:=pq ((c5 n.me.1 (dQ n z)).take d9);omega)) (congrArg Value.bool g1)) rfl rfl ?_;intro f w1 v9 hT hE h s;obtain rfl:=hT
      refine a2 h rfl rfl rfl ?_
      refine ac h (aE (.bool true) (bI (h.ev rfl)) rfl) rfl ?_;intro f h
      refine ac h (aO (h.ev rfl) (h.ev rfl)) rfl ?_;intro f h
      refine ai ?_
      refine hK10 _ _ ?_
      refine wpIn_cond_true (h.ev rfl) ?_
      refine ag ?_
      refine bX 4 h s cf rfl rfl (rfl) rfl ?_;intro f h
      refine ay 1 h s aJ rfl rfl (al _) rfl ?_;intro f h
      refine cW (vs:=[.agg (av ((c5 n.me.1 (dQ n z)).getD d9 ap))]) [.tmp 45] h s Tryz.underlying36 dY rfl rfl (jb _) rfl rfl rfl ?_;intro f w1 v46 h s
      refine eR 4 0 h s Tryz.underlying36 dY rfl rfl rfl rfl (by decide) (by rw [eY];exact aX _) (by have:=pq ((c5 n.me.1 (dQ n z)).take d9);unfold maxLen;omega) (by have:=pq ((c5 n.me.1 (dQ n z)).take d9);omega) rfl ?_;intro f w1 v47 h s
      replace s:=s.pick _ (List.sublist_cons_self _ _)
      refine bk 4 h s cf rfl rfl rfl (by simp) (bo (s.getSl 3 rfl)) ?_;intro w1 s
      refine ai ?_
      refine bH ?_
      replace s:=s.resl (m:=(fu ((c5 n.me.1 (dQ n z)).take (d9+1))).length) (ys:=am (fu ((c5 n.me.1 (dQ n z)).take (d9+1)))) 3 rfl (by rw [ij hd9,yN (of_decide_eq_true g0) g1,List.length_append];rfl) (by rw [ij hd9,yN (of_decide_eq_true g0) g1,eY,k4])
      refine ⟨rfl,_,⟨v47,rfl⟩,s.pick _ ?_⟩
      exact List.Sublist.cons_cons _ (List.Sublist.cons _ (List.Sublist.refl _))
     ·skip
      refine ag ?_
      refine bX 4 h s cf rfl rfl (rfl) rfl ?_;intro f h
      refine da 3 h s Tryz.underlying36 rfl rfl rfl ?_;intro f h
      refine ac h (aE (.bool true) (cc (h.ev rfl) (h.ev rfl)) (congrArg Value.bool (decide_eq_true (by have:=of_decide_eq_true g0;omega)))) rfl ?_;intro f h
      refine ac h (ah (h.ev rfl)) rfl ?_;intro f h
      refine a2 h rfl rfl rfl ?_
      refine bX 4 h s cf rfl rfl (rfl) rfl ?_;intro f h
      refine a2 h rfl rfl rfl ?_
      refine ac h (aq aP (h.ev rfl)) rfl ?_;intro f h
      refine a2 h rfl rfl rfl ?_
      refine aC (ax (bq.of_own s 1 rfl) 0 (aV _)) h bV rfl rfl ?_;intro f h
      refine a2 h rfl rfl rfl ?_
      refine aK h s vC (aT (.bool true) (jS (fu ((c5 n.me.1 (dQ n z)).take d9)) v8 ((c5 n.me.1 (dQ n z)).getD d9 ap).1 _ (bO.of_own (s.getSl 3 rfl)) (by have:=pq ((c5 n.me.1 (dQ n z)).take d9);omega)) (congrArg Value.bool g1)) rfl rfl ?_;intro f w1 v9 hT hE h s;obtain rfl:=hT
      refine a2 h rfl rfl rfl ?_
      refine ac h (aE (.bool false) (bI (h.ev rfl)) rfl) rfl ?_;intro f h
      refine ac h (aO (h.ev rfl) (h.ev rfl)) rfl ?_;intro f h
      refine ai ?_
      refine hK10 _ _ ?_
      refine wpIn_cond_false (h.ev rfl) ?_
      refine wpIn_skip ?_
      refine bH ?_
      replace s:=s.resl (m:=(fu ((c5 n.me.1 (dQ n z)).take (d9+1))).length) (ys:=am (fu ((c5 n.me.1 (dQ n z)).take (d9+1)))) 3 rfl (by rw [ij hd9,uq g1]) (by rw [ij hd9,uq g1])
      refine ⟨rfl,_,⟨v8,rfl⟩,s.pick _ ?_⟩
      exact List.Sublist.cons_cons _ (List.Sublist.cons _ (List.Sublist.refl _))
   ·intro D9 A9 w2 hJ9 hq9 s
    obtain ⟨v8,rfl⟩:=hJ9
    replace h:Sl _ {f with defers:={target:=.collected D9,args:=#[]}::f.defers} _ [{target:=.collected D9,args:=#[]}]:=⟨h.size,by rw [h.defers],h.holds⟩
    rw [List.take_length] at s
    refine bH ?_
    refine hK8 _ _ ?_
    refine ak fun K11 hK11=>?_
    refine ag ?_
    refine ay 8 h s bw rfl rfl (aw _ _ _ _) rfl ?_;intro f h
    refine aK h s uC (iS n vs vf _ (hRs.keep s.ext) (hRf.keep s.ext) (by omega) (by omega)) rfl rfl ?_;rintro f w1 v49 ⟨us,uf,rfl,hS⟩ hE h sq;replace s:=s.add hS
    refine aA 10 h s bw rfl rfl rfl (aw _ _ _ _) (aw _ _ _ _) (br (bo (s.getSl 0 rfl)) (bo (s.getSl 1 rfl))) ?_;intro w1 s
    refine ai ?_
    refine hK11 _ _ ?_
    refine ak fun K12 hK12=>?_
    refine ag ?_
    refine bX 7 h s cf rfl rfl (rfl) rfl ?_;intro f h
    refine ac h (aq bA (h.ev rfl)) rfl ?_;intro f h
    refine aI (bq.subL (bq.of_own s 10 rfl) 0 33 (D:=av n.me) (bZ _ _ _ _)) h aJ rfl (al _) rfl ?_;intro f h
    replace s:=(s.sel [6,0,1,2,3,4,5,7,8,9,10] rfl (by decide))
    refine cV [v8,.agg (av n.me)] h uz (kr (fu (c5 n.me.1 (dQ n z))) v8 n.me _ _ _ s) rfl rfl ?_;rintro f w1 v53 s h
    refine ac h (aq cC (h.ev rfl)) rfl ?_;intro f h
    refine bk 10 h s cf rfl rfl rfl (by rw [aw];omega) (bo (s.getSl 0 rfl)) ?_;intro w1 s
    replace s:=s.recell (D:=au n.me n.pr v53 uf) 10 rfl (gR _ _ _ _ _)
    refine ai ?_
    refine hK12 _ _ ?_
    refine ak fun K13 hK13=>?_
    refine ag ?_
    refine ay 10 h s bw rfl rfl (aw _ _ _ _) rfl ?_;intro f h
    refine aA 8 h s bw rfl rfl rfl (aw _ _ _ _) (aw _ _ _ _) (br (bo (s.getSl 0 rfl)) (bo (s.getSl 2 rfl))) ?_;intro w1 s
    refine ac h (aj (h.ev rfl)) rfl ?_;intro f h
    refine ai ?_
    refine hK13 _ _ ?_
    refine wpIn_ret ?_
    exact jA 8 3 rfl h s bw rfl rfl rfl rfl (aw _ _ _ _) (fun w9 s9=>gr (rU hrt hz).1 (rU hrt hz).2 (s9.sel [0,2] rfl (by decide)))
   ·intro D9 d9 A9 w2 hd9 hqd9 hq9 hJ9 s
    cases hqd9
end Go.Proofs.YthggibfkgofncaaGreat
