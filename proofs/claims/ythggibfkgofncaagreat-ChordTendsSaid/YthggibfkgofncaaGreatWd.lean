/- What Drop, Notify and Follow of package node answer. -/
import Derived.Test.YthggibfkgofncaaGreatVj
import Derived.Test.YthggibfkgofncaaGreatWz
set_option linter.unusedVariables false
set_option linter.unusedSimpArgs false
set_option linter.unusedSectionVars false
namespace Go.Proofs.YthggibfkgofncaaGreat
open Go.RowKit
theorem nr (n:Nd) (vs vf:Value) (x:Mb) (w:World) (hRs:bq w vs 33 n.sc.length (ap n.sc)) (hRf:bq w vf 33 n.fg.length (ap n.fg)) (hns:n.sc.length≤1000) (hnf:n.fg.length≤1000):Calls Tryz.prog 91 [.agg (aC n.me n.pr vs vf),.agg (aw x)].toArray w (cU w (rK w 28 (Bv n x) (BY n x))):=by
 refine bp Tryz.func91 rfl Tryz.ntmps91 rfl [(0,.agg (aC n.me n.pr vs vf)),(1,.agg (aw x))] (by simp) fun f h=>?_
 have s:=St.start w
 refine al fun K1 hK1=>?_
 refine ae ?_
 refine bV (aC n.me n.pr vs vf) h s rfl rfl rfl ?_;intro f w1 b2 h s
 refine bV ((aw x)) h s rfl rfl rfl ?_;intro f w1 b3 h s
 refine bj (aC aT aT a8 a8) h s ea rfl rfl ?_;intro f w1 b4 h s
 refine ac h (aj (h.ev rfl)) rfl ?_;intro f h
 refine ah ?_
 refine hK1 _ _ ?_
 refine al fun K2 hK2=>?_
 refine al fun K3 hK3=>?_
 cases hr:(cy n:Bool)
 ·skip
  refine ae ?_
  refine ar 2 h s aZ rfl rfl (aq _ _ _ _) rfl ?_;intro f h
  refine aH h s gA (aO (.bool false) (dd n vs vf _ (hRs.keep s.ext) (hRf.keep s.ext) hns hnf) (congrArg Value.bool hr)) rfl rfl ?_;intro f w1 v9 hT hE h s;obtain rfl:=hT
  refine ac h (av (.bool true) (bh (h.ev rfl)) rfl) rfl ?_;intro f h
  refine ac h (ag (h.ev rfl)) rfl ?_;intro f h
  refine aA (b:=false) h rfl rfl rfl rfl ?_;intro f h
  refine aA (b:=false) h rfl rfl rfl rfl ?_;intro f h
  refine aA (b:=false) h rfl rfl rfl rfl ?_;intro f h
  refine ac h (aI (h.ev rfl) (h.ev rfl)) rfl ?_;intro f h
  refine ah ?_
  refine hK3 _ _ ?_
  refine wpIn_cond_true (h.ev rfl) ?_
  refine al fun K4 hK4=>?_
  refine ae ?_
  refine ac h (eC qt) rfl ?_;intro f h
  refine ax 0 h s aZ rfl rfl rfl (aq _ _ _ _) (aq _ _ _ _) (a7 (rfl) (rfl)) ?_;intro w1 s
  refine ac h (aj (h.ev rfl)) rfl ?_;intro f h
  refine ah ?_
  refine hK4 _ _ ?_
  refine wpIn_ret ?_
  refine aW ?_
  exact ct 0 rfl h s aZ rfl rfl (aq _ _ _ _) rfl (kO s (xN hr).1 (xN hr).2)
 ·skip
  cases hx:(dT x:Bool)
  ·skip
   refine ae ?_
   refine ar 2 h s aZ rfl rfl (aq _ _ _ _) rfl ?_;intro f h
   refine aH h s gA (aO (.bool true) (dd n vs vf _ (hRs.keep s.ext) (hRf.keep s.ext) hns hnf) (congrArg Value.bool hr)) rfl rfl ?_;intro f w1 v9 hT hE h s;obtain rfl:=hT
   refine ac h (av (.bool false) (bh (h.ev rfl)) rfl) rfl ?_;intro f h
   refine ac h (ag (h.ev rfl)) rfl ?_;intro f h
   refine az h rfl rfl rfl ?_
   refine ar 1 h s aL rfl rfl (ak _) rfl ?_;intro f h
   refine az h rfl rfl rfl ?_
   refine aH h s gi (aO (.bool false) (dK x _) (congrArg Value.bool hx)) rfl rfl ?_;intro f w1 v9 hT hE h s;obtain rfl:=hT
   refine az h rfl rfl rfl ?_
   refine ac h (av (.bool true) (bh (h.ev rfl)) rfl) rfl ?_;intro f h
   refine ac h (aG (h.ev rfl) (h.ev rfl)) rfl ?_;intro f h
   refine ah ?_
   refine hK3 _ _ ?_
   refine wpIn_cond_true (h.ev rfl) ?_
   refine al fun K5 hK5=>?_
   refine ae ?_
   refine ac h (eC qt) rfl ?_;intro f h
   refine ax 0 h s aZ rfl rfl rfl (aq _ _ _ _) (aq _ _ _ _) (a7 (rfl) (rfl)) ?_;intro w1 s
   refine ac h (aj (h.ev rfl)) rfl ?_;intro f h
   refine ah ?_
   refine hK5 _ _ ?_
   refine wpIn_ret ?_
   refine aW ?_
   exact ct 0 rfl h s aZ rfl rfl (aq _ _ _ _) rfl (kO s (wC hx).1 (wC hx).2)
  ·skip
   refine ae ?_
   refine ar 2 h s aZ rfl rfl (aq _ _ _ _) rfl ?_;intro f h
   refine aH h s gA (aO (.bool true) (dd n vs vf _ (hRs.keep s.ext) (hRf.keep s.ext) hns hnf) (congrArg Value.bool hr)) rfl rfl ?_;intro f w1 v9 hT hE h s;obtain rfl:=hT
   refine ac h (av (.bool false) (bh (h.ev rfl)) rfl) rfl ?_;intro f h
   refine ac h (ag (h.ev rfl)) rfl ?_;intro f h
   refine az h rfl rfl rfl ?_
   refine ar 1 h s aL rfl rfl (ak _) rfl ?_;intro f h
   refine az h rfl rfl rfl ?_
   refine aH h s gi (aO (.bool true) (dK x _) (congrArg Value.bool hx)) rfl rfl ?_;intro f w1 v9 hT hE h s;obtain rfl:=hT
   refine az h rfl rfl rfl ?_
   refine ac h (av (.bool false) (bh (h.ev rfl)) rfl) rfl ?_;intro f h
   refine ac h (aG (h.ev rfl) (h.ev rfl)) rfl ?_;intro f h
   refine ah ?_
   refine hK3 _ _ ?_
   refine wpIn_cond_false (h.ev rfl) ?_
   refine wpIn_skip ?_
   refine hK2 _ _ ?_
   refine al fun K6 hK6=>?_
   refine ae ?_
   refine ar 2 h s aZ rfl rfl (aq _ _ _ _) rfl ?_;intro f h
   refine aH h s x5 (ju n vs vf _ (hRs.keep s.ext) (hRf.keep s.ext) hns hnf) rfl rfl ?_;rintro f w1 v17 ⟨us,uf,rfl,hS⟩ hE h sq;replace s:=s.add hS
   refine ax 4 h s aZ rfl rfl rfl (aq _ _ _ _) (aq _ _ _ _) (a7 (aX (s.getSl 0 rfl)) (aX (s.getSl 1 rfl))) ?_;intro w1 s
   refine ah ?_
   refine hK6 _ _ ?_
   refine al fun K7 hK7=>?_
   cases g0:(decide (x.1≠n.me.1):Bool)
   ·skip
    refine ae ?_
    refine ac h (ai aJ (h.ev rfl)) rfl ?_;intro f h
    refine au (am (aU.of_own s 3 rfl) 0 (aP _)) h bz rfl rfl ?_;intro f h
    refine ac h (ai aR (h.ev rfl)) rfl ?_;intro f h
    refine ac h (ai aJ (h.ev rfl)) rfl ?_;intro f h
    refine au (am (aU.of_own s 4 rfl) 0 (bO _ _ _ _)) h bz rfl rfl ?_;intro f h
    refine ac h (av (.bool false) (c3 (h.ev rfl) (h.ev rfl)) (congrArg Value.bool g0)) rfl ?_;intro f h
    refine ac h (ag (h.ev rfl)) rfl ?_;intro f h
    refine aA (b:=true) h rfl rfl rfl rfl ?_;intro f h
    refine aA (b:=true) h rfl rfl rfl rfl ?_;intro f h
    refine aA (b:=true) h rfl rfl rfl rfl ?_;intro f h
    refine aA (b:=true) h rfl rfl rfl rfl ?_;intro f h
    refine aA (b:=true) h rfl rfl rfl rfl ?_;intro f h
    refine aA (b:=true) h rfl rfl rfl rfl ?_;intro f h
    refine ac h (aG (h.ev rfl) (h.ev rfl)) rfl ?_;intro f h
    refine ac h (aj (h.ev rfl)) rfl ?_;intro f h
    refine ah ?_
    refine hK7 _ _ ?_
    refine al fun K8 hK8=>?_
    refine al fun K9 hK9=>?_
    refine bI 18 [[],[0],[0,1],[0,1,2],[0,1],[0,1,2,3,4],[0,1,2,3,4,5],[0,1,2,3,4,5,6],[0,1,2,3,4,5,6,7],[0,1,2,3,4,5,6],[0,1,2,3,4,5,6,9],[0,1,2,3,4,5,6,9,10],[0,1,2,3,4,5,6],[0,1,2,3,4,5,6,12],[0,1,2,3,4,5,6,12,13],[0,1,2,3,4,5,6,7,8,9,10,11,12,13,14],[0,1,2,3,4,5,6,7,8,9,10,11,12,13,14,15],[0,1,2,3,4,5,6,7,8,9,10,11,12,13,14,15,16]] h (by kernel_rfl) (by kernel_rfl) (by kernel_rfl) ?_
    refine ao h (ag (h.ev rfl)) rfl ?_;intro f h
    refine ao h (ag (h.ev rfl)) rfl ?_;intro f h
    refine aY (b:=true) h rfl rfl rfl rfl ?_;intro f h
    refine aY (b:=true) h rfl rfl rfl rfl ?_;intro f h
    refine aY (b:=true) h rfl rfl rfl rfl ?_;intro f h
    refine aY (b:=true) h rfl rfl rfl rfl ?_;intro f h
    refine aY (b:=true) h rfl rfl rfl rfl ?_;intro f h
    refine cO h rfl rfl rfl rfl ?_;intro f h
    refine cO h rfl rfl rfl rfl ?_;intro f h
    refine cO h rfl rfl rfl rfl ?_;intro f h
    refine cO h rfl rfl rfl rfl ?_;intro f h
    refine cO h rfl rfl rfl rfl ?_;intro f h
    refine cO h rfl rfl rfl rfl ?_;intro f h
    refine cO h rfl rfl rfl rfl ?_;intro f h
    refine cO h rfl rfl rfl rfl ?_;intro f h
    refine cO h rfl rfl rfl rfl ?_;intro f h
    refine aY (b:=true) h rfl rfl rfl rfl ?_;intro f h
    refine ao h (aG (h.ev rfl) (h.ev rfl)) rfl ?_;intro f h
    refine cq s fun w1 s=>?_
    refine ah ?_
    refine hK9 _ _ ?_
    refine wpIn_cond_false (h.ev rfl) ?_
    refine wpIn_skip ?_
    refine hK8 _ _ ?_
    refine al fun K10 hK10=>?_
    refine ae ?_
    refine ar 4 h s aZ rfl rfl (aq _ _ _ _) rfl ?_;intro f h
    refine ax 2 h s aZ rfl rfl rfl (aq _ _ _ _) (aq _ _ _ _) (a7 (aX (s.getSl 0 rfl)) (aX (s.getSl 1 rfl))) ?_;intro w1 s
    refine ac h (aj (h.ev rfl)) rfl ?_;intro f h
    refine ah ?_
    refine hK10 _ _ ?_
    refine wpIn_ret ?_
    exact ct 2 rfl h s aZ rfl rfl (aq _ _ _ _) rfl (gI ((g8 hr hx).1.trans (by rw [xw g0])) (g8 hr hx).2 (s.pick _ (List.Sublist.cons_cons _ (List.Sublist.cons_cons _ (List.Sublist.cons _ (List.Sublist.cons _ (List.Sublist.cons _ (List.nil_sublist _))))))))
   ·skip
    cases g1:(decide (x.2≠n.me.2):Bool)
    ·skip
     refine ae ?_
     refine ac h (ai aJ (h.ev rfl)) rfl ?_;intro f h
     refine au (am (aU.of_own s 3 rfl) 0 (aP _)) h bz rfl rfl ?_;intro f h
     refine ac h (ai aR (h.ev rfl)) rfl ?_;intro f h
     refine ac h (ai aJ (h.ev rfl)) rfl ?_;intro f h
     refine au (am (aU.of_own s 4 rfl) 0 (bO _ _ _ _)) h bz rfl rfl ?_;intro f h
     refine ac h (av (.bool true) (c3 (h.ev rfl) (h.ev rfl)) (congrArg Value.bool g0)) rfl ?_;intro f h
     refine ac h (ag (h.ev rfl)) rfl ?_;intro f h
     refine az h rfl rfl rfl ?_
     refine ac h (ai bW (h.ev rfl)) rfl ?_;intro f h
     refine az h rfl rfl rfl ?_
     refine aB (aU.subL (aU.of_own s 3 rfl) 1 32 (D:=bA (_)) (cj _)) h bP rfl (by first|exact aK _|exact aF _ _) rfl ?_;intro f h
     refine az h rfl rfl rfl ?_
     refine ac h (ai aR (h.ev rfl)) rfl ?_;intro f h
     refine az h rfl rfl rfl ?_
     refine ac h (ai bW (h.ev rfl)) rfl ?_;intro f h
     refine az h rfl rfl rfl ?_
     refine aB (aU.subL (aU.of_own s 4 rfl) 1 32 (D:=bA n.me.2) (da _ _ _ _)) h bP rfl (by first|exact aK _|exact aF _ _) rfl ?_;intro f h
     refine az h rfl rfl rfl ?_
     refine ac h (av (.bool false) (eF fC (h.ev rfl) (h.ev rfl)) (congrArg Value.bool g1)) rfl ?_;intro f h
     refine ac h (aI (h.ev rfl) (h.ev rfl)) rfl ?_;intro f h
     refine ac h (aj (h.ev rfl)) rfl ?_;intro f h
     refine ah ?_
     refine hK7 _ _ ?_
     refine al fun K11 hK11=>?_
     refine al fun K12 hK12=>?_
     refine bI 18 [[],[0],[0,1],[0,1,2],[0,1],[0,1,2,3,4],[0,1,2,3,4,5],[0,1,2,3,4,5,6],[0,1,2,3,4,5,6,7],[0,1,2,3,4,5,6],[0,1,2,3,4,5,6,9],[0,1,2,3,4,5,6,9,10],[0,1,2,3,4,5,6],[0,1,2,3,4,5,6,12],[0,1,2,3,4,5,6,12,13],[0,1,2,3,4,5,6,7,8,9,10,11,12,13,14],[0,1,2,3,4,5,6,7,8,9,10,11,12,13,14,15],[0,1,2,3,4,5,6,7,8,9,10,11,12,13,14,15,16]] h (by kernel_rfl) (by kernel_rfl) (by kernel_rfl) ?_
     refine ao h (ag (h.ev rfl)) rfl ?_;intro f h
     refine ao h (ag (h.ev rfl)) rfl ?_;intro f h
     refine aY (b:=true) h rfl rfl rfl rfl ?_;intro f h
     refine aY (b:=true) h rfl rfl rfl rfl ?_;intro f h
     refine aY (b:=true) h rfl rfl rfl rfl ?_;intro f h
     refine aY (b:=true) h rfl rfl rfl rfl ?_;intro f h
     refine aY (b:=true) h rfl rfl rfl rfl ?_;intro f h
     refine cO h rfl rfl rfl rfl ?_;intro f h
     refine cO h rfl rfl rfl rfl ?_;intro f h
     refine cO h rfl rfl rfl rfl ?_;intro f h
     refine cO h rfl rfl rfl rfl ?_;intro f h
     refine cO h rfl rfl rfl rfl ?_;intro f h
     refine cO h rfl rfl rfl rfl ?_;intro f h
     refine cO h rfl rfl rfl rfl ?_;intro f h
     refine cO h rfl rfl rfl rfl ?_;intro f h
     refine cO h rfl rfl rfl rfl ?_;intro f h
     refine aY (b:=true) h rfl rfl rfl rfl ?_;intro f h
     refine ao h (aG (h.ev rfl) (h.ev rfl)) rfl ?_;intro f h
     refine cq s fun w1 s=>?_
     refine ah ?_
     refine hK12 _ _ ?_
     refine wpIn_cond_false (h.ev rfl) ?_
     refine wpIn_skip ?_
     refine hK11 _ _ ?_
     refine al fun K13 hK13=>?_
     refine ae ?_
     refine ar 4 h s aZ rfl rfl (aq _ _ _ _) rfl ?_;intro f h
     refine ax 2 h s aZ rfl rfl rfl (aq _ _ _ _) (aq _ _ _ _) (a7 (aX (s.getSl 0 rfl)) (aX (s.getSl 1 rfl))) ?_;intro w1 s
     refine ac h (aj (h.ev rfl)) rfl ?_;intro f h
     refine ah ?_
     refine hK13 _ _ ?_
     refine wpIn_ret ?_
     exact ct 2 rfl h s aZ rfl rfl (aq _ _ _ _) rfl (gI ((g8 hr hx).1.trans (by rw [A1 g1])) (g8 hr hx).2 (s.pick _ (List.Sublist.cons_cons _ (List.Sublist.cons_cons _ (List.Sublist.cons _ (List.Sublist.cons _ (List.Sublist.cons _ (List.nil_sublist _))))))))
    ·skip
     refine ae ?_
     refine ac h (ai aJ (h.ev rfl)) rfl ?_;intro f h
     refine au (am (aU.of_own s 3 rfl) 0 (aP _)) h bz rfl rfl ?_;intro f h
     refine ac h (ai aR (h.ev rfl)) rfl ?_;intro f h
     refine ac h (ai aJ (h.ev rfl)) rfl ?_;intro f h
     refine au (am (aU.of_own s 4 rfl) 0 (bO _ _ _ _)) h bz rfl rfl ?_;intro f h
     refine ac h (av (.bool true) (c3 (h.ev rfl) (h.ev rfl)) (congrArg Value.bool g0)) rfl ?_;intro f h
     refine ac h (ag (h.ev rfl)) rfl ?_;intro f h
     refine az h rfl rfl rfl ?_
     refine ac h (ai bW (h.ev rfl)) rfl ?_;intro f h
     refine az h rfl rfl rfl ?_
     refine aB (aU.subL (aU.of_own s 3 rfl) 1 32 (D:=bA (_)) (cj _)) h bP rfl (by first|exact aK _|exact aF _ _) rfl ?_;intro f h
     refine az h rfl rfl rfl ?_
     refine ac h (ai aR (h.ev rfl)) rfl ?_;intro f h
     refine az h rfl rfl rfl ?_
     refine ac h (ai bW (h.ev rfl)) rfl ?_;intro f h
     refine az h rfl rfl rfl ?_
     refine aB (aU.subL (aU.of_own s 4 rfl) 1 32 (D:=bA n.me.2) (da _ _ _ _)) h bP rfl (by first|exact aK _|exact aF _ _) rfl ?_;intro f h
     refine az h rfl rfl rfl ?_
     refine ac h (av (.bool true) (eF fC (h.ev rfl) (h.ev rfl)) (congrArg Value.bool g1)) rfl ?_;intro f h
     refine ac h (aI (h.ev rfl) (h.ev rfl)) rfl ?_;intro f h
     refine ac h (aj (h.ev rfl)) rfl ?_;intro f h
     refine ah ?_
     refine hK7 _ _ ?_
     refine al fun K14 hK14=>?_
     refine al fun K15 hK15=>?_
     cases q0:(decide (n.pr=de):Bool)
     ·skip
      cases q1:(nk x.2 n.pr.2 n.me.2:Bool)
      ·skip
       refine bI 18 [[],[0],[0,1],[0,1,2],[0,1],[0,1,2,3,4],[0,1,2,3,4,5],[0,1,2,3,4,5,6],[0,1,2,3,4,5,6,7],[0,1,2,3,4,5,6],[0,1,2,3,4,5,6,9],[0,1,2,3,4,5,6,9,10],[0,1,2,3,4,5,6],[0,1,2,3,4,5,6,12],[0,1,2,3,4,5,6,12,13],[0,1,2,3,4,5,6,7,8,9,10,11,12,13,14],[0,1,2,3,4,5,6,7,8,9,10,11,12,13,14,15],[0,1,2,3,4,5,6,7,8,9,10,11,12,13,14,15,16]] h (by kernel_rfl) (by kernel_rfl) (by kernel_rfl) ?_
       refine ao h (ag (h.ev rfl)) rfl ?_;intro f h
       refine ao h (ag (h.ev rfl)) rfl ?_;intro f h
       refine aV h rfl rfl rfl ?_
       refine ao h (ai bR (h.ev rfl)) rfl ?_;intro f h
       refine aV h rfl rfl rfl ?_
       refine bk (aU.subL (aU.of_own s 4 rfl) 33 33 (D:=aw n.pr) (cb _ _ _ _)) h aL rfl (ak _) rfl ?_;intro f h
       refine aV h rfl rfl rfl ?_
       refine cm h gb (fun w9 hE9=>dL w9) rfl rfl ?_;intro f h
       refine aV h rfl rfl rfl ?_
       refine ao h (av (.bool false) (cV (g4 _ _) (by kernel_rfl) (by decide) (h.ev rfl) (h.ev rfl) (decide (n.pr=de)) (ee _ _)) (congrArg Value.bool q0)) rfl ?_;intro f h
       refine aV h rfl rfl rfl ?_
       refine ao h (ag (h.ev rfl)) rfl ?_;intro f h
       refine aV h rfl rfl rfl ?_
       refine ao h (ai bW (h.ev rfl)) rfl ?_;intro f h
       refine aV h rfl rfl rfl ?_
       refine bk (aU.subL (aU.of_own s 3 rfl) 1 32 (D:=bA (_)) (cj _)) h bP rfl (by first|exact aK _|exact aF _ _) rfl ?_;intro f h
       refine aV h rfl rfl rfl ?_
       refine ao h (ai bR (h.ev rfl)) rfl ?_;intro f h
       refine aV h rfl rfl rfl ?_
       refine ao h (ai bW (h.ev rfl)) rfl ?_;intro f h
       refine aV h rfl rfl rfl ?_
       refine bk (aU.subL (aU.of_own s 4 rfl) 34 32 (D:=bA n.pr.2) (iO _ _ _ _)) h bP rfl (by first|exact aK _|exact aF _ _) rfl ?_;intro f h
       refine aV h rfl rfl rfl ?_
       refine ao h (ai aR (h.ev rfl)) rfl ?_;intro f h
       refine aV h rfl rfl rfl ?_
       refine ao h (ai bW (h.ev rfl)) rfl ?_;intro f h
       refine aV h rfl rfl rfl ?_
       refine bk (aU.subL (aU.of_own s 4 rfl) 1 32 (D:=bA n.me.2) (da _ _ _ _)) h bP rfl (by first|exact aK _|exact aF _ _) rfl ?_;intro f h
       refine aV h rfl rfl rfl ?_
       refine cm h pC (fun w9 hE9=>aO (.bool false) (pq _ _ _ w9) (congrArg Value.bool q1)) rfl rfl ?_;intro f h
       refine aV h rfl rfl rfl ?_
       refine ao h (aG (h.ev rfl) (h.ev rfl)) rfl ?_;intro f h
       refine ao h (aI (h.ev rfl) (h.ev rfl)) rfl ?_;intro f h
       refine cq s fun w1 s=>?_
       refine ah ?_
       refine hK15 _ _ ?_
       refine wpIn_cond_false (h.ev rfl) ?_
       refine wpIn_skip ?_
       refine hK14 _ _ ?_
       refine al fun K16 hK16=>?_
       refine ae ?_
       refine ar 4 h s aZ rfl rfl (aq _ _ _ _) rfl ?_;intro f h
       refine ax 2 h s aZ rfl rfl rfl (aq _ _ _ _) (aq _ _ _ _) (a7 (aX (s.getSl 0 rfl)) (aX (s.getSl 1 rfl))) ?_;intro w1 s
       refine ac h (aj (h.ev rfl)) rfl ?_;intro f h
       refine ah ?_
       refine hK16 _ _ ?_
       refine wpIn_ret ?_
       exact ct 2 rfl h s aZ rfl rfl (aq _ _ _ _) rfl (gI ((g8 hr hx).1.trans (by rw [AV q0 q1])) (g8 hr hx).2 (s.pick _ (List.Sublist.cons_cons _ (List.Sublist.cons_cons _ (List.Sublist.cons _ (List.Sublist.cons _ (List.Sublist.cons _ (List.nil_sublist _))))))))
      ·skip
       refine bI 18 [[],[0],[0,1],[0,1,2],[0,1],[0,1,2,3,4],[0,1,2,3,4,5],[0,1,2,3,4,5,6],[0,1,2,3,4,5,6,7],[0,1,2,3,4,5,6],[0,1,2,3,4,5,6,9],[0,1,2,3,4,5,6,9,10],[0,1,2,3,4,5,6],[0,1,2,3,4,5,6,12],[0,1,2,3,4,5,6,12,13],[0,1,2,3,4,5,6,7,8,9,10,11,12,13,14],[0,1,2,3,4,5,6,7,8,9,10,11,12,13,14,15],[0,1,2,3,4,5,6,7,8,9,10,11,12,13,14,15,16]] h (by kernel_rfl) (by kernel_rfl) (by kernel_rfl) ?_
       refine ao h (ag (h.ev rfl)) rfl ?_;intro f h
       refine ao h (ag (h.ev rfl)) rfl ?_;intro f h
       refine aV h rfl rfl rfl ?_
       refine ao h (ai bR (h.ev rfl)) rfl ?_;intro f h
       refine aV h rfl rfl rfl ?_
       refine bk (aU.subL (aU.of_own s 4 rfl) 33 33 (D:=aw n.pr) (cb _ _ _ _)) h aL rfl (ak _) rfl ?_;intro f h
       refine aV h rfl rfl rfl ?_
       refine cm h gb (fun w9 hE9=>dL w9) rfl rfl ?_;intro f h
       refine aV h rfl rfl rfl ?_
       refine ao h (av (.bool false) (cV (g4 _ _) (by kernel_rfl) (by decide) (h.ev rfl) (h.ev rfl) (decide (n.pr=de)) (ee _ _)) (congrArg Value.bool q0)) rfl ?_;intro f h
       refine aV h rfl rfl rfl ?_
       refine ao h (ag (h.ev rfl)) rfl ?_;intro f h
       refine aV h rfl rfl rfl ?_
       refine ao h (ai bW (h.ev rfl)) rfl ?_;intro f h
       refine aV h rfl rfl rfl ?_
       refine bk (aU.subL (aU.of_own s 3 rfl) 1 32 (D:=bA (_)) (cj _)) h bP rfl (by first|exact aK _|exact aF _ _) rfl ?_;intro f h
       refine aV h rfl rfl rfl ?_
       refine ao h (ai bR (h.ev rfl)) rfl ?_;intro f h
       refine aV h rfl rfl rfl ?_
       refine ao h (ai bW (h.ev rfl)) rfl ?_;intro f h
       refine aV h rfl rfl rfl ?_
       refine bk (aU.subL (aU.of_own s 4 rfl) 34 32 (D:=bA n.pr.2) (iO _ _ _ _)) h bP rfl (by first|exact aK _|exact aF _ _) rfl ?_;intro f h
       refine aV h rfl rfl rfl ?_
       refine ao h (ai aR (h.ev rfl)) rfl ?_;intro f h
       refine aV h rfl rfl rfl ?_
       refine ao h (ai bW (h.ev rfl)) rfl ?_;intro f h
       refine aV h rfl rfl rfl ?_
       refine bk (aU.subL (aU.of_own s 4 rfl) 1 32 (D:=bA n.me.2) (da _ _ _ _)) h bP rfl (by first|exact aK _|exact aF _ _) rfl ?_;intro f h
       refine aV h rfl rfl rfl ?_
       refine cm h pC (fun w9 hE9=>aO (.bool true) (pq _ _ _ w9) (congrArg Value.bool q1)) rfl rfl ?_;intro f h
       refine aV h rfl rfl rfl ?_
       refine ao h (aG (h.ev rfl) (h.ev rfl)) rfl ?_;intro f h
       refine ao h (aI (h.ev rfl) (h.ev rfl)) rfl ?_;intro f h
       refine cq s fun w1 s=>?_
       refine ah ?_
       refine hK15 _ _ ?_
       refine wpIn_cond_true (h.ev rfl) ?_
       refine ae ?_
       refine ar 3 h s aL rfl rfl (ak _) rfl ?_;intro f h
       refine ac h (ai bR (h.ev rfl)) rfl ?_;intro f h
       refine dM 4 h s aL rfl rfl rfl (ak _) (by rw [aq];omega) (aS _) ?_;intro w1 s
       replace s:=s.recell (D:=aC n.me x us uf) 4 rfl (fK _ _ _ _ _)
       refine ah ?_
       refine hK14 _ _ ?_
       refine al fun K17 hK17=>?_
       refine ae ?_
       refine ar 4 h s aZ rfl rfl (aq _ _ _ _) rfl ?_;intro f h
       refine ax 2 h s aZ rfl rfl rfl (aq _ _ _ _) (aq _ _ _ _) (a7 (aX (s.getSl 0 rfl)) (aX (s.getSl 1 rfl))) ?_;intro w1 s
       refine ac h (aj (h.ev rfl)) rfl ?_;intro f h
       refine ah ?_
       refine hK17 _ _ ?_
       refine wpIn_ret ?_
       exact ct 2 rfl h s aZ rfl rfl (aq _ _ _ _) rfl (gI ((g8 hr hx).1.trans (by rw [Aj g0 g1 q0 q1])) (g8 hr hx).2 (s.pick _ (List.Sublist.cons_cons _ (List.Sublist.cons_cons _ (List.Sublist.cons _ (List.Sublist.cons _ (List.Sublist.cons _ (List.nil_sublist _))))))))
     ·skip
      refine bI 18 [[],[0],[0,1],[0,1,2],[0,1],[0,1,2,3,4],[0,1,2,3,4,5],[0,1,2,3,4,5,6],[0,1,2,3,4,5,6,7],[0,1,2,3,4,5,6],[0,1,2,3,4,5,6,9],[0,1,2,3,4,5,6,9,10],[0,1,2,3,4,5,6],[0,1,2,3,4,5,6,12],[0,1,2,3,4,5,6,12,13],[0,1,2,3,4,5,6,7,8,9,10,11,12,13,14],[0,1,2,3,4,5,6,7,8,9,10,11,12,13,14,15],[0,1,2,3,4,5,6,7,8,9,10,11,12,13,14,15,16]] h (by kernel_rfl) (by kernel_rfl) (by kernel_rfl) ?_
      refine ao h (ag (h.ev rfl)) rfl ?_;intro f h
      refine ao h (ag (h.ev rfl)) rfl ?_;intro f h
      refine aV h rfl rfl rfl ?_
      refine ao h (ai bR (h.ev rfl)) rfl ?_;intro f h
      refine aV h rfl rfl rfl ?_
      refine bk (aU.subL (aU.of_own s 4 rfl) 33 33 (D:=aw n.pr) (cb _ _ _ _)) h aL rfl (ak _) rfl ?_;intro f h
      refine aV h rfl rfl rfl ?_
      refine cm h gb (fun w9 hE9=>dL w9) rfl rfl ?_;intro f h
      refine aV h rfl rfl rfl ?_
      refine ao h (av (.bool true) (cV (g4 _ _) (by kernel_rfl) (by decide) (h.ev rfl) (h.ev rfl) (decide (n.pr=de)) (ee _ _)) (congrArg Value.bool q0)) rfl ?_;intro f h
      refine aV h rfl rfl rfl ?_
      refine ao h (ag (h.ev rfl)) rfl ?_;intro f h
      refine aY (b:=false) h rfl rfl rfl rfl ?_;intro f h
      refine aY (b:=false) h rfl rfl rfl rfl ?_;intro f h
      refine aY (b:=false) h rfl rfl rfl rfl ?_;intro f h
      refine aY (b:=false) h rfl rfl rfl rfl ?_;intro f h
      refine aY (b:=false) h rfl rfl rfl rfl ?_;intro f h
      refine aY (b:=false) h rfl rfl rfl rfl ?_;intro f h
      refine aY (b:=false) h rfl rfl rfl rfl ?_;intro f h
      refine aY (b:=false) h rfl rfl rfl rfl ?_;intro f h
      refine aY (b:=false) h rfl rfl rfl rfl ?_;intro f h
      refine aV h rfl rfl rfl ?_
      refine ao h (aI (h.ev rfl) (h.ev rfl)) rfl ?_;intro f h
      refine ao h (aI (h.ev rfl) (h.ev rfl)) rfl ?_;intro f h
      refine cq s fun w1 s=>?_
      refine ah ?_
      refine hK15 _ _ ?_
      refine wpIn_cond_true (h.ev rfl) ?_
      refine ae ?_
      refine ar 3 h s aL rfl rfl (ak _) rfl ?_;intro f h
      refine ac h (ai bR (h.ev rfl)) rfl ?_;intro f h
      refine dM 4 h s aL rfl rfl rfl (ak _) (by rw [aq];omega) (aS _) ?_;intro w1 s
      replace s:=s.recell (D:=aC n.me x us uf) 4 rfl (fK _ _ _ _ _)
      refine ah ?_
      refine hK14 _ _ ?_
      refine al fun K18 hK18=>?_
      refine ae ?_
      refine ar 4 h s aZ rfl rfl (aq _ _ _ _) rfl ?_;intro f h
      refine ax 2 h s aZ rfl rfl rfl (aq _ _ _ _) (aq _ _ _ _) (a7 (aX (s.getSl 0 rfl)) (aX (s.getSl 1 rfl))) ?_;intro w1 s
      refine ac h (aj (h.ev rfl)) rfl ?_;intro f h
      refine ah ?_
      refine hK18 _ _ ?_
      refine wpIn_ret ?_
      exact ct 2 rfl h s aZ rfl rfl (aq _ _ _ _) rfl (gI ((g8 hr hx).1.trans (by rw [Ao g0 g1 q0])) (g8 hr hx).2 (s.pick _ (List.Sublist.cons_cons _ (List.Sublist.cons_cons _ (List.Sublist.cons _ (List.Sublist.cons _ (List.Sublist.cons _ (List.nil_sublist _))))))))
theorem uC (m:Mb) (z:Nd) (ws wf:Value) (w:World):Calls Tryz.prog 122 [.agg (aw m),.agg (aC z.me z.pr ws wf)].toArray w (cU w (is (.agg (aw (kM m z))))):=by
 refine bp Tryz.func122 rfl Tryz.ntmps122 rfl [(0,.agg (aw m)),(1,.agg (aC z.me z.pr ws wf))] (by simp) fun f h=>?_
 have s:=St.start w
 refine al fun K1 hK1=>?_
 refine ae ?_
 refine bV ((aw m)) h s rfl rfl rfl ?_;intro f w1 b2 h s
 refine bV (aC z.me z.pr ws wf) h s rfl rfl rfl ?_;intro f w1 b3 h s
 refine bj (aw aT) h s cB rfl rfl ?_;intro f w1 b4 h s
 refine ah ?_
 refine hK1 _ _ ?_
 refine al fun K2 hK2=>?_
 refine ae ?_
 refine ac h (ai bR (h.ev rfl)) rfl ?_;intro f h
 refine aB (aU.subL (aU.of_own s 1 rfl) 33 33 (D:=aw z.pr) (cb _ _ _ _)) h aL rfl (ak _) rfl ?_;intro f h
 refine bj (aw aT) h s cB rfl rfl ?_;intro f w1 b5 h s
 refine ax 0 h s aL rfl rfl rfl (ak _) (ak _) (aS _) ?_;intro w1 s
 refine ah ?_
 refine hK2 _ _ ?_
 refine al fun K3 hK3=>?_
 refine al fun K4 hK4=>?_
 cases q0:(decide (z.pr=de):Bool)
 ·skip
  cases q1:(decide (z.pr.1=m.1):Bool)
  ·skip
   cases q2:(decide (z.pr.2=m.2):Bool)
   ·skip
    cases q3:(decide (z.pr.2=z.me.2):Bool)
    ·skip
     refine bI 25 [[],[],[0,1],[0,1,2],[0,1,2,3],[0,1,2,3,4],[0,1,2,3],[0,1,2,3,6],[0,1,2,3,4,5,6,7],[0,1,2,3,4,5,6,7,8],[0,1,2,3,4,5,6,7,8,9],[0,1,2,3,4,5,6,7,8,9,10],[0,1,2,3,4,5,6,7,8,9,10,11],[0,1,2,3,4,5,6,7,8,9,10],[0,1,2,3,4,5,6,7,8,9,10,13],[0,1,2,3,4,5,6,7,8,9,10,11,12,13,14],[0,1,2,3,4,5,6,7,8,9,10,11,12,13,14,15],[0,1,2,3,4,5,6,7,8,9,10,11,12,13,14,15,16],[0,1,2,3,4,5,6,7,8,9,10,11,12,13,14,15,16,17],[0,1,2,3,4,5,6,7,8,9,10,11,12,13,14,15,16,17,18],[0,1,2,3,4,5,6,7,8,9,10,11,12,13,14,15,16,17],[0,1,2,3,4,5,6,7,8,9,10,11,12,13,14,15,16,17,20],[0,1,2,3,4,5,6,7,8,9,10,11,12,13,14,15,16,17,20,21],[0,1,2,3,4,5,6,7,8,9,10,11,12,13,14,15,16,17,18,19,20,21,22],[0,1,2,3,4,5,6,7,8,9,10,11,12,13,14,15,16,17,18,19,20,21,22,23]] h (by kernel_rfl) (by kernel_rfl) (by kernel_rfl) ?_
     refine bB 0 h s aL rfl rfl (ak _) rfl ?_;intro f h
     refine cm h gb (fun w9 hE9=>dL w9) rfl rfl ?_;intro f h
     refine ao h (av (.bool false) (cV (g4 _ _) (by kernel_rfl) (by decide) (h.ev rfl) (h.ev rfl) (decide (z.pr=de)) (ee _ _)) (congrArg Value.bool q0)) rfl ?_;intro f h
     refine ao h (ag (h.ev rfl)) rfl ?_;intro f h
     refine aV h rfl rfl rfl ?_
     refine ao h (ai aJ (h.ev rfl)) rfl ?_;intro f h
     refine aV h rfl rfl rfl ?_
     refine a2 (am (aU.of_own s 0 rfl) 0 (aP _)) h bz rfl rfl ?_;intro f h
     refine aV h rfl rfl rfl ?_
     refine ao h (ai aJ (h.ev rfl)) rfl ?_;intro f h
     refine aV h rfl rfl rfl ?_
     refine a2 (am (aU.of_own s 3 rfl) 0 (aP _)) h bz rfl rfl ?_;intro f h
     refine aV h rfl rfl rfl ?_
     refine ao h (av (.bool false) (bX (h.ev rfl) (h.ev rfl)) (congrArg Value.bool q1)) rfl ?_;intro f h
     refine ao h (aG (h.ev rfl) (h.ev rfl)) rfl ?_;intro f h
     refine ao h (ag (h.ev rfl)) rfl ?_;intro f h
     refine aV h rfl rfl rfl ?_
     refine ao h (ai bW (h.ev rfl)) rfl ?_;intro f h
     refine aV h rfl rfl rfl ?_
     refine bk (aU.subL (aU.of_own s 0 rfl) 1 32 (D:=bA (_)) (cj _)) h bP rfl (by first|exact aK _|exact aF _ _) rfl ?_;intro f h
     refine aV h rfl rfl rfl ?_
     refine ao h (ai bW (h.ev rfl)) rfl ?_;intro f h
     refine aV h rfl rfl rfl ?_
     refine bk (aU.subL (aU.of_own s 3 rfl) 1 32 (D:=bA (_)) (cj _)) h bP rfl (by first|exact aK _|exact aF _ _) rfl ?_;intro f h
     refine aV h rfl rfl rfl ?_
     refine ao h (av (.bool false) (dp fC (h.ev rfl) (h.ev rfl)) (congrArg Value.bool q2)) rfl ?_;intro f h
     refine ao h (aG (h.ev rfl) (h.ev rfl)) rfl ?_;intro f h
     refine ao h (ag (h.ev rfl)) rfl ?_;intro f h
     refine aV h rfl rfl rfl ?_
     refine ao h (ai bW (h.ev rfl)) rfl ?_;intro f h
     refine aV h rfl rfl rfl ?_
     refine bk (aU.subL (aU.of_own s 0 rfl) 1 32 (D:=bA (_)) (cj _)) h bP rfl (by first|exact aK _|exact aF _ _) rfl ?_;intro f h
     refine aV h rfl rfl rfl ?_
     refine ao h (ai aR (h.ev rfl)) rfl ?_;intro f h
     refine aV h rfl rfl rfl ?_
     refine ao h (ai bW (h.ev rfl)) rfl ?_;intro f h
     refine aV h rfl rfl rfl ?_
     refine bk (aU.subL (aU.of_own s 2 rfl) 1 32 (D:=bA z.me.2) (da _ _ _ _)) h bP rfl (by first|exact aK _|exact aF _ _) rfl ?_;intro f h
     refine aV h rfl rfl rfl ?_
     refine ao h (av (.bool false) (dp fC (h.ev rfl) (h.ev rfl)) (congrArg Value.bool q3)) rfl ?_;intro f h
     refine ao h (aG (h.ev rfl) (h.ev rfl)) rfl ?_;intro f h
     refine cq s fun w1 s=>?_
     refine ah ?_
     refine hK4 _ _ ?_
     refine wpIn_cond_false (h.ev rfl) ?_
     refine wpIn_skip ?_
     refine hK3 _ _ ?_
     refine al fun K5 hK5=>?_
     refine al fun K6 hK6=>?_
     cases q4:(nk z.pr.2 m.2 z.me.2:Bool)
     ·skip
      refine ae ?_
      refine ac h (ai bW (h.ev rfl)) rfl ?_;intro f h
      refine aB (aU.subL (aU.of_own s 0 rfl) 1 32 (D:=bA (_)) (cj _)) h bP rfl (by first|exact aK _|exact aF _ _) rfl ?_;intro f h
      refine ac h (ai bW (h.ev rfl)) rfl ?_;intro f h
      refine aB (aU.subL (aU.of_own s 3 rfl) 1 32 (D:=bA (_)) (cj _)) h bP rfl (by first|exact aK _|exact aF _ _) rfl ?_;intro f h
      refine ac h (ai aR (h.ev rfl)) rfl ?_;intro f h
      refine ac h (ai bW (h.ev rfl)) rfl ?_;intro f h
      refine aB (aU.subL (aU.of_own s 2 rfl) 1 32 (D:=bA z.me.2) (da _ _ _ _)) h bP rfl (by first|exact aK _|exact aF _ _) rfl ?_;intro f h
      refine aH h s pC (aO (.bool false) (pq _ _ _ _) (congrArg Value.bool q4)) rfl rfl ?_;intro f w1 v9 hT hE h s;obtain rfl:=hT
      refine ac h (av (.bool true) (bh (h.ev rfl)) rfl) rfl ?_;intro f h
      refine ah ?_
      refine hK6 _ _ ?_
      refine wpIn_cond_true (h.ev rfl) ?_
      refine al fun K7 hK7=>?_
      refine ae ?_
      refine ac h (ai aR (h.ev rfl)) rfl ?_;intro f h
      refine aB (aU.subL (aU.of_own s 2 rfl) 0 33 (D:=aw z.me) (bT _ _ _ _)) h aL rfl (ak _) rfl ?_;intro f h
      refine ax 1 h s aL rfl rfl rfl (ak _) (ak _) (aS _) ?_;intro w1 s
      refine ah ?_
      refine hK7 _ _ ?_
      refine wpIn_ret ?_
      refine aW ?_
      exact c8 1 rfl h s aL rfl rfl (ak _) (by show _=_;rw [Ev q4])
     ·skip
      refine ae ?_
      refine ac h (ai bW (h.ev rfl)) rfl ?_;intro f h
      refine aB (aU.subL (aU.of_own s 0 rfl) 1 32 (D:=bA (_)) (cj _)) h bP rfl (by first|exact aK _|exact aF _ _) rfl ?_;intro f h
      refine ac h (ai bW (h.ev rfl)) rfl ?_;intro f h
      refine aB (aU.subL (aU.of_own s 3 rfl) 1 32 (D:=bA (_)) (cj _)) h bP rfl (by first|exact aK _|exact aF _ _) rfl ?_;intro f h
      refine ac h (ai aR (h.ev rfl)) rfl ?_;intro f h
      refine ac h (ai bW (h.ev rfl)) rfl ?_;intro f h
      refine aB (aU.subL (aU.of_own s 2 rfl) 1 32 (D:=bA z.me.2) (da _ _ _ _)) h bP rfl (by first|exact aK _|exact aF _ _) rfl ?_;intro f h
      refine aH h s pC (aO (.bool true) (pq _ _ _ _) (congrArg Value.bool q4)) rfl rfl ?_;intro f w1 v9 hT hE h s;obtain rfl:=hT
      refine ac h (av (.bool false) (bh (h.ev rfl)) rfl) rfl ?_;intro f h
      refine ah ?_
      refine hK6 _ _ ?_
      refine wpIn_cond_false (h.ev rfl) ?_
      refine wpIn_skip ?_
      refine hK5 _ _ ?_
      refine al fun K8 hK8=>?_
      refine ae ?_
      refine ar 0 h s aL rfl rfl (ak _) rfl ?_;intro f h
      refine ax 1 h s aL rfl rfl rfl (ak _) (ak _) (aS _) ?_;intro w1 s
      refine ah ?_
      refine hK8 _ _ ?_
      refine wpIn_ret ?_
      exact c8 1 rfl h s aL rfl rfl (ak _) (by show _=_;rw [EC q0 q1 q2 q3 q4])
    ·skip
     refine bI 25 [[],[],[0,1],[0,1,2],[0,1,2,3],[0,1,2,3,4],[0,1,2,3],[0,1,2,3,6],[0,1,2,3,4,5,6,7],[0,1,2,3,4,5,6,7,8],[0,1,2,3,4,5,6,7,8,9],[0,1,2,3,4,5,6,7,8,9,10],[0,1,2,3,4,5,6,7,8,9,10,11],[0,1,2,3,4,5,6,7,8,9,10],[0,1,2,3,4,5,6,7,8,9,10,13],[0,1,2,3,4,5,6,7,8,9,10,11,12,13,14],[0,1,2,3,4,5,6,7,8,9,10,11,12,13,14,15],[0,1,2,3,4,5,6,7,8,9,10,11,12,13,14,15,16],[0,1,2,3,4,5,6,7,8,9,10,11,12,13,14,15,16,17],[0,1,2,3,4,5,6,7,8,9,10,11,12,13,14,15,16,17,18],[0,1,2,3,4,5,6,7,8,9,10,11,12,13,14,15,16,17],[0,1,2,3,4,5,6,7,8,9,10,11,12,13,14,15,16,17,20],[0,1,2,3,4,5,6,7,8,9,10,11,12,13,14,15,16,17,20,21],[0,1,2,3,4,5,6,7,8,9,10,11,12,13,14,15,16,17,18,19,20,21,22],[0,1,2,3,4,5,6,7,8,9,10,11,12,13,14,15,16,17,18,19,20,21,22,23]] h (by kernel_rfl) (by kernel_rfl) (by kernel_rfl) ?_
     refine bB 0 h s aL rfl rfl (ak _) rfl ?_;intro f h
     refine cm h gb (fun w9 hE9=>dL w9) rfl rfl ?_;intro f h
     refine ao h (av (.bool false) (cV (g4 _ _) (by kernel_rfl) (by decide) (h.ev rfl) (h.ev rfl) (decide (z.pr=de)) (ee _ _)) (congrArg Value.bool q0)) rfl ?_;intro f h
     refine ao h (ag (h.ev rfl)) rfl ?_;intro f h
     refine aV h rfl rfl rfl ?_
     refine ao h (ai aJ (h.ev rfl)) rfl ?_;intro f h
     refine aV h rfl rfl rfl ?_
     refine a2 (am (aU.of_own s 0 rfl) 0 (aP _)) h bz rfl rfl ?_;intro f h
     refine aV h rfl rfl rfl ?_
     refine ao h (ai aJ (h.ev rfl)) rfl ?_;intro f h
     refine aV h rfl rfl rfl ?_
     refine a2 (am (aU.of_own s 3 rfl) 0 (aP _)) h bz rfl rfl ?_;intro f h
     refine aV h rfl rfl rfl ?_
     refine ao h (av (.bool false) (bX (h.ev rfl) (h.ev rfl)) (congrArg Value.bool q1)) rfl ?_;intro f h
     refine ao h (aG (h.ev rfl) (h.ev rfl)) rfl ?_;intro f h
     refine ao h (ag (h.ev rfl)) rfl ?_;intro f h
     refine aV h rfl rfl rfl ?_
     refine ao h (ai bW (h.ev rfl)) rfl ?_;intro f h
     refine aV h rfl rfl rfl ?_
     refine bk (aU.subL (aU.of_own s 0 rfl) 1 32 (D:=bA (_)) (cj _)) h bP rfl (by first|exact aK _|exact aF _ _) rfl ?_;intro f h
     refine aV h rfl rfl rfl ?_
     refine ao h (ai bW (h.ev rfl)) rfl ?_;intro f h
     refine aV h rfl rfl rfl ?_
     refine bk (aU.subL (aU.of_own s 3 rfl) 1 32 (D:=bA (_)) (cj _)) h bP rfl (by first|exact aK _|exact aF _ _) rfl ?_;intro f h
     refine aV h rfl rfl rfl ?_
     refine ao h (av (.bool false) (dp fC (h.ev rfl) (h.ev rfl)) (congrArg Value.bool q2)) rfl ?_;intro f h
     refine ao h (aG (h.ev rfl) (h.ev rfl)) rfl ?_;intro f h
     refine ao h (ag (h.ev rfl)) rfl ?_;intro f h
     refine aV h rfl rfl rfl ?_
     refine ao h (ai bW (h.ev rfl)) rfl ?_;intro f h
     refine aV h rfl rfl rfl ?_
     refine bk (aU.subL (aU.of_own s 0 rfl) 1 32 (D:=bA (_)) (cj _)) h bP rfl (by first|exact aK _|exact aF _ _) rfl ?_;intro f h
     refine aV h rfl rfl rfl ?_
     refine ao h (ai aR (h.ev rfl)) rfl ?_;intro f h
     refine aV h rfl rfl rfl ?_
     refine ao h (ai bW (h.ev rfl)) rfl ?_;intro f h
     refine aV h rfl rfl rfl ?_
     refine bk (aU.subL (aU.of_own s 2 rfl) 1 32 (D:=bA z.me.2) (da _ _ _ _)) h bP rfl (by first|exact aK _|exact aF _ _) rfl ?_;intro f h
     refine aV h rfl rfl rfl ?_
     refine ao h (av (.bool true) (dp fC (h.ev rfl) (h.ev rfl)) (congrArg Value.bool q3)) rfl ?_;intro f h
     refine ao h (aG (h.ev rfl) (h.ev rfl)) rfl ?_;intro f h
     refine cq s fun w1 s=>?_
     refine ah ?_
     refine hK4 _ _ ?_
     refine wpIn_cond_true (h.ev rfl) ?_
     refine al fun K9 hK9=>?_
     refine ae ?_
     refine ac h (ai aR (h.ev rfl)) rfl ?_;intro f h
     refine aB (aU.subL (aU.of_own s 2 rfl) 0 33 (D:=aw z.me) (bT _ _ _ _)) h aL rfl (ak _) rfl ?_;intro f h
     refine ax 1 h s aL rfl rfl rfl (ak _) (ak _) (aS _) ?_;intro w1 s
     refine ah ?_
     refine hK9 _ _ ?_
     refine wpIn_ret ?_
     refine aW ?_
     exact c8 1 rfl h s aL rfl rfl (ak _) (by show _=_;rw [Ed q3])
   ·skip
    refine bI 25 [[],[],[0,1],[0,1,2],[0,1,2,3],[0,1,2,3,4],[0,1,2,3],[0,1,2,3,6],[0,1,2,3,4,5,6,7],[0,1,2,3,4,5,6,7,8],[0,1,2,3,4,5,6,7,8,9],[0,1,2,3,4,5,6,7,8,9,10],[0,1,2,3,4,5,6,7,8,9,10,11],[0,1,2,3,4,5,6,7,8,9,10],[0,1,2,3,4,5,6,7,8,9,10,13],[0,1,2,3,4,5,6,7,8,9,10,11,12,13,14],[0,1,2,3,4,5,6,7,8,9,10,11,12,13,14,15],[0,1,2,3,4,5,6,7,8,9,10,11,12,13,14,15,16],[0,1,2,3,4,5,6,7,8,9,10,11,12,13,14,15,16,17],[0,1,2,3,4,5,6,7,8,9,10,11,12,13,14,15,16,17,18],[0,1,2,3,4,5,6,7,8,9,10,11,12,13,14,15,16,17],[0,1,2,3,4,5,6,7,8,9,10,11,12,13,14,15,16,17,20],[0,1,2,3,4,5,6,7,8,9,10,11,12,13,14,15,16,17,20,21],[0,1,2,3,4,5,6,7,8,9,10,11,12,13,14,15,16,17,18,19,20,21,22],[0,1,2,3,4,5,6,7,8,9,10,11,12,13,14,15,16,17,18,19,20,21,22,23]] h (by kernel_rfl) (by kernel_rfl) (by kernel_rfl) ?_
    refine bB 0 h s aL rfl rfl (ak _) rfl ?_;intro f h
    refine cm h gb (fun w9 hE9=>dL w9) rfl rfl ?_;intro f h
    refine ao h (av (.bool false) (cV (g4 _ _) (by kernel_rfl) (by decide) (h.ev rfl) (h.ev rfl) (decide (z.pr=de)) (ee _ _)) (congrArg Value.bool q0)) rfl ?_;intro f h
    refine ao h (ag (h.ev rfl)) rfl ?_;intro f h
    refine aV h rfl rfl rfl ?_
    refine ao h (ai aJ (h.ev rfl)) rfl ?_;intro f h
    refine aV h rfl rfl rfl ?_
    refine a2 (am (aU.of_own s 0 rfl) 0 (aP _)) h bz rfl rfl ?_;intro f h
    refine aV h rfl rfl rfl ?_
    refine ao h (ai aJ (h.ev rfl)) rfl ?_;intro f h
    refine aV h rfl rfl rfl ?_
    refine a2 (am (aU.of_own s 3 rfl) 0 (aP _)) h bz rfl rfl ?_;intro f h
    refine aV h rfl rfl rfl ?_
    refine ao h (av (.bool false) (bX (h.ev rfl) (h.ev rfl)) (congrArg Value.bool q1)) rfl ?_;intro f h
    refine ao h (aG (h.ev rfl) (h.ev rfl)) rfl ?_;intro f h
    refine ao h (ag (h.ev rfl)) rfl ?_;intro f h
    refine aV h rfl rfl rfl ?_
    refine ao h (ai bW (h.ev rfl)) rfl ?_;intro f h
    refine aV h rfl rfl rfl ?_
    refine bk (aU.subL (aU.of_own s 0 rfl) 1 32 (D:=bA (_)) (cj _)) h bP rfl (by first|exact aK _|exact aF _ _) rfl ?_;intro f h
    refine aV h rfl rfl rfl ?_
    refine ao h (ai bW (h.ev rfl)) rfl ?_;intro f h
    refine aV h rfl rfl rfl ?_
    refine bk (aU.subL (aU.of_own s 3 rfl) 1 32 (D:=bA (_)) (cj _)) h bP rfl (by first|exact aK _|exact aF _ _) rfl ?_;intro f h
    refine aV h rfl rfl rfl ?_
    refine ao h (av (.bool true) (dp fC (h.ev rfl) (h.ev rfl)) (congrArg Value.bool q2)) rfl ?_;intro f h
    refine ao h (aG (h.ev rfl) (h.ev rfl)) rfl ?_;intro f h
    refine ao h (ag (h.ev rfl)) rfl ?_;intro f h
    refine aY (b:=false) h rfl rfl rfl rfl ?_;intro f h
    refine aY (b:=false) h rfl rfl rfl rfl ?_;intro f h
    refine aY (b:=false) h rfl rfl rfl rfl ?_;intro f h
    refine aY (b:=false) h rfl rfl rfl rfl ?_;intro f h
    refine aY (b:=false) h rfl rfl rfl rfl ?_;intro f h
    refine aY (b:=false) h rfl rfl rfl rfl ?_;intro f h
    refine ao h (aI (h.ev rfl) (h.ev rfl)) rfl ?_;intro f h
    refine cq s fun w1 s=>?_
    refine ah ?_
    refine hK4 _ _ ?_
    refine wpIn_cond_true (h.ev rfl) ?_
    refine al fun K10 hK10=>?_
    refine ae ?_
    refine ac h (ai aR (h.ev rfl)) rfl ?_;intro f h
    refine aB (aU.subL (aU.of_own s 2 rfl) 0 33 (D:=aw z.me) (bT _ _ _ _)) h aL rfl (ak _) rfl ?_;intro f h
    refine ax 1 h s aL rfl rfl rfl (ak _) (ak _) (aS _) ?_;intro w1 s
    refine ah ?_
    refine hK10 _ _ ?_
    refine wpIn_ret ?_
    refine aW ?_
    exact c8 1 rfl h s aL rfl rfl (ak _) (by show _=_;rw [D8 q2])
  ·skip
   refine bI 25 [[],[],[0,1],[0,1,2],[0,1,2,3],[0,1,2,3,4],[0,1,2,3],[0,1,2,3,6],[0,1,2,3,4,5,6,7],[0,1,2,3,4,5,6,7,8],[0,1,2,3,4,5,6,7,8,9],[0,1,2,3,4,5,6,7,8,9,10],[0,1,2,3,4,5,6,7,8,9,10,11],[0,1,2,3,4,5,6,7,8,9,10],[0,1,2,3,4,5,6,7,8,9,10,13],[0,1,2,3,4,5,6,7,8,9,10,11,12,13,14],[0,1,2,3,4,5,6,7,8,9,10,11,12,13,14,15],[0,1,2,3,4,5,6,7,8,9,10,11,12,13,14,15,16],[0,1,2,3,4,5,6,7,8,9,10,11,12,13,14,15,16,17],[0,1,2,3,4,5,6,7,8,9,10,11,12,13,14,15,16,17,18],[0,1,2,3,4,5,6,7,8,9,10,11,12,13,14,15,16,17],[0,1,2,3,4,5,6,7,8,9,10,11,12,13,14,15,16,17,20],[0,1,2,3,4,5,6,7,8,9,10,11,12,13,14,15,16,17,20,21],[0,1,2,3,4,5,6,7,8,9,10,11,12,13,14,15,16,17,18,19,20,21,22],[0,1,2,3,4,5,6,7,8,9,10,11,12,13,14,15,16,17,18,19,20,21,22,23]] h (by kernel_rfl) (by kernel_rfl) (by kernel_rfl) ?_
   refine bB 0 h s aL rfl rfl (ak _) rfl ?_;intro f h
   refine cm h gb (fun w9 hE9=>dL w9) rfl rfl ?_;intro f h
   refine ao h (av (.bool false) (cV (g4 _ _) (by kernel_rfl) (by decide) (h.ev rfl) (h.ev rfl) (decide (z.pr=de)) (ee _ _)) (congrArg Value.bool q0)) rfl ?_;intro f h
   refine ao h (ag (h.ev rfl)) rfl ?_;intro f h
   refine aV h rfl rfl rfl ?_
   refine ao h (ai aJ (h.ev rfl)) rfl ?_;intro f h
   refine aV h rfl rfl rfl ?_
   refine a2 (am (aU.of_own s 0 rfl) 0 (aP _)) h bz rfl rfl ?_;intro f h
   refine aV h rfl rfl rfl ?_
   refine ao h (ai aJ (h.ev rfl)) rfl ?_;intro f h
   refine aV h rfl rfl rfl ?_
   refine a2 (am (aU.of_own s 3 rfl) 0 (aP _)) h bz rfl rfl ?_;intro f h
   refine aV h rfl rfl rfl ?_
   refine ao h (av (.bool true) (bX (h.ev rfl) (h.ev rfl)) (congrArg Value.bool q1)) rfl ?_;intro f h
   refine ao h (aG (h.ev rfl) (h.ev rfl)) rfl ?_;intro f h
   refine ao h (ag (h.ev rfl)) rfl ?_;intro f h
   refine aY (b:=false) h rfl rfl rfl rfl ?_;intro f h
   refine aY (b:=false) h rfl rfl rfl rfl ?_;intro f h
   refine aY (b:=false) h rfl rfl rfl rfl ?_;intro f h
   refine aY (b:=false) h rfl rfl rfl rfl ?_;intro f h
   refine aY (b:=false) h rfl rfl rfl rfl ?_;intro f h
   refine ao h (aI (h.ev rfl) (h.ev rfl)) rfl ?_;intro f h
   refine ao h (ag (h.ev rfl)) rfl ?_;intro f h
   refine aY (b:=false) h rfl rfl rfl rfl ?_;intro f h
   refine aY (b:=false) h rfl rfl rfl rfl ?_;intro f h
   refine aY (b:=false) h rfl rfl rfl rfl ?_;intro f h
   refine aY (b:=false) h rfl rfl rfl rfl ?_;intro f h
   refine aY (b:=false) h rfl rfl rfl rfl ?_;intro f h
   refine aY (b:=false) h rfl rfl rfl rfl ?_;intro f h
   refine ao h (aI (h.ev rfl) (h.ev rfl)) rfl ?_;intro f h
   refine cq s fun w1 s=>?_
   refine ah ?_
   refine hK4 _ _ ?_
   refine wpIn_cond_true (h.ev rfl) ?_
   refine al fun K11 hK11=>?_
   refine ae ?_
   refine ac h (ai aR (h.ev rfl)) rfl ?_;intro f h
   refine aB (aU.subL (aU.of_own s 2 rfl) 0 33 (D:=aw z.me) (bT _ _ _ _)) h aL rfl (ak _) rfl ?_;intro f h
   refine ax 1 h s aL rfl rfl rfl (ak _) (ak _) (aS _) ?_;intro w1 s
   refine ah ?_
   refine hK11 _ _ ?_
   refine wpIn_ret ?_
   refine aW ?_
   exact c8 1 rfl h s aL rfl rfl (ak _) (by show _=_;rw [Em q1])
 ·skip
  refine bI 25 [[],[],[0,1],[0,1,2],[0,1,2,3],[0,1,2,3,4],[0,1,2,3],[0,1,2,3,6],[0,1,2,3,4,5,6,7],[0,1,2,3,4,5,6,7,8],[0,1,2,3,4,5,6,7,8,9],[0,1,2,3,4,5,6,7,8,9,10],[0,1,2,3,4,5,6,7,8,9,10,11],[0,1,2,3,4,5,6,7,8,9,10],[0,1,2,3,4,5,6,7,8,9,10,13],[0,1,2,3,4,5,6,7,8,9,10,11,12,13,14],[0,1,2,3,4,5,6,7,8,9,10,11,12,13,14,15],[0,1,2,3,4,5,6,7,8,9,10,11,12,13,14,15,16],[0,1,2,3,4,5,6,7,8,9,10,11,12,13,14,15,16,17],[0,1,2,3,4,5,6,7,8,9,10,11,12,13,14,15,16,17,18],[0,1,2,3,4,5,6,7,8,9,10,11,12,13,14,15,16,17],[0,1,2,3,4,5,6,7,8,9,10,11,12,13,14,15,16,17,20],[0,1,2,3,4,5,6,7,8,9,10,11,12,13,14,15,16,17,20,21],[0,1,2,3,4,5,6,7,8,9,10,11,12,13,14,15,16,17,18,19,20,21,22],[0,1,2,3,4,5,6,7,8,9,10,11,12,13,14,15,16,17,18,19,20,21,22,23]] h (by kernel_rfl) (by kernel_rfl) (by kernel_rfl) ?_
  refine bB 0 h s aL rfl rfl (ak _) rfl ?_;intro f h
  refine cm h gb (fun w9 hE9=>dL w9) rfl rfl ?_;intro f h
  refine ao h (av (.bool true) (cV (g4 _ _) (by kernel_rfl) (by decide) (h.ev rfl) (h.ev rfl) (decide (z.pr=de)) (ee _ _)) (congrArg Value.bool q0)) rfl ?_;intro f h
  refine ao h (ag (h.ev rfl)) rfl ?_;intro f h
  refine aY (b:=false) h rfl rfl rfl rfl ?_;intro f h
  refine aY (b:=false) h rfl rfl rfl rfl ?_;intro f h
  refine aY (b:=false) h rfl rfl rfl rfl ?_;intro f h
  refine aY (b:=false) h rfl rfl rfl rfl ?_;intro f h
  refine aY (b:=false) h rfl rfl rfl rfl ?_;intro f h
  refine ao h (aI (h.ev rfl) (h.ev rfl)) rfl ?_;intro f h
  refine ao h (ag (h.ev rfl)) rfl ?_;intro f h
  refine aY (b:=false) h rfl rfl rfl rfl ?_;intro f h
  refine aY (b:=false) h rfl rfl rfl rfl ?_;intro f h
  refine aY (b:=false) h rfl rfl rfl rfl ?_;intro f h
  refine aY (b:=false) h rfl rfl rfl rfl ?_;intro f h
  refine aY (b:=false) h rfl rfl rfl rfl ?_;intro f h
  refine ao h (aI (h.ev rfl) (h.ev rfl)) rfl ?_;intro f h
  refine ao h (ag (h.ev rfl)) rfl ?_;intro f h
  refine aY (b:=false) h rfl rfl rfl rfl ?_;intro f h
  refine aY (b:=false) h rfl rfl rfl rfl ?_;intro f h
  refine aY (b:=false) h rfl rfl rfl rfl ?_;intro f h
  refine aY (b:=false) h rfl rfl rfl rfl ?_;intro f h
  refine aY (b:=false) h rfl rfl rfl rfl ?_;intro f h
  refine aY (b:=false) h rfl rfl rfl rfl ?_;intro f h
  refine ao h (aI (h.ev rfl) (h.ev rfl)) rfl ?_;intro f h
  refine cq s fun w1 s=>?_
  refine ah ?_
  refine hK4 _ _ ?_
  refine wpIn_cond_true (h.ev rfl) ?_
  refine al fun K12 hK12=>?_
  refine ae ?_
  refine ac h (ai aR (h.ev rfl)) rfl ?_;intro f h
  refine aB (aU.subL (aU.of_own s 2 rfl) 0 33 (D:=aw z.me) (bT _ _ _ _)) h aL rfl (ak _) rfl ?_;intro f h
  refine ax 1 h s aL rfl rfl rfl (ak _) (ak _) (aS _) ?_;intro w1 s
  refine ah ?_
  refine hK12 _ _ ?_
  refine wpIn_ret ?_
  refine aW ?_
  exact c8 1 rfl h s aL rfl rfl (ak _) (by show _=_;rw [El q0])
theorem lf (l:List Mb) (vh:Value) (m:Mb) (B9:List Own) (w0 w:World) (s:St w0 (.sl vh 28 33 (l).length (ap (l))::B9) w):Calls Tryz.prog 124 [vh,.agg (aw m)].toArray w (fun e w9=>∃ v9,e=.returned v9∧St w0 (.sl v9 28 33 (ky l m).length (ap (ky l m))::B9) w9):=by
 refine eJ Tryz.func124 rfl Tryz.ntmps124 rfl [(0,vh),(1,.agg (aw m))] (by simp) fun f h=>?_
 refine al fun K1 hK1=>?_
 refine ae ?_
 refine bV ((aw m)) h s rfl rfl rfl ?_;intro f w1 b3 h s
 refine ac h (aj (h.ev rfl)) rfl ?_;intro f h
 refine ah ?_
 refine hK1 _ _ ?_
 refine al fun K2 hK2=>?_
 refine al fun K3 hK3=>?_
 refine ae ?_
 refine ac h (ag (h.ev rfl)) rfl ?_;intro f h
 refine cK 1 h s Tryz.underlying36 rfl rfl rfl ?_;intro f h
 refine ac h (bX (h.ev rfl) (h.ev rfl)) rfl ?_;intro f h
 refine ah ?_
 refine hK3 _ _ ?_
 refine bM h rfl (fun hc=>?_) (fun hc=>?_)
 ·have h0:l.length=0:=by have:=of_decide_eq_true hc;omega
  refine al fun K4 hK4=>?_
  refine ae ?_
  refine ar 0 h s aL rfl rfl (ak _) rfl ?_;intro f h
  refine cg (vs:=[.agg (aw m)]) [.tmp 8] h s Tryz.underlying36 cP rfl rfl (eS _) rfl rfl rfl ?_;intro f w1 v9 h s
  replace s:=s.resl (m:=[m].length) (ys:=ap [m]) 0 rfl rfl (by rw [c0,cM])
  refine ac h (aj (h.ev rfl)) rfl ?_;intro f h
  refine ah ?_
  refine hK4 _ _ ?_
  refine wpIn_ret ?_
  refine aW ?_
  exact jA rfl h rfl (⟨_,rfl,pA (km h0).symm (s.pick _ (List.Sublist.cons_cons _ (List.Sublist.cons _ (List.Sublist.cons _ (List.Sublist.refl _)))))⟩)
 ·have h0:¬ l.length=0:=by have:=of_decide_eq_false hc;omega
  refine wpIn_skip ?_
  refine hK2 _ _ ?_
  refine al fun K5 hK5=>?_
  refine ae ?_
  refine ac h (ag (h.ev rfl)) rfl ?_;intro f h
  refine ac h (aj (h.ev rfl)) rfl ?_;intro f h
  refine ah ?_
  refine hK5 _ _ ?_
  refine wpIn_ret ?_
  exact jA rfl h rfl (⟨_,rfl,pA (jd h0).symm (s.pick _ (List.Sublist.cons _ (List.Sublist.cons_cons _ (List.Sublist.refl _))))⟩)
theorem uP (nos:List Int) (vn:Value) (no:Int) (w:World) (hN:bq w vn 1 nos.length (nos.map (Value.int .i64))) (hnn:nos.length≤1000):Calls Tryz.prog 144 [vn,.int .i64 no].toArray w (cU w (fun v _=>∃ r:Int,v=.int .i64 r∧((r = -1∧∀ k,k<nos.length→nos.getD k 0≠no)∨∃ k:Nat,k<nos.length∧r=(k:Int)∧nos.getD k 0=no))):=by
 refine bp Tryz.func144 rfl Tryz.ntmps144 rfl [(0,vn),(1,.int .i64 no)] (by simp) fun f h=>?_
 have s:=St.start w
 refine al fun K1 hK1=>?_
 refine ae ?_
 refine ac h (aj (h.ev rfl)) rfl ?_;intro f h
 refine ah ?_
 refine hK1 _ _ ?_
 refine al fun K2 hK2=>?_
 refine al fun K3 hK3=>?_
 refine ae ?_
 refine ac h (ag (h.ev rfl)) rfl ?_;intro f h
 refine ac h (bc (hN.keep s.ext) Tryz.underlying78 (h.ev rfl)) rfl ?_;intro f h
 refine ac h (ag (h.ev rfl)) rfl ?_;intro f h
 refine ah ?_
 refine hK3 _ _ ?_
 refine wpIn_block ?_
 refine wpIn_loop_ghost (fun nn aa ww=>∃ k:Nat,Sl 19 aa [(0,vn),(1,.int .i64 no),(6,vn),(7,.int .i64 (nos.length:Int)),(8,.int .i64 (k:Int))]∧St w [] ww∧nn=nos.length - k∧k≤nos.length∧∀ j,j<k→decide (no=nos.getD j 0)=false) (nos.length - (0)) ⟨0,h.only ⟨rfl,rfl,rfl,rfl,aQ rfl (by omega),trivial⟩,s.as trivial,rfl,Nat.zero_le _,fun j hj=>absurd hj (Nat.not_lt_zero _)⟩ ?_
 rintro _ f w1 ⟨k,h,s,hnn,hp0,hp1⟩
 refine al fun K4 hK4=>?_
 refine ae ?_
 refine ac h (bN (h.ev rfl) (h.ev rfl)) rfl ?_;intro f h
 refine ah ?_
 refine hK4 _ _ ?_
 refine al fun K5 hK5=>?_
 refine bM h rfl (fun hc=>?_) (fun hc=>?_)
 ·replace hc:=of_decide_eq_true hc
  refine wpIn_skip ?_
  refine hK5 _ _ ?_
  refine al fun K6 hK6=>?_
  refine wpIn_block ?_
  refine al fun K7 hK7=>?_
  refine ae ?_
  refine ac h (ag (h.ev rfl)) rfl ?_;intro f h
  refine ac h (aj (h.ev rfl)) rfl ?_;intro f h
  refine ah ?_
  refine hK7 _ _ ?_
  refine al fun K8 hK8=>?_
  refine ae ?_
  have hkl:k<nos.length:=by omega
  refine ac h (ag (h.ev rfl)) rfl ?_;intro f h
  refine ac h (ag (h.ev rfl)) rfl ?_;intro f h
  refine ac h (ag (h.ev rfl)) rfl ?_;intro f h
  refine ac h (bZ (hN.keep s.ext) (k) Tryz.underlying78 C8 (h.ev rfl) (h.ev rfl) (by omega) (by omega)) rfl ?_;intro f h
  refine au ((hN.keep s.ext).el1 (k) (V:=.int .i64 (nos.getD k 0)) (Aq nos k hkl)) h bz rfl rfl ?_;intro f h
  refine ac h (bX (h.ev rfl) (h.ev rfl)) rfl ?_;intro f h
  refine ah ?_
  refine hK8 _ _ ?_
  refine bM h rfl (fun hc=>?_) (fun hc=>?_)
  ·refine al fun K9 hK9=>?_
   refine ae ?_
   refine ac h (ag (h.ev rfl)) rfl ?_;intro f h
   refine ac h (aj (h.ev rfl)) rfl ?_;intro f h
   refine ah ?_
   refine hK9 _ _ ?_
   refine wpIn_ret ?_
   refine bU ?_
   refine aW ?_
   refine aW ?_
   refine bU ?_
   refine aW ?_
   exact bf rfl h s rfl (⟨_,rfl,.inr ⟨k,hkl,rfl,(of_decide_eq_true hc).symm⟩⟩)
  ·refine wpIn_skip ?_
   refine bF ?_
   refine hK6 _ _ ?_
   refine ae ?_
   refine ac h (cf (h.ev rfl) (h.ev rfl) (by omega)) rfl ?_;intro f h
   refine ac h (ag (h.ev rfl)) rfl ?_;intro f h
   refine ah ?_
   refine bQ ?_
   exact ⟨_,by omega,⟨k+1,h.only ⟨rfl,rfl,rfl,rfl,aQ rfl (by omega),trivial⟩,St.as s trivial,rfl,by omega,dm (q:=fun j=>decide (no=nos.getD j 0)) hp1 hc⟩⟩
 ·replace hc:=of_decide_eq_false hc
  refine wpIn_exit ?_
  refine bJ ?_
  refine bJ ?_
  refine cC ?_
  refine hK2 _ _ ?_
  refine al fun K10 hK10=>?_
  refine ae ?_
  refine ac h (aj (h.ev rfl)) rfl ?_;intro f h
  refine ah ?_
  refine hK10 _ _ ?_
  refine wpIn_ret ?_
  exact bf rfl h s rfl (⟨_,rfl,.inl ⟨rfl,fun i hi e9=>of_decide_eq_false (hp1 i (by omega)) e9.symm⟩⟩)
theorem uY (nos:List Int) (vn:Value) (no:Int) (w:World) (hN:bq w vn 1 nos.length (nos.map (Value.int .i64))) (hnn:nos.length≤1000):Calls Tryz.prog 128 [vn,.int .i64 no].toArray w (cU w (is (.bool (nos.any fun k=>decide (k=no))))):=by
 refine bp Tryz.func128 rfl Tryz.ntmps128 rfl [(0,vn),(1,.int .i64 no)] (by simp) fun f h=>?_
 have s:=St.start w
 refine al fun K1 hK1=>?_
 refine ae ?_
 refine ac h (aj (h.ev rfl)) rfl ?_;intro f h
 refine ah ?_
 refine hK1 _ _ ?_
 refine al fun K2 hK2=>?_
 refine ae ?_
 refine ac h (ag (h.ev rfl)) rfl ?_;intro f h
 refine ac h (ag (h.ev rfl)) rfl ?_;intro f h
 refine aH h s BU (uP nos vn no _ (hN.keep s.ext) hnn) rfl rfl ?_;rintro f w1 v9 ⟨r9,rfl,hr⟩ hE h s
 refine ac h (av (.bool (nos.any fun k=>decide (k=no))) (dg (h.ev rfl) (h.ev rfl)) (congrArg Value.bool (yQ hr))) rfl ?_;intro f h
 refine ac h (aj (h.ev rfl)) rfl ?_;intro f h
 refine ah ?_
 refine hK2 _ _ ?_
 refine wpIn_ret ?_
 exact bf rfl h s rfl (rfl)
theorem iJ (x:Mb) (nos:List Int) (vn:Value) (bx:Nat) (w:World) (hb:g7 w bx #[vn]) (hN:bq w vn 1 nos.length (nos.map (Value.int .i64))) (hnn:nos.length≤1000):Calls Tryz.prog 127 [.agg (aw x),.pointer (some ⟨bx,0,none⟩)].toArray w (cU w (is (.bool (dX nos x)))):=by
 refine bp Tryz.func127 rfl Tryz.ntmps127 rfl [(0,.agg (aw x)),(1,.pointer (some ⟨bx,0,none⟩))] (by simp) fun f h=>?_
 have s:=St.start w
 refine al fun K1 hK1=>?_
 refine ae ?_
 refine bV ((aw x)) h s rfl rfl rfl ?_;intro f w1 b2 h s
 refine ac h (aj (h.ev rfl)) rfl ?_;intro f h
 refine ah ?_
 refine hK1 _ _ ?_
 refine al fun K2 hK2=>?_
 refine ae ?_
 refine au (V:=vn) (am (aU.of_tab (hb.keep s.ext)) 0 (rfl)) h sy rfl rfl ?_;intro f h
 refine ac h (ai aJ (h.ev rfl)) rfl ?_;intro f h
 refine au (am (aU.of_own s 0 rfl) 0 (aP _)) h bz rfl rfl ?_;intro f h
 refine aH h s BL (uY nos vn x.1 _ (hN.keep s.ext) hnn) rfl rfl ?_;intro f w1 v9 hT hE h s;obtain rfl:=hT
 refine ac h (aj (h.ev rfl)) rfl ?_;intro f h
 refine ah ?_
 refine hK2 _ _ ?_
 refine wpIn_ret ?_
 exact bf rfl h s rfl (rfl)
theorem qB (l:List Mb) (vh:Value) (g9:Nat) (caps:List Value) (p:Mb→Bool) (w:World) (hR:bq w vh 33 l.length (ap l)) (hln:l.length≤1000) (hg:Fnc Tryz.prog g9) (hp:∀ w9,Ext w w9→∀ x∈l,Calls Tryz.prog g9 (.agg (aw x)::caps).toArray w9 (cU w9 (is (.bool (p x))))):Calls Tryz.prog 112 [vh,.func (.func g9) #[] caps.toArray].toArray w (cU w (fun v _=>∃ r:Int,v=.int .i64 r∧((r = -1∧∀ x∈l,p x=false)∨∃ k:Nat,k<l.length∧r=(k:Int)∧p (l.getD k aT)=true∧∀ i,i<k→p (l.getD i aT)=false))):=by
 refine bp Tryz.func112 rfl Tryz.ntmps112 rfl [(0,vh),(1,.func (.func g9) #[] caps.toArray)] (by simp) fun f h=>?_
 have s:=St.start w
 refine al fun K1 hK1=>?_
 refine ae ?_
 refine ac h (aj (h.ev rfl)) rfl ?_;intro f h
 refine ah ?_
 refine hK1 _ _ ?_
 refine al fun K2 hK2=>?_
 refine al fun K3 hK3=>?_
 refine ae ?_
 refine ac h (ag (h.ev rfl)) rfl ?_;intro f h
 refine ac h (bc (hR.keep s.ext) Tryz.underlying36 (h.ev rfl)) rfl ?_;intro f h
 refine ac h (ag (h.ev rfl)) rfl ?_;intro f h
 refine ah ?_
 refine hK3 _ _ ?_
 refine wpIn_block ?_
 refine wpIn_loop_ghost (fun nn aa ww=>∃ k:Nat,Sl 19 aa [(0,vh),(1,.func (.func g9) #[] caps.toArray),(6,vh),(7,.int .i64 (l.length:Int)),(8,.int .i64 (k:Int))]∧St w [] ww∧nn=l.length - k∧k≤l.length∧∀ i (hi:i<l.length),i<k→p l[i]=false) (l.length - (0)) ⟨0,h.only ⟨rfl,rfl,rfl,rfl,aQ rfl (by omega),trivial⟩,s.as trivial,rfl,Nat.zero_le _,fun i hi h9=>absurd h9 (Nat.not_lt_zero _)⟩ ?_
 rintro _ f w1 ⟨k,h,s,hnn,hp0,hp1⟩
 refine al fun K4 hK4=>?_
 refine ae ?_
 refine ac h (bN (h.ev rfl) (h.ev rfl)) rfl ?_;intro f h
 refine ah ?_
 refine hK4 _ _ ?_
 refine al fun K5 hK5=>?_
 refine bM h rfl (fun hc=>?_) (fun hc=>?_)
 ·replace hc:=of_decide_eq_true hc
  refine wpIn_skip ?_
  refine hK5 _ _ ?_
  refine al fun K6 hK6=>?_
  refine wpIn_block ?_
  refine al fun K7 hK7=>?_
  refine ae ?_
  refine ac h (ag (h.ev rfl)) rfl ?_;intro f h
  refine ac h (aj (h.ev rfl)) rfl ?_;intro f h
  refine ah ?_
  refine hK7 _ _ ?_
  refine al fun K8 hK8=>?_
  refine ae ?_
  have hkl:k<l.length:=by omega
  refine ac h (ag (h.ev rfl)) rfl ?_;intro f h
  refine ac h (ag (h.ev rfl)) rfl ?_;intro f h
  refine ac h (ag (h.ev rfl)) rfl ?_;intro f h
  refine ac h (bZ (hR.keep s.ext) (k) Tryz.underlying36 cz (h.ev rfl) (h.ev rfl) (by omega) (by omega)) rfl ?_;intro f h
  refine aB ((hR.keep s.ext).el (k) (by omega) (by decide) (D:=aw l[k]) (th l k hkl)) h aL rfl (ak _) rfl ?_;intro f h
  refine iT [.agg (aw l[k])] (caps:=caps) h s hg rfl (hp _ s.ext _ (List.getElem_mem hkl)) rfl rfl ?_;intro f w1 v9 hT hE h s;obtain rfl:=hT
  refine ah ?_
  refine hK8 _ _ ?_
  refine bM h rfl (fun hc=>?_) (fun hc=>?_)
  ·refine al fun K9 hK9=>?_
   refine ae ?_
   refine ac h (ag (h.ev rfl)) rfl ?_;intro f h
   refine ac h (aj (h.ev rfl)) rfl ?_;intro f h
   refine ah ?_
   refine hK9 _ _ ?_
   refine wpIn_ret ?_
   refine bU ?_
   refine aW ?_
   refine aW ?_
   refine bU ?_
   refine aW ?_
   exact bf rfl h s rfl (⟨_,rfl,.inr ⟨k,hkl,rfl,by rw [← nB hkl];exact hc,fun i hi=>by rw [← nB (show i<l.length by omega)];exact hp1 i (by omega) hi⟩⟩)
  ·refine wpIn_skip ?_
   refine bF ?_
   refine hK6 _ _ ?_
   refine ae ?_
   refine ac h (cf (h.ev rfl) (h.ev rfl) (by omega)) rfl ?_;intro f h
   refine ac h (ag (h.ev rfl)) rfl ?_;intro f h
   refine ah ?_
   refine bQ ?_
   exact ⟨_,by omega,⟨k+1,h.only ⟨rfl,rfl,rfl,rfl,aQ rfl (by omega),trivial⟩,St.as s trivial,rfl,by omega,qP (fun y=>p y=false) hp1 hkl hc⟩⟩
 ·replace hc:=of_decide_eq_false hc
  refine wpIn_exit ?_
  refine bJ ?_
  refine bJ ?_
  refine cC ?_
  refine hK2 _ _ ?_
  refine al fun K10 hK10=>?_
  refine ae ?_
  refine ac h (aj (h.ev rfl)) rfl ?_;intro f h
  refine ah ?_
  refine hK10 _ _ ?_
  refine wpIn_ret ?_
  exact bf rfl h s rfl (⟨_,rfl,.inl ⟨rfl,fun x hx=>(by obtain ⟨i,hi,e⟩:=List.getElem_of_mem hx;rw [← e];exact hp1 i hi (by omega))⟩⟩)
set_option maxHeartbeats 1000000 in
theorem li (l:List Mb) (hln:l.length≤1000) (vh:Value) (g9:Nat) (caps:List Value) (p:Mb→Bool) (B9:List Own) (w0 w:World) (s:St w0 (.sl vh 28 33 (l).length (ap (l))::B9) w) (hg:Fnc Tryz.prog g9) (hp:∀ (A9:List Own) (w9:World),St w0 (A9++B9) w9→∀ x∈l,Calls Tryz.prog g9 (.agg (aw x)::caps).toArray w9 (cU w9 (is (.bool (p x))))):Calls Tryz.prog 129 [vh,.func (.func g9) #[] caps.toArray].toArray w (fun e w9=>∃ v9,e=.returned v9∧St w0 (.sl v9 28 33 ((l.filter fun x => !p x)).length (ap ((l.filter fun x => !p x)))::B9) w9):=by
 refine eJ Tryz.func129 rfl Tryz.ntmps129 rfl [(0,vh),(1,.func (.func g9) #[] caps.toArray)] (by simp) fun f h=>?_
 refine al fun K1 hK1=>?_
 refine ae ?_
 refine ac h (aj (h.ev rfl)) rfl ?_;intro f h
 refine ah ?_
 refine hK1 _ _ ?_
 refine al fun K2 hK2=>?_
 refine ae ?_
 refine ac h (ag (h.ev rfl)) rfl ?_;intro f h
 refine ac h (ag (h.ev rfl)) rfl ?_;intro f h
 refine aH h s we (qB l vh g9 caps p _ (bq.of_own (s.getSl 0 rfl)) hln hg (fun w9 h9 x hx=>hp [_] w9 (s.more h9) x hx)) rfl rfl ?_;rintro f w1 v9 ⟨r9,rfl,hr⟩ hE h s
 refine ac h (aj (h.ev rfl)) rfl ?_;intro f h
 refine ah ?_
 refine hK2 _ _ ?_
 refine al fun K3 hK3=>?_
 refine al fun K4 hK4=>?_
 refine ae ?_
 refine ac h (ag (h.ev rfl)) rfl ?_;intro f h
 refine ac h (bX (h.ev rfl) (h.ev rfl)) rfl ?_;intro f h
 refine ah ?_
 refine hK4 _ _ ?_
 refine bM h rfl (fun hc=>?_) (fun hc=>?_)
 ·have hc:=of_decide_eq_true hc
  have hn:=(hr.resolve_right (fun ⟨k9,_,h9,_⟩=>by omega)).2
  refine al fun K5 hK5=>?_
  refine ae ?_
  refine ac h (ag (h.ev rfl)) rfl ?_;intro f h
  refine ac h (aj (h.ev rfl)) rfl ?_;intro f h
  refine ah ?_
  refine hK5 _ _ ?_
  refine wpIn_ret ?_
  refine aW ?_
  exact jA rfl h rfl (⟨_,rfl,pA (uW hn).symm s⟩)
 ·obtain ⟨k9,hk9,rfl,hpk,hpf⟩:=hr.resolve_left (fun h9=>of_decide_eq_false hc h9.1)
  have hqk:(!p (l.getD k9 aT))=false:=by rw [hpk];rfl
  obtain ⟨hst1,hst2⟩:=uw (q:=(fun x => !p x)) hk9 (fun i hi=>by rw [hpf i hi];rfl) hqk
  refine wpIn_skip ?_
  refine hK3 _ _ ?_
  refine al fun K6 hK6=>?_
  refine al fun K7 hK7=>?_
  refine ae ?_
  refine ac h (ag (h.ev rfl)) rfl ?_;intro f h
  refine ac h (cf (h.ev rfl) (h.ev rfl) (by omega)) rfl ?_;intro f h
  refine ac h (aj (h.ev rfl)) rfl ?_;intro f h
  refine ah ?_
  refine hK7 _ _ ?_
  refine wpIn_block ?_
  refine wpIn_loop_ghost (fun nn aa ww=>∃ j:Nat,Sl 42 aa [(0,vh),(1,.func (.func g9) #[] caps.toArray),(8,vh),(5,.int .i64 (((jL (fun x => !p x) l j):Nat):Int)),(6,.int .i64 (j:Int))]∧St w0 (.sl vh 28 33 (l).length (ap (pE (fun x => !p x) l j))::B9) ww∧nn=l.length - j∧k9+1≤j∧j≤l.length) (l.length - (k9+1)) ⟨k9+1,h.only ⟨rfl,rfl,rfl,aQ rfl (by omega),aQ rfl (by omega),trivial⟩,s.as ⟨fH rfl (by rw [hst1]),iM _⟩,rfl,by omega,by omega⟩ ?_
  rintro _ f w1 ⟨j,h,s,hnn,hp0,hp1⟩
  refine al fun K8 hK8=>?_
  refine al fun K9 hK9=>?_
  refine ae ?_
  refine ac h (ag (h.ev rfl)) rfl ?_;intro f h
  refine ac h (ag (h.ev rfl)) rfl ?_;intro f h
  refine cK 0 h s Tryz.underlying36 rfl rfl rfl ?_;intro f h
  refine ac h (bN (h.ev rfl) (h.ev rfl)) rfl ?_;intro f h
  refine ah ?_
  refine hK9 _ _ ?_
  refine bM h rfl (fun hc=>?_) (fun hc=>?_)
  ·replace hc:=of_decide_eq_true hc
   refine wpIn_skip ?_
   refine hK8 _ _ ?_
   refine al fun K10 hK10=>?_
   refine wpIn_block ?_
   refine al fun K11 hK11=>?_
   refine ae ?_
   have hjl:j<l.length:=by omega
   have hix:=rt (fun x => !p x) l j
   refine ac h (ag (h.ev rfl)) rfl ?_;intro f h
   refine ac h (ag (h.ev rfl)) rfl ?_;intro f h
   refine ac h (bZ (bq.of_own (s.getSl 0 rfl)) (j) Tryz.underlying36 cz (h.ev rfl) (h.ev rfl) (rfl) (by omega)) rfl ?_;intro f h
   refine aB ((bq.of_own (s.getSl 0 rfl)).el (j) (by omega) (by decide) (D:=aw (l.getD j aT)) ((cL (pE (fun x => !p x) l j) j (by rw [td];omega)).trans (by rw [zB hjl]))) h aL rfl (ak _) rfl ?_;intro f h
   refine bj (aw aT) h s cB rfl rfl ?_;intro f w1 b7 h s
   refine ax 0 h s aL rfl rfl rfl (ak _) (ak _) (aS _) ?_;intro w1 s
   refine ah ?_
   refine hK11 _ _ ?_
   refine al fun K12 hK12=>?_
   cases hq:(p (l.getD j aT):Bool)
   ·skip
    refine ae ?_
    refine ac h (ag (h.ev rfl)) rfl ?_;intro f h
    refine ar 0 h s aL rfl rfl (ak _) rfl ?_;intro f h
    refine iT [.agg (aw (l.getD j aT))] (caps:=caps) h s hg rfl (hp [_,_] _ s _ (eA hjl)) rfl rfl ?_;intro f w1 v28 hT hE h s;obtain rfl:=hT
    refine ac h (av (.bool true) (bh (h.ev rfl)) (by rw [hq];rfl)) rfl ?_;intro f h
    refine ah ?_
    refine hK12 _ _ ?_
    refine wpIn_cond_true (h.ev rfl) ?_
    refine al fun K13 hK13=>?_
    refine ae ?_
    refine ac h (ag (h.ev rfl)) rfl ?_;intro f h
    refine ac h (ag (h.ev rfl)) rfl ?_;intro f h
    refine ar 0 h s aL rfl rfl (ak _) rfl ?_;intro f h
    refine ac h (bZ (bq.of_own (s.getSl 1 rfl)) ((jL (fun x => !p x) l j)) Tryz.underlying36 cz (h.ev rfl) (h.ev rfl) (rfl) (by omega)) rfl ?_;intro f h
    refine er 1 ((jL (fun x => !p x) l j)) h s aL rfl rfl rfl (ak _) (by omega) (aS _) ((q8 (l:=(pE (fun x => !p x) l j)) _ (by rw [td];omega)).trans (congrArg ap (sD (q:=(fun x => !p x)) hjl (by rw [hq];rfl)).1.symm)) ?_;intro w1 s
    refine ah ?_
    refine hK13 _ _ ?_
    refine ae ?_
    refine ac h (ag (h.ev rfl)) rfl ?_;intro f h
    refine ac h (cf (h.ev rfl) (h.ev rfl) (by omega)) rfl ?_;intro f h
    refine ac h (aj (h.ev rfl)) rfl ?_;intro f h
    refine ah ?_
    refine bF ?_
    refine hK10 _ _ ?_
    refine ae ?_
    refine ac h (ag (h.ev rfl)) rfl ?_;intro f h
    refine ac h (cf (h.ev rfl) (h.ev rfl) (by omega)) rfl ?_;intro f h
    refine ac h (aj (h.ev rfl)) rfl ?_;intro f h
    refine ah ?_
    refine bQ ?_
    have h8:=(sD (q:=(fun x => !p x)) hjl (by rw [hq];rfl)).2
    exact ⟨_,by omega,⟨j+1,h.only ⟨rfl,rfl,rfl,aQ rfl (by omega),aQ rfl (by omega),trivial⟩,St.as (s.pick _ (List.sublist_append_right [_] _)) ⟨rfl,iM _⟩,rfl,by omega,by omega⟩⟩
   ·skip
    refine ae ?_
    refine ac h (ag (h.ev rfl)) rfl ?_;intro f h
    refine ar 0 h s aL rfl rfl (ak _) rfl ?_;intro f h
    refine iT [.agg (aw (l.getD j aT))] (caps:=caps) h s hg rfl (hp [_,_] _ s _ (eA hjl)) rfl rfl ?_;intro f w1 v28 hT hE h s;obtain rfl:=hT
    refine ac h (av (.bool false) (bh (h.ev rfl)) (by rw [hq];rfl)) rfl ?_;intro f h
    refine ah ?_
    refine hK12 _ _ ?_
    refine wpIn_cond_false (h.ev rfl) ?_
    refine wpIn_skip ?_
    refine bF ?_
    refine hK10 _ _ ?_
    refine ae ?_
    refine ac h (ag (h.ev rfl)) rfl ?_;intro f h
    refine ac h (cf (h.ev rfl) (h.ev rfl) (by omega)) rfl ?_;intro f h
    refine ac h (aj (h.ev rfl)) rfl ?_;intro f h
    refine ah ?_
    refine bQ ?_
    obtain ⟨h7,h8⟩:=yf (q:=(fun x => !p x)) hjl (by rw [hq];rfl)
    exact ⟨_,by omega,⟨j+1,h.only ⟨rfl,rfl,rfl,aQ rfl (by omega),aQ rfl (by omega),trivial⟩,St.as (s.pick _ (List.sublist_append_right [_] _)) ⟨fH rfl (by rw [h7]),iM _⟩,rfl,by omega,by omega⟩⟩
  ·replace hc:=of_decide_eq_false hc
   refine wpIn_exit ?_
   refine bJ ?_
   refine bJ ?_
   refine cC ?_
   refine hK6 _ _ ?_
   refine al fun K14 hK14=>?_
   refine ae ?_
   obtain rfl:j=l.length:=by omega
   have hlt:=BQ (q:=(fun x => !p x)) hk9 hqk
   have hI:=zO (fun x => !p x) l
   obtain ⟨b9,cap,cur,fz,hvh,hfz,hnc,hcm,hcs,hct,s2⟩:=s.open_sl (by omega)
   clear s
   subst hvh
   have s:=s2
   have hz33:(Value.agg (aw aT)).cells.size=33:=ak _
   refine ac h (ag (h.ev rfl)) rfl ?_;intro f h
   refine ac h (ag (h.ev rfl)) rfl ?_;intro f h
   refine ac h (av (.slice (some ⟨b9,(jL (fun x => !p x) l l.length)*33,none⟩) (l.length - (jL (fun x => !p x) l l.length)) (cap - (jL (fun x => !p x) l l.length))) (lI (i:=(jL (fun x => !p x) l l.length)) Tryz.underlying36 cz (h.ev rfl) (h.ev rfl) rfl (by omega)) (by unfold DT;rw [if_neg (by omega)])) rfl ?_;intro f h
   refine qo (fz:=fz) (Z:=.agg (aw aT)) 0 h s Tryz.underlying36 cB rfl (by omega) rfl hfz (by rw [hz33];omega) (aS _) ?_;intro w1 s
   refine ah ?_
   refine hK14 _ _ ?_
   refine al fun K15 hK15=>?_
   refine ae ?_
   refine ac h (ag (h.ev rfl)) rfl ?_;intro f h
   refine ac h (ag (h.ev rfl)) rfl ?_;intro f h
   refine ac h (lP (i:=(jL (fun x => !p x) l l.length)) Tryz.underlying36 cz (h.ev rfl) (h.ev rfl) rfl (by omega)) rfl ?_;intro f h
   refine ac h (aj (h.ev rfl)) rfl ?_;intro f h
   refine ah ?_
   refine hK15 _ _ ?_
   refine wpIn_ret ?_
   exact jA rfl h rfl (⟨_,rfl,(by have hzl:(Builtin.zeroCells (Value.agg (aw aT)).cells (l.length - (jL (fun x => !p x) l l.length))).toList.length=(l.length - (l.filter fun x => !p x).length)*33:=(by rw [Array.length_toList,size_zeroCells,hz33,hI]);obtain ⟨hf1,hf2⟩:=wS cur.toList _ (fun x => !p x) l hct (by have e9:=Array.length_toList (xs:=cur);omega) hzl ((jL (fun x => !p x) l l.length)*33) (by rw [hI]) ((l.length - (jL (fun x => !p x) l l.length))*(Value.agg (aw aT)).cells.size) (by rw [hz33,hI]);rw [← hI];exact s.close_sl (by rw [List.size_toArray];exact hfz.imp id fun h9=>(by rw [hf1,Array.length_toList];exact h9)) (by omega) hcm (by rw [List.size_toArray];exact hf1.trans hcs) hf2 (by rw [eu,hI]))⟩)
set_option maxHeartbeats 1000000 in
theorem ue (n:Nd) (vs vf:Value) (nos:List Int) (vn:Value) (w:World) (hRs:bq w vs 33 n.sc.length (ap n.sc)) (hRf:bq w vf 33 n.fg.length (ap n.fg)) (hns:n.sc.length≤1000) (hnf:n.fg.length≤1000) (hN:bq w vn 1 nos.length (nos.map (Value.int .i64))) (hnn:nos.length≤1000):Calls Tryz.prog 96 [.agg (aC n.me n.pr vs vf),vn].toArray w (cU w (rK w 28 (Cu n nos) (Ct n))):=by
 refine bp Tryz.func96 rfl Tryz.ntmps96 rfl [(0,.agg (aC n.me n.pr vs vf)),(1,vn)] (by simp) fun f h=>?_
 have s:=St.start w
 refine al fun K1 hK1=>?_
 refine ae ?_
 refine bV (aC n.me n.pr vs vf) h s rfl rfl rfl ?_;intro f w1 b2 h s
 refine bV (#[vn]) h s rfl (Bk (hN.keep s.ext)) rfl ?_;intro f w1 b3 h s
 refine bj (aC aT aT a8 a8) h s ea rfl rfl ?_;intro f w1 b4 h s
 refine ac h (aj (h.ev rfl)) rfl ?_;intro f h
 refine ah ?_
 refine hK1 _ _ ?_
 refine al fun K2 hK2=>?_
 refine al fun K3 hK3=>?_
 cases hr:(cy n:Bool)
 ·skip
  refine ae ?_
  refine ar 2 h s aZ rfl rfl (aq _ _ _ _) rfl ?_;intro f h
  refine aH h s gA (aO (.bool false) (dd n vs vf _ (hRs.keep s.ext) (hRf.keep s.ext) hns hnf) (congrArg Value.bool hr)) rfl rfl ?_;intro f w1 v9 hT hE h s;obtain rfl:=hT
  refine ac h (av (.bool true) (bh (h.ev rfl)) rfl) rfl ?_;intro f h
  refine ah ?_
  refine hK3 _ _ ?_
  refine wpIn_cond_true (h.ev rfl) ?_
  refine al fun K4 hK4=>?_
  refine ae ?_
  refine ac h (eC qt) rfl ?_;intro f h
  refine ax 0 h s aZ rfl rfl rfl (aq _ _ _ _) (aq _ _ _ _) (a7 (rfl) (rfl)) ?_;intro w1 s
  refine ac h (aj (h.ev rfl)) rfl ?_;intro f h
  refine ah ?_
  refine hK4 _ _ ?_
  refine wpIn_ret ?_
  refine aW ?_
  exact ct 0 rfl h s aZ rfl rfl (aq _ _ _ _) rfl (kO s (A2 nos hr).1 (A2 nos hr).2)
 ·skip
  refine ae ?_
  refine ar 2 h s aZ rfl rfl (aq _ _ _ _) rfl ?_;intro f h
  refine aH h s gA (aO (.bool true) (dd n vs vf _ (hRs.keep s.ext) (hRf.keep s.ext) hns hnf) (congrArg Value.bool hr)) rfl rfl ?_;intro f w1 v9 hT hE h s;obtain rfl:=hT
  refine ac h (av (.bool false) (bh (h.ev rfl)) rfl) rfl ?_;intro f h
  refine ah ?_
  refine hK3 _ _ ?_
  refine wpIn_cond_false (h.ev rfl) ?_
  refine wpIn_skip ?_
  refine hK2 _ _ ?_
  refine al fun K5 hK5=>?_
  refine ae ?_
  have hrt:=hr
  refine ac h (dY [.pointer (some ⟨b3,0,none⟩)] (lQ h rfl)) rfl ?_;intro f h
  refine ac h (aj (h.ev rfl)) rfl ?_;intro f h
  refine ah ?_
  refine hK5 _ _ ?_
  refine al fun K6 hK6=>?_
  refine ae ?_
  refine ar 2 h s aZ rfl rfl (aq _ _ _ _) rfl ?_;intro f h
  refine aH h s x5 (ju n vs vf _ (hRs.keep s.ext) (hRf.keep s.ext) hns hnf) rfl rfl ?_;rintro f w1 v13 ⟨us,uf,rfl,hS⟩ hE h sq;replace s:=s.add hS
  refine ax 4 h s aZ rfl rfl rfl (aq _ _ _ _) (aq _ _ _ _) (a7 (aX (s.getSl 0 rfl)) (aX (s.getSl 1 rfl))) ?_;intro w1 s
  refine ah ?_
  refine hK6 _ _ ?_
  refine al fun K7 hK7=>?_
  refine mt 1 7 [[],[0],[],[0,1,2],[],[4],[0,1,2,3,4,5],[0,1,2,3,4,5,6],[0,1,2,3,4,5,6,7]] [[],[],[],[9],[],[],[3],[],[]] [fun _=>[],fun _=>[],fun _=>[],fun v=>[.sl (v 3) 28 33 (n.sc.filter fun x => !(dX nos) x).length (ap (n.sc.filter fun x => !(dX nos) x))],fun _=>[],fun _=>[],fun v=>[.sl (v 6) 28 33 (ky (n.sc.filter fun x => !(dX nos) x) n.me).length (ap (ky (n.sc.filter fun x => !(dX nos) x) n.me))],fun _=>[],fun _=>[]] [[.sl us 28 33 n.sc.length (ap n.sc)]] [fun v=>v 0=.pointer (some ⟨b2,66,none⟩),fun v=>v 1=us,fun v=>v 2=.func (.func 127) #[] #[.pointer (some ⟨b3,0,none⟩)],fun _=>True,fun v=>v 4=.pointer (some ⟨b2,0,none⟩),fun v=>v 5=.agg (aw n.me),fun _=>True,fun _=>True,fun _=>True] [.sl uf 28 33 n.fg.length (ap n.fg),.blk b4 (.cells (aC aT aT a8 a8) 42),.blk b3 (.cells (#[vn]) 78),.blk b2 (.cells (aC n.me n.pr us uf) 42)] h s rfl (by kernel_rfl) (by kernel_rfl) (by kernel_rfl) (And.intro ?_ (And.intro ?_ (And.intro ?_ (And.intro ?_ (And.intro ?_ (And.intro ?_ (And.intro ?_ (trivial)))))))) [0,1,2,4,5,6] (by kernel_rfl) ?_
  ·intro f9 w2 vl5 E9 hs9 hd9 hl hF s
   have e2:f9.tmps.getD 2 undef=_:=cI hl 2 (by kernel_rfl) (by kernel_rfl) (h.holds 2 _ rfl)
   have h:=ay [(2,_)] (hs9.trans h.size) (hd9.trans h.defers) (holds_lk ⟨e2,trivial⟩)
   replace s:St w (.sl uf 28 33 n.fg.length (ap n.fg)::.blk b4 (.cells (aC aT aT a8 a8) 42)::.blk b3 (.cells (#[vn]) 78)::.blk b2 (.cells (aC n.me n.pr us uf) 42)::E9) _:=s
   refine ac h (ai bD (h.ev rfl)) rfl ?_;intro f h
   exact ah ⟨_,bi 14 rfl (h.holds 14 _ rfl),rfl,s⟩
  ·intro f9 w2 vl5 E9 hs9 hd9 hl hF s
   have e14:f9.tmps.getD 14 undef=.pointer (some ⟨b2,66,none⟩):=(br hl 14 0 (by kernel_rfl) (by kernel_rfl)).trans (hF 0 (by decide))
   have h:=ay [(14,.pointer (some ⟨b2,66,none⟩))] (hs9.trans h.size) (hd9.trans h.defers) (holds_lk ⟨e14,trivial⟩)
   replace s:St w (.sl uf 28 33 n.fg.length (ap n.fg)::.blk b4 (.cells (aC aT aT a8 a8) 42)::.blk b3 (.cells (#[vn]) 78)::.blk b2 (.cells (aC n.me n.pr us uf) 42)::E9) _:=s
   refine au (V:=us) (am (aU.of_own s 3 rfl) 66 (bL _ _ _ _)) h bE rfl rfl ?_;intro f h
   exact ah ⟨_,bi 15 rfl (h.holds 15 _ rfl),rfl,s⟩
  ·intro f9 w2 vl5 E9 hs9 hd9 hl hF s
   have e6:f9.tmps.getD 6 undef=_:=cI hl 6 (by kernel_rfl) (by kernel_rfl) (h.holds 6 _ rfl)
   have h:=ay [(6,_)] (hs9.trans h.size) (hd9.trans h.defers) (holds_lk ⟨e6,trivial⟩)
   replace s:St w (.sl uf 28 33 n.fg.length (ap n.fg)::.blk b4 (.cells (aC aT aT a8 a8) 42)::.blk b3 (.cells (#[vn]) 78)::.blk b2 (.cells (aC n.me n.pr us uf) 42)::E9) _:=s
   refine ac h (ag (h.ev rfl)) rfl ?_;intro f h
   exact ah ⟨_,bi 16 rfl (h.holds 16 _ rfl),rfl,s⟩
  ·intro f9 w2 vl5 E9 hs9 hd9 hl hF s
   have e15:f9.tmps.getD 15 undef=us:=(br hl 15 1 (by kernel_rfl) (by kernel_rfl)).trans (hF 1 (by decide))
   have e16:f9.tmps.getD 16 undef=.func (.func 127) #[] #[.pointer (some ⟨b3,0,none⟩)]:=(br hl 16 2 (by kernel_rfl) (by kernel_rfl)).trans (hF 2 (by decide))
   have h:=ay [(15,us),(16,.func (.func 127) #[] #[.pointer (some ⟨b3,0,none⟩)])] (hs9.trans h.size) (hd9.trans h.defers) (holds_lk ⟨e15,e16,trivial⟩)
   replace s:St w (.sl us 28 33 n.sc.length (ap n.sc)::.sl uf 28 33 n.fg.length (ap n.fg)::.blk b4 (.cells (aC aT aT a8 a8) 42)::.blk b3 (.cells (#[vn]) 78)::.blk b2 (.cells (aC n.me n.pr us uf) 42)::E9) _:=s
   refine dq [us,.func (.func 127) #[] #[.pointer (some ⟨b3,0,none⟩)]] h xh (li n.sc hns us 127 [.pointer (some ⟨b3,0,none⟩)] (dX nos) _ _ _ s oH (fun A9 w9 s9 x hx=>iJ x nos vn b3 w9 (g7.of_mem (u:=78) s9 (by simp)) (hN.keep s9.ext) hnn)) rfl rfl ?_;rintro f w1 v17 s h
   exact ah ⟨_,bi 17 rfl (h.holds 17 _ rfl),trivial,s⟩
  ·intro f9 w2 vl5 E9 hs9 hd9 hl hF s
   have e2:f9.tmps.getD 2 undef=_:=cI hl 2 (by kernel_rfl) (by kernel_rfl) (h.holds 2 _ rfl)
   have h:=ay [(2,_)] (hs9.trans h.size) (hd9.trans h.defers) (holds_lk ⟨e2,trivial⟩)
   replace s:St w (.sl uf 28 33 n.fg.length (ap n.fg)::.blk b4 (.cells (aC aT aT a8 a8) 42)::.blk b3 (.cells (#[vn]) 78)::.blk b2 (.cells (aC n.me n.pr us uf) 42)::E9) _:=s
   refine ac h (ai aR (h.ev rfl)) rfl ?_;intro f h
   exact ah ⟨_,bi 18 rfl (h.holds 18 _ rfl),rfl,s⟩
  ·intro f9 w2 vl5 E9 hs9 hd9 hl hF s
   have e18:f9.tmps.getD 18 undef=.pointer (some ⟨b2,0,none⟩):=(br hl 18 4 (by kernel_rfl) (by kernel_rfl)).trans (hF 4 (by decide))
   have h:=ay [(18,.pointer (some ⟨b2,0,none⟩))] (hs9.trans h.size) (hd9.trans h.defers) (holds_lk ⟨e18,trivial⟩)
   replace s:St w (.sl uf 28 33 n.fg.length (ap n.fg)::.blk b4 (.cells (aC aT aT a8 a8) 42)::.blk b3 (.cells (#[vn]) 78)::.blk b2 (.cells (aC n.me n.pr us uf) 42)::E9) _:=s
   refine aB (aU.subL (aU.of_own s 3 rfl) 0 33 (D:=aw n.me) (bT _ _ _ _)) h aL rfl (ak _) rfl ?_;intro f h
   exact ah ⟨_,bi 19 rfl (h.holds 19 _ rfl),rfl,s⟩
  ·intro f9 w2 vl5 E9 hs9 hd9 hl hF s
   have e17:f9.tmps.getD 17 undef=(vl5 3):=br hl 17 3 (by kernel_rfl) (by kernel_rfl)
   have e19:f9.tmps.getD 19 undef=.agg (aw n.me):=(br hl 19 5 (by kernel_rfl) (by kernel_rfl)).trans (hF 5 (by decide))
   have h:=ay [(17,(vl5 3)),(19,.agg (aw n.me))] (hs9.trans h.size) (hd9.trans h.defers) (holds_lk ⟨e17,e19,trivial⟩)
   replace s:St w (.sl (vl5 3) 28 33 (n.sc.filter fun x => !(dX nos) x).length (ap (n.sc.filter fun x => !(dX nos) x))::.sl uf 28 33 n.fg.length (ap n.fg)::.blk b4 (.cells (aC aT aT a8 a8) 42)::.blk b3 (.cells (#[vn]) 78)::.blk b2 (.cells (aC n.me n.pr us uf) 42)::E9) _:=s
   refine dq [(vl5 3),.agg (aw n.me)] h vJ (lf (n.sc.filter fun x => !(dX nos) x) (vl5 3) n.me _ _ _ s) rfl rfl ?_;rintro f w1 v20 s h
   exact ah ⟨_,bi 20 rfl (h.holds 20 _ rfl),trivial,s⟩
  intro f w1 vl5 hs9 hd9 hv hr hF s
  replace hv:=fun i d h9=>hv i d (show Nat.blt i 7=true from h9)
  replace h:=nf 7 (ops:=_) [(14,.pointer (some ⟨b2,66,none⟩)),(15,us),(16,.func (.func 127) #[] #[.pointer (some ⟨b3,0,none⟩)]),(17,(vl5 3)),(18,.pointer (some ⟨b2,0,none⟩)),(19,.agg (aw n.me)),(20,(vl5 6))] h hs9 hd9 hr ⟨(hv 0 14 rfl rfl).trans (hF 0 (by kernel_rfl)),(hv 1 15 rfl rfl).trans (hF 1 (by kernel_rfl)),(hv 2 16 rfl rfl).trans (hF 2 (by kernel_rfl)),hv 3 17 rfl rfl,(hv 4 18 rfl rfl).trans (hF 4 (by kernel_rfl)),(hv 5 19 rfl rfl).trans (hF 5 (by kernel_rfl)),hv 6 20 rfl rfl,trivial⟩ (by kernel_rfl)
  replace s:St w [.sl (vl5 6) 28 33 (ky (n.sc.filter fun x => !(dX nos) x) n.me).length (ap (ky (n.sc.filter fun x => !(dX nos) x) n.me)),.sl uf 28 33 n.fg.length (ap n.fg),.blk b4 (.cells (aC aT aT a8 a8) 42),.blk b3 (.cells (#[vn]) 78),.blk b2 (.cells (aC n.me n.pr us uf) 42)] _:=s
  refine ac h (ai bD (h.ev rfl)) rfl ?_;intro f h
  refine bg 4 h s bE rfl rfl rfl (by rw [aq];omega) (aX (s.getSl 0 rfl)) ?_;intro w1 s
  replace s:=s.recell (D:=aC n.me n.pr (vl5 6) uf) 4 rfl (ek _ _ _ _ _)
  refine ah ?_
  refine hK7 _ _ ?_
  refine al fun K8 hK8=>?_
  refine ae ?_
  refine ac h (ai cR (h.ev rfl)) rfl ?_;intro f h
  refine au (V:=uf) (am (aU.of_own s 4 rfl) 67 (cT _ _ _ _)) h bE rfl rfl ?_;intro f h
  refine ac h (ag (h.ev rfl)) rfl ?_;intro f h
  replace s:=(s.sel [1,0,2,3,4] rfl (by decide))
  refine dq [uf,.func (.func 127) #[] #[.pointer (some ⟨b3,0,none⟩)]] h xh (li n.fg hnf uf 127 [.pointer (some ⟨b3,0,none⟩)] (dX nos) _ _ _ s oH (fun A9 w9 s9 x hx=>iJ x nos vn b3 w9 (g7.of_mem (u:=78) s9 (by simp)) (hN.keep s9.ext) hnn)) rfl rfl ?_;rintro f w1 v25 s h
  refine ac h (ai cR (h.ev rfl)) rfl ?_;intro f h
  refine bg 4 h s bE rfl rfl rfl (by rw [aq];omega) (aX (s.getSl 0 rfl)) ?_;intro w1 s
  replace s:=s.recell (D:=aC n.me n.pr (vl5 6) v25) 4 rfl (iz _ _ _ _ _)
  refine ah ?_
  refine hK8 _ _ ?_
  refine al fun K9 hK9=>?_
  refine al fun K10 hK10=>?_
  cases hgn:(dX nos n.pr:Bool)
  ·skip
   refine ae ?_
   refine ac h (ag (h.ev rfl)) rfl ?_;intro f h
   refine ac h (ai bR (h.ev rfl)) rfl ?_;intro f h
   refine aB (aU.subL (aU.of_own s 4 rfl) 33 33 (D:=aw n.pr) (cb _ _ _ _)) h aL rfl (ak _) rfl ?_;intro f h
   refine iT [.agg (aw n.pr)] (caps:=[.pointer (some ⟨b3,0,none⟩)]) h s oH rfl (aO (.bool false) (iJ n.pr nos vn b3 _ (g7.of_own s 3 rfl) (hN.keep s.ext) hnn) (congrArg Value.bool hgn)) rfl rfl ?_;intro f w1 v30 hT hE h s;obtain rfl:=hT
   refine ah ?_
   refine hK10 _ _ ?_
   refine wpIn_cond_false (h.ev rfl) ?_
   refine wpIn_skip ?_
   refine hK9 _ _ ?_
   refine al fun K11 hK11=>?_
   refine ae ?_
   refine ar 4 h s aZ rfl rfl (aq _ _ _ _) rfl ?_;intro f h
   refine ax 2 h s aZ rfl rfl rfl (aq _ _ _ _) (aq _ _ _ _) (a7 (aX (s.getSl 1 rfl)) (aX (s.getSl 0 rfl))) ?_;intro w1 s
   refine ac h (aj (h.ev rfl)) rfl ?_;intro f h
   refine ah ?_
   refine hK11 _ _ ?_
   refine wpIn_ret ?_
   exact ct 2 rfl h s aZ rfl rfl (aq _ _ _ _) rfl (gI ((nY nos hrt).1.trans (by rw [As hgn];rfl)) (nY nos hrt).2 (s.sel [1,0] rfl (by decide)))
  ·skip
   refine ae ?_
   refine ac h (ag (h.ev rfl)) rfl ?_;intro f h
   refine ac h (ai bR (h.ev rfl)) rfl ?_;intro f h
   refine aB (aU.subL (aU.of_own s 4 rfl) 33 33 (D:=aw n.pr) (cb _ _ _ _)) h aL rfl (ak _) rfl ?_;intro f h
   refine iT [.agg (aw n.pr)] (caps:=[.pointer (some ⟨b3,0,none⟩)]) h s oH rfl (aO (.bool true) (iJ n.pr nos vn b3 _ (g7.of_own s 3 rfl) (hN.keep s.ext) hnn) (congrArg Value.bool hgn)) rfl rfl ?_;intro f w1 v30 hT hE h s;obtain rfl:=hT
   refine ah ?_
   refine hK10 _ _ ?_
   refine wpIn_cond_true (h.ev rfl) ?_
   refine ae ?_
   refine aH h s gb (dL _) rfl rfl ?_;intro f w1 v9 hT hE h s;obtain rfl:=hT
   refine ac h (ai bR (h.ev rfl)) rfl ?_;intro f h
   refine dM 4 h s aL rfl rfl rfl (ak _) (by rw [aq];omega) (aS _) ?_;intro w1 s
   replace s:=s.recell (D:=aC n.me de (vl5 6) v25) 4 rfl (fK _ _ _ _ _)
   refine ah ?_
   refine hK9 _ _ ?_
   refine al fun K12 hK12=>?_
   refine ae ?_
   refine ar 4 h s aZ rfl rfl (aq _ _ _ _) rfl ?_;intro f h
   refine ax 2 h s aZ rfl rfl rfl (aq _ _ _ _) (aq _ _ _ _) (a7 (aX (s.getSl 1 rfl)) (aX (s.getSl 0 rfl))) ?_;intro w1 s
   refine ac h (aj (h.ev rfl)) rfl ?_;intro f h
   refine ah ?_
   refine hK12 _ _ ?_
   refine wpIn_ret ?_
   exact ct 2 rfl h s aZ rfl rfl (aq _ _ _ _) rfl (gI ((nY nos hrt).1.trans (by rw [Ai hgn];rfl)) (nY nos hrt).2 (s.sel [1,0] rfl (by decide)))
theorem yI (no:Int) (a9:Option Addr) (n9 c9:Nat) (B9:List Own) (w0 w:World) (s:St w0 B9 w):Calls Tryz.prog 123 [.int .i64 no,.slice a9 n9 c9].toArray w (fun e w9=>∃ r,e=.returned r∧∃ bs bn,r=.func (.func 142) #[] #[.pointer (some ⟨bs,0,none⟩),.pointer (some ⟨bn,0,none⟩)]∧St w0 (.blk bs (.cells #[.slice a9 n9 c9] 36)::.blk bn (.cells #[.int .i64 no] 3)::B9) w9):=by
 refine eJ Tryz.func123 rfl Tryz.ntmps123 rfl [(0,.int .i64 no),(1,.slice a9 n9 c9)] (by simp) fun f h=>?_
 refine al fun K1 hK1=>?_
 refine ae ?_
 refine bV (#[.int .i64 no]) h s rfl rfl rfl ?_;intro f w1 b2 h s
 refine bV (#[.slice a9 n9 c9]) h s rfl rfl rfl ?_;intro f w1 b3 h s
 refine ac h (aj (h.ev rfl)) rfl ?_;intro f h
 refine ah ?_
 refine hK1 _ _ ?_
 refine al fun K2 hK2=>?_
 refine ae ?_
 refine ac h (dY [.pointer (some ⟨b3,0,none⟩),.pointer (some ⟨b2,0,none⟩)] (lQ h rfl)) rfl ?_;intro f h
 refine ac h (aj (h.ev rfl)) rfl ?_;intro f h
 refine ah ?_
 refine hK2 _ _ ?_
 refine wpIn_ret ?_
 exact jA rfl h rfl (⟨_,rfl,b3,b2,rfl,s⟩)
theorem xJ (no:Int) (l:List Mb) (vh:Value) (B9:List Own) (w0 w:World) (s:St w0 B9 w) (hR:bq w vh 33 l.length (ap l)):Calls Tryz.prog 123 [.int .i64 no,vh].toArray w (fun e w9=>∃ r,e=.returned r∧∃ bs bn,r=.func (.func 142) #[] #[.pointer (some ⟨bs,0,none⟩),.pointer (some ⟨bn,0,none⟩)]∧St w0 (.blk bs (.cells #[vh] 36)::.blk bn (.cells #[.int .i64 no] 3)::B9) w9):=by
 obtain ⟨a,c,rfl⟩:=hR.len
 exact yI no a _ c B9 w0 w s
theorem ur (no:Int) (l:List Mb) (hln:l.length≤1000) (vh:Value) (lp bs bn:Nat) (q:Nat→Bool) (GG:Nat→Own→Prop) (g0:Own) (w0 w:World) (s:St w0 [.blk bs (.cells #[vh] 36),.blk bn (.cells #[.int .i64 no] 3),.sl vh 28 33 l.length (ap l),g0] w) (hg0:GG 0 g0) (hY:∀ (d:Nat) (B9:List Own) (w9:World) (i:Nat) (g:Own),d<(cD no l).length→(∀ j,j<d→q j=false)→GG d g→St w0 B9 w9→B9[i]? = some g→ie Tryz.prog lp [Value.agg (aw ((cD no l).getD d aT))].toArray w9 (fun v w2=>v=.bool (!q d)∧∃ g',GG (d+1) g'∧St w0 (B9.set i g') w2)):Calls Tryz.prog 142 [.func (.yield lp) #[] #[],.pointer (some ⟨bs,0,none⟩),.pointer (some ⟨bn,0,none⟩)].toArray w (fun e w9=>(∃ v,e=.returned v)∧∃ d g,GG d g∧St w0 ([.blk bs (.cells #[vh] 36),.blk bn (.cells #[.int .i64 no] 3),.sl vh 28 33 l.length (ap l)]++[g]) w9∧d≤(cD no l).length∧(∀ j,j+1<d→q j=false)∧(lq q d=false→d=(cD no l).length)):=by
 refine eJ Tryz.func142 rfl Tryz.ntmps142 rfl [(0,.func (.yield lp) #[] #[]),(1,.pointer (some ⟨bs,0,none⟩)),(2,.pointer (some ⟨bn,0,none⟩))] (by simp) fun f h=>?_
 refine al fun K1 hK1=>?_
 refine ae ?_
 refine cw 0 h s bE rfl rfl (rfl) rfl ?_;intro f h
 refine cK 2 h s Tryz.underlying36 rfl rfl rfl ?_;intro f h
 refine ac h (ag (h.ev rfl)) rfl ?_;intro f h
 refine ah ?_
 refine hK1 _ _ ?_
 refine wpIn_block ?_
 refine wpIn_loop_ghost (fun nn aa ww=>∃ d:Nat,∃ gg:Own,Sl 23 aa [(0,.func (.yield lp) #[] #[]),(1,.pointer (some ⟨bs,0,none⟩)),(2,.pointer (some ⟨bn,0,none⟩)),(6,vh),(7,.int .i64 (l.length:Int)),(8,.int .i64 (d:Int))]∧St w0 [.blk bs (.cells (#[vh]) 36),.blk bn (.cells (#[.int .i64 no]) 3),.sl vh 28 33 l.length (ap l),(gg)] ww∧nn=l.length - d∧d≤(cD no l).length∧GG d gg∧∀ j,j<d→q j=false) (l.length - (0)) ⟨0,g0,h.only ⟨rfl,rfl,rfl,rfl,rfl,aQ rfl (by omega),trivial⟩,s.as ⟨rfl,rfl,rfl,rfl,trivial⟩,rfl,Nat.zero_le _,hg0,fun j hj=>absurd hj (Nat.not_lt_zero _)⟩ ?_
 rintro _ f w1 ⟨d,gg,h,s,hnn,hp0,hp1,hp2⟩
 refine al fun K2 hK2=>?_
 refine ae ?_
 refine ac h (bN (h.ev rfl) (h.ev rfl)) rfl ?_;intro f h
 refine ah ?_
 refine hK2 _ _ ?_
 refine al fun K3 hK3=>?_
 refine bM h rfl (fun hc=>?_) (fun hc=>?_)
 ·replace hc:=of_decide_eq_true hc
  refine wpIn_skip ?_
  refine hK3 _ _ ?_
  refine al fun K4 hK4=>?_
  refine wpIn_block ?_
  refine al fun K5 hK5=>?_
  refine ae ?_
  have hdl:d<l.length:=by omega
  refine ac h (bZ (bq.of_own (s.getSl 2 rfl)) (d) Tryz.underlying36 cz (h.ev rfl) (h.ev rfl) (by omega) (by omega)) rfl ?_;intro f h
  refine aB ((bq.of_own (s.getSl 2 rfl)).el (d) (by omega) (by decide) (D:=aw (l.getD d aT)) (cL l d hdl)) h aL rfl (ak _) rfl ?_;intro f h
  refine bj (aw aT) h s cB rfl rfl ?_;intro f w1 b5 h s
  refine ax 0 h s aL rfl rfl rfl (ak _) (ak _) (aS _) ?_;intro w1 s
  refine ah ?_
  refine hK5 _ _ ?_
  refine al fun K6 hK6=>?_
  cases hs9:(decide ((l.getD d aT).1=no):Bool)
  ·skip
   cases hq:(q d:Bool)
   ·skip
    refine ae ?_
    refine ac h (ai aJ (h.ev rfl)) rfl ?_;intro f h
    refine au (am (aU.of_own s 0 rfl) 0 (aP _)) h bz rfl rfl ?_;intro f h
    refine cw 2 h s bz rfl rfl (rfl) rfl ?_;intro f h
    refine ac h (av (.bool false) (bX (h.ev rfl) (h.ev rfl)) (congrArg Value.bool hs9)) rfl ?_;intro f h
    refine ac h (ag (h.ev rfl)) rfl ?_;intro f h
    refine az h rfl rfl rfl ?_
    have hdm:d<(cD no l).length:=jR hp0 hdl hs9
    refine ac h (ag (h.ev rfl)) rfl ?_;intro f h
    refine az h rfl rfl rfl ?_
    refine ar 0 h s aL rfl rfl (ak _) rfl ?_;intro f h
    refine az h rfl rfl rfl ?_
    refine fD (V:=.bool true) (G:=GG (d+1)) [.agg (aw (l.getD d aT))] 4 h rfl rfl (by have h9:=hY d _ _ 4 gg hdm hp2 hp1 s rfl;rw [hq,fX hdm] at h9;exact h9) rfl ?_;intro f w1 g1 hg1 h s
    refine az h rfl rfl rfl ?_
    refine ac h (av (.bool false) (bh (h.ev rfl)) rfl) rfl ?_;intro f h
    refine ac h (aG (h.ev rfl) (h.ev rfl)) rfl ?_;intro f h
    refine ah ?_
    refine hK6 _ _ ?_
    refine wpIn_cond_false (h.ev rfl) ?_
    refine wpIn_skip ?_
    refine bF ?_
    refine hK4 _ _ ?_
    refine ae ?_
    refine ac h (cf (h.ev rfl) (h.ev rfl) (by omega)) rfl ?_;intro f h
    refine ac h (ag (h.ev rfl)) rfl ?_;intro f h
    refine ah ?_
    refine bQ ?_
    exact ⟨_,by omega,⟨d+1,g1,h.only ⟨rfl,rfl,rfl,rfl,rfl,aQ rfl (by omega),trivial⟩,St.as (s.pick _ (List.sublist_append_right [_] _)) ⟨rfl,rfl,rfl,rfl,trivial⟩,rfl,hdm,hg1,dm hp2 hq⟩⟩
   ·skip
    refine ae ?_
    refine ac h (ai aJ (h.ev rfl)) rfl ?_;intro f h
    refine au (am (aU.of_own s 0 rfl) 0 (aP _)) h bz rfl rfl ?_;intro f h
    refine cw 2 h s bz rfl rfl (rfl) rfl ?_;intro f h
    refine ac h (av (.bool false) (bX (h.ev rfl) (h.ev rfl)) (congrArg Value.bool hs9)) rfl ?_;intro f h
    refine ac h (ag (h.ev rfl)) rfl ?_;intro f h
    refine az h rfl rfl rfl ?_
    have hdm:d<(cD no l).length:=jR hp0 hdl hs9
    refine ac h (ag (h.ev rfl)) rfl ?_;intro f h
    refine az h rfl rfl rfl ?_
    refine ar 0 h s aL rfl rfl (ak _) rfl ?_;intro f h
    refine az h rfl rfl rfl ?_
    refine fD (V:=.bool false) (G:=GG (d+1)) [.agg (aw (l.getD d aT))] 4 h rfl rfl (by have h9:=hY d _ _ 4 gg hdm hp2 hp1 s rfl;rw [hq,fX hdm] at h9;exact h9) rfl ?_;intro f w1 g1 hg1 h s
    refine az h rfl rfl rfl ?_
    refine ac h (av (.bool true) (bh (h.ev rfl)) rfl) rfl ?_;intro f h
    refine ac h (aG (h.ev rfl) (h.ev rfl)) rfl ?_;intro f h
    refine ah ?_
    refine hK6 _ _ ?_
    refine wpIn_cond_true (h.ev rfl) ?_
    refine wpIn_ret ?_
    refine bU ?_
    refine aW ?_
    refine aW ?_
    refine bU ?_
    exact j3 rfl h (⟨⟨_,rfl⟩,d+1,g1,hg1,s.pick _ (List.sublist_cons_self _ _),hdm,fun j hj=>hp2 j (by omega),fun h9=>absurd (hq.symm.trans h9) (by decide)⟩)
  ·skip
   refine ae ?_
   refine ac h (ai aJ (h.ev rfl)) rfl ?_;intro f h
   refine au (am (aU.of_own s 0 rfl) 0 (aP _)) h bz rfl rfl ?_;intro f h
   refine cw 2 h s bz rfl rfl (rfl) rfl ?_;intro f h
   refine ac h (av (.bool true) (bX (h.ev rfl) (h.ev rfl)) (congrArg Value.bool hs9)) rfl ?_;intro f h
   refine ac h (ag (h.ev rfl)) rfl ?_;intro f h
   refine aA (b:=false) h rfl rfl rfl rfl ?_;intro f h
   refine aA (b:=false) h rfl rfl rfl rfl ?_;intro f h
   refine aA (b:=false) h rfl rfl rfl rfl ?_;intro f h
   refine aA (b:=false) h rfl rfl rfl rfl ?_;intro f h
   refine ac h (aI (h.ev rfl) (h.ev rfl)) rfl ?_;intro f h
   refine ah ?_
   refine hK6 _ _ ?_
   refine wpIn_cond_true (h.ev rfl) ?_
   refine wpIn_ret ?_
   refine bU ?_
   refine aW ?_
   refine aW ?_
   refine bU ?_
   exact j3 rfl h (⟨⟨_,rfl⟩,d,gg,hp1,s.pick _ (List.sublist_cons_self _ _),hp0,fun j hj=>hp2 j (by omega),fun _=>Nat.le_antisymm hp0 (kL (of_decide_eq_true hs9) hdl)⟩)
 ·replace hc:=of_decide_eq_false hc
  refine wpIn_exit ?_
  refine bJ ?_
  refine bJ ?_
  refine cC ?_
  exact dW rfl h (⟨⟨_,rfl⟩,d,gg,hp1,s,hp0,fun j hj=>hp2 j (by omega),fun _=>(by have:=tg no l;omega)⟩)
set_option maxHeartbeats 1000000 in
theorem ln (n:Nd) (vs vf:Value) (z:Nd) (ws wf:Value) (w:World) (hRs:bq w vs 33 n.sc.length (ap n.sc)) (hRf:bq w vf 33 n.fg.length (ap n.fg)) (hns:n.sc.length≤900) (hnf:n.fg.length≤900) (hZs:bq w ws 33 z.sc.length (ap z.sc)) (hZf:bq w wf 33 z.fg.length (ap z.fg)) (hzs:z.sc.length≤900) (hzf:z.fg.length≤900):Calls Tryz.prog 90 [.agg (aC n.me n.pr vs vf),.agg (aC z.me z.pr ws wf)].toArray w (cU w (rK w 28 (B5 n z) (Be n z))):=by
 refine ep Tryz.func90 rfl Tryz.ntmps90 rfl [(0,.agg (aC n.me n.pr vs vf)),(1,.agg (aC z.me z.pr ws wf))] (by simp) fun f h=>?_
 have s:=St.start w
 refine al fun K1 hK1=>?_
 refine ae ?_
 refine bV (aC n.me n.pr vs vf) h s rfl rfl rfl ?_;intro f w1 b2 h s
 refine bV (aC z.me z.pr ws wf) h s rfl rfl rfl ?_;intro f w1 b3 h s
 refine bj (aC aT aT a8 a8) h s ea rfl rfl ?_;intro f w1 b4 h s
 refine ac h (aj (h.ev rfl)) rfl ?_;intro f h
 refine ah ?_
 refine hK1 _ _ ?_
 refine al fun K2 hK2=>?_
 refine al fun K3 hK3=>?_
 cases hr:(cy n:Bool)
 ·skip
  refine ae ?_
  refine ar 2 h s aZ rfl rfl (aq _ _ _ _) rfl ?_;intro f h
  refine aH h s gA (aO (.bool false) (dd n vs vf _ (hRs.keep s.ext) (hRf.keep s.ext) (by omega) (by omega)) (congrArg Value.bool hr)) rfl rfl ?_;intro f w1 v9 hT hE h s;obtain rfl:=hT
  refine ac h (av (.bool true) (bh (h.ev rfl)) rfl) rfl ?_;intro f h
  refine ac h (ag (h.ev rfl)) rfl ?_;intro f h
  refine aA (b:=false) h rfl rfl rfl rfl ?_;intro f h
  refine aA (b:=false) h rfl rfl rfl rfl ?_;intro f h
  refine aA (b:=false) h rfl rfl rfl rfl ?_;intro f h
  refine ac h (aI (h.ev rfl) (h.ev rfl)) rfl ?_;intro f h
  refine ah ?_
  refine hK3 _ _ ?_
  refine wpIn_cond_true (h.ev rfl) ?_
  refine al fun K4 hK4=>?_
  refine ae ?_
  refine ac h (eC qt) rfl ?_;intro f h
  refine ax 0 h s aZ rfl rfl rfl (aq _ _ _ _) (aq _ _ _ _) (a7 (rfl) (rfl)) ?_;intro w1 s
  refine ac h (aj (h.ev rfl)) rfl ?_;intro f h
  refine ah ?_
  refine hK4 _ _ ?_
  refine wpIn_ret ?_
  refine aW ?_
  exact gk 0 rfl h s aZ rfl rfl rfl (aq _ _ _ _) (kO s (wD hr).1 (wD hr).2)
 ·skip
  cases hz:(cy z:Bool)
  ·skip
   refine ae ?_
   refine ar 2 h s aZ rfl rfl (aq _ _ _ _) rfl ?_;intro f h
   refine aH h s gA (aO (.bool true) (dd n vs vf _ (hRs.keep s.ext) (hRf.keep s.ext) (by omega) (by omega)) (congrArg Value.bool hr)) rfl rfl ?_;intro f w1 v9 hT hE h s;obtain rfl:=hT
   refine ac h (av (.bool false) (bh (h.ev rfl)) rfl) rfl ?_;intro f h
   refine ac h (ag (h.ev rfl)) rfl ?_;intro f h
   refine az h rfl rfl rfl ?_
   refine ar 1 h s aZ rfl rfl (aq _ _ _ _) rfl ?_;intro f h
   refine az h rfl rfl rfl ?_
   refine aH h s gA (aO (.bool false) (dd z ws wf _ (hZs.keep s.ext) (hZf.keep s.ext) (by omega) (by omega)) (congrArg Value.bool hz)) rfl rfl ?_;intro f w1 v9 hT hE h s;obtain rfl:=hT
   refine az h rfl rfl rfl ?_
   refine ac h (av (.bool true) (bh (h.ev rfl)) rfl) rfl ?_;intro f h
   refine ac h (aG (h.ev rfl) (h.ev rfl)) rfl ?_;intro f h
   refine ah ?_
   refine hK3 _ _ ?_
   refine wpIn_cond_true (h.ev rfl) ?_
   refine al fun K5 hK5=>?_
   refine ae ?_
   refine ac h (eC qt) rfl ?_;intro f h
   refine ax 0 h s aZ rfl rfl rfl (aq _ _ _ _) (aq _ _ _ _) (a7 (rfl) (rfl)) ?_;intro w1 s
   refine ac h (aj (h.ev rfl)) rfl ?_;intro f h
   refine ah ?_
   refine hK5 _ _ ?_
   refine wpIn_ret ?_
   refine aW ?_
   exact gk 0 rfl h s aZ rfl rfl rfl (aq _ _ _ _) (kO s (wx hz).1 (wx hz).2)
  ·skip
   refine ae ?_
   refine ar 2 h s aZ rfl rfl (aq _ _ _ _) rfl ?_;intro f h
   refine aH h s gA (aO (.bool true) (dd n vs vf _ (hRs.keep s.ext) (hRf.keep s.ext) (by omega) (by omega)) (congrArg Value.bool hr)) rfl rfl ?_;intro f w1 v9 hT hE h s;obtain rfl:=hT
   refine ac h (av (.bool false) (bh (h.ev rfl)) rfl) rfl ?_;intro f h
   refine ac h (ag (h.ev rfl)) rfl ?_;intro f h
   refine az h rfl rfl rfl ?_
   refine ar 1 h s aZ rfl rfl (aq _ _ _ _) rfl ?_;intro f h
   refine az h rfl rfl rfl ?_
   refine aH h s gA (aO (.bool true) (dd z ws wf _ (hZs.keep s.ext) (hZf.keep s.ext) (by omega) (by omega)) (congrArg Value.bool hz)) rfl rfl ?_;intro f w1 v9 hT hE h s;obtain rfl:=hT
   refine az h rfl rfl rfl ?_
   refine ac h (av (.bool false) (bh (h.ev rfl)) rfl) rfl ?_;intro f h
   refine ac h (aG (h.ev rfl) (h.ev rfl)) rfl ?_;intro f h
   refine ah ?_
   refine hK3 _ _ ?_
   refine wpIn_cond_false (h.ev rfl) ?_
   refine wpIn_skip ?_
   refine hK2 _ _ ?_
   refine al fun K6 hK6=>?_
   have hrt:=hr
   refine mt 0 9 [[],[0],[],[0,1,2],[],[4],[0,1,2,3,4,5],[],[7],[0,1,2,3,4,5,6,7,8],[0,1,2,3,4,5,6,7,8,9]] [[],[],[],[],[],[],[],[],[],[],[]] [fun _=>[],fun _=>[],fun _=>[],fun _=>[],fun _=>[],fun _=>[],fun v=>[.sl (v 6) 28 33 2 (ap [kM n.me z,z.me])],fun _=>[],fun _=>[],fun _=>[],fun _=>[]] [] [fun v=>v 0=.pointer (some ⟨b2,0,none⟩),fun v=>v 1=.agg (aw n.me),fun v=>v 2=.agg (aC z.me z.pr ws wf),fun v=>v 3=.agg (aw (kM n.me z)),fun v=>v 4=.pointer (some ⟨b3,0,none⟩),fun v=>v 5=.agg (aw z.me),fun _=>True,fun v=>v 7=.pointer (some ⟨b3,66,none⟩),fun v=>v 8=ws,fun _=>True,fun _=>True] [.blk b4 (.cells (aC aT aT a8 a8) 42),.blk b3 (.cells (aC z.me z.pr ws wf) 42),.blk b2 (.cells (aC n.me n.pr vs vf) 42)] h s rfl (by kernel_rfl) (by kernel_rfl) (by kernel_rfl) (And.intro ?_ (And.intro ?_ (And.intro ?_ (And.intro ?_ (And.intro ?_ (And.intro ?_ (And.intro ?_ (And.intro ?_ (And.intro ?_ (trivial)))))))))) [0,1,2,3,4,5,6,7,8] (by kernel_rfl) ?_
   ·intro f9 w2 vl3 E9 hs9 hd9 hl hF s
    have e2:f9.tmps.getD 2 undef=_:=cI hl 2 (by kernel_rfl) (by kernel_rfl) (h.holds 2 _ rfl)
    have h:=ay [(2,_)] (hs9.trans h.size) (hd9.trans h.defers) (holds_lk ⟨e2,trivial⟩)
    replace s:St w (.blk b4 (.cells (aC aT aT a8 a8) 42)::.blk b3 (.cells (aC z.me z.pr ws wf) 42)::.blk b2 (.cells (aC n.me n.pr vs vf) 42)::E9) _:=s
    refine ac h (ai aR (h.ev rfl)) rfl ?_;intro f h
    exact ah ⟨_,bi 18 rfl (h.holds 18 _ rfl),rfl,s⟩
   ·intro f9 w2 vl3 E9 hs9 hd9 hl hF s
    have e18:f9.tmps.getD 18 undef=.pointer (some ⟨b2,0,none⟩):=(br hl 18 0 (by kernel_rfl) (by kernel_rfl)).trans (hF 0 (by decide))
    have h:=ay [(18,.pointer (some ⟨b2,0,none⟩))] (hs9.trans h.size) (hd9.trans h.defers) (holds_lk ⟨e18,trivial⟩)
    replace s:St w (.blk b4 (.cells (aC aT aT a8 a8) 42)::.blk b3 (.cells (aC z.me z.pr ws wf) 42)::.blk b2 (.cells (aC n.me n.pr vs vf) 42)::E9) _:=s
    refine aB (aU.subL (aU.of_own s 2 rfl) 0 33 (D:=aw n.me) (bT _ _ _ _)) h aL rfl (ak _) rfl ?_;intro f h
    exact ah ⟨_,bi 19 rfl (h.holds 19 _ rfl),rfl,s⟩
   ·intro f9 w2 vl3 E9 hs9 hd9 hl hF s
    have e3:f9.tmps.getD 3 undef=_:=cI hl 3 (by kernel_rfl) (by kernel_rfl) (h.holds 3 _ rfl)
    have h:=ay [(3,_)] (hs9.trans h.size) (hd9.trans h.defers) (holds_lk ⟨e3,trivial⟩)
    replace s:St w (.blk b4 (.cells (aC aT aT a8 a8) 42)::.blk b3 (.cells (aC z.me z.pr ws wf) 42)::.blk b2 (.cells (aC n.me n.pr vs vf) 42)::E9) _:=s
    refine ar 1 h s aZ rfl rfl (aq _ _ _ _) rfl ?_;intro f h
    exact ah ⟨_,bi 20 rfl (h.holds 20 _ rfl),rfl,s⟩
   ·intro f9 w2 vl3 E9 hs9 hd9 hl hF s
    have e19:f9.tmps.getD 19 undef=.agg (aw n.me):=(br hl 19 1 (by kernel_rfl) (by kernel_rfl)).trans (hF 1 (by decide))
    have e20:f9.tmps.getD 20 undef=.agg (aC z.me z.pr ws wf):=(br hl 20 2 (by kernel_rfl) (by kernel_rfl)).trans (hF 2 (by decide))
    have h:=ay [(19,.agg (aw n.me)),(20,.agg (aC z.me z.pr ws wf))] (hs9.trans h.size) (hd9.trans h.defers) (holds_lk ⟨e19,e20,trivial⟩)
    replace s:St w (.blk b4 (.cells (aC aT aT a8 a8) 42)::.blk b3 (.cells (aC z.me z.pr ws wf) 42)::.blk b2 (.cells (aC n.me n.pr vs vf) 42)::E9) _:=s
    refine aH h s Cd (uC n.me z ws wf _) rfl rfl ?_;intro f w1 v9 hT hE h s;obtain rfl:=hT
    exact ah ⟨_,bi 21 rfl (h.holds 21 _ rfl),rfl,s⟩
   ·intro f9 w2 vl3 E9 hs9 hd9 hl hF s
    have e3:f9.tmps.getD 3 undef=_:=cI hl 3 (by kernel_rfl) (by kernel_rfl) (h.holds 3 _ rfl)
    have h:=ay [(3,_)] (hs9.trans h.size) (hd9.trans h.defers) (holds_lk ⟨e3,trivial⟩)
    replace s:St w (.blk b4 (.cells (aC aT aT a8 a8) 42)::.blk b3 (.cells (aC z.me z.pr ws wf) 42)::.blk b2 (.cells (aC n.me n.pr vs vf) 42)::E9) _:=s
    refine ac h (ai aR (h.ev rfl)) rfl ?_;intro f h
    exact ah ⟨_,bi 22 rfl (h.holds 22 _ rfl),rfl,s⟩
   ·intro f9 w2 vl3 E9 hs9 hd9 hl hF s
    have e22:f9.tmps.getD 22 undef=.pointer (some ⟨b3,0,none⟩):=(br hl 22 4 (by kernel_rfl) (by kernel_rfl)).trans (hF 4 (by decide))
    have h:=ay [(22,.pointer (some ⟨b3,0,none⟩))] (hs9.trans h.size) (hd9.trans h.defers) (holds_lk ⟨e22,trivial⟩)
    replace s:St w (.blk b4 (.cells (aC aT aT a8 a8) 42)::.blk b3 (.cells (aC z.me z.pr ws wf) 42)::.blk b2 (.cells (aC n.me n.pr vs vf) 42)::E9) _:=s
    refine aB (aU.subL (aU.of_own s 1 rfl) 0 33 (D:=aw z.me) (bT _ _ _ _)) h aL rfl (ak _) rfl ?_;intro f h
    exact ah ⟨_,bi 23 rfl (h.holds 23 _ rfl),rfl,s⟩
   ·intro f9 w2 vl3 E9 hs9 hd9 hl hF s
    have e21:f9.tmps.getD 21 undef=.agg (aw (kM n.me z)):=(br hl 21 3 (by kernel_rfl) (by kernel_rfl)).trans (hF 3 (by decide))
    have e23:f9.tmps.getD 23 undef=.agg (aw z.me):=(br hl 23 5 (by kernel_rfl) (by kernel_rfl)).trans (hF 5 (by decide))
    have h:=ay [(21,.agg (aw (kM n.me z))),(23,.agg (aw z.me))] (hs9.trans h.size) (hd9.trans h.defers) (holds_lk ⟨e21,e23,trivial⟩)
    replace s:St w (.blk b4 (.cells (aC aT aT a8 a8) 42)::.blk b3 (.cells (aC z.me z.pr ws wf) 42)::.blk b2 (.cells (aC n.me n.pr vs vf) 42)::E9) _:=s
    refine cg (vs:=[.agg (aw (kM n.me z)),.agg (aw z.me)]) [.tmp 21,.tmp 23] h s Tryz.underlying36 cP rfl rfl (by intro v hv9;simp only [List.mem_cons,List.not_mem_nil,or_false] at hv9;rcases hv9 with rfl|rfl<;>exact ak _) rfl rfl rfl ?_;intro f w1 v24 h s
    replace s:=s.resl (m:=2) (ys:=ap [kM n.me z,z.me]) 0 rfl rfl (by simp [ap,aw,Value.cells])
    exact ah ⟨_,bi 24 rfl (h.holds 24 _ rfl),trivial,s⟩
   ·intro f9 w2 vl3 E9 hs9 hd9 hl hF s
    have e3:f9.tmps.getD 3 undef=_:=cI hl 3 (by kernel_rfl) (by kernel_rfl) (h.holds 3 _ rfl)
    have h:=ay [(3,_)] (hs9.trans h.size) (hd9.trans h.defers) (holds_lk ⟨e3,trivial⟩)
    replace s:St w (.blk b4 (.cells (aC aT aT a8 a8) 42)::.blk b3 (.cells (aC z.me z.pr ws wf) 42)::.blk b2 (.cells (aC n.me n.pr vs vf) 42)::E9) _:=s
    refine ac h (ai bD (h.ev rfl)) rfl ?_;intro f h
    exact ah ⟨_,bi 25 rfl (h.holds 25 _ rfl),rfl,s⟩
   ·intro f9 w2 vl3 E9 hs9 hd9 hl hF s
    have e25:f9.tmps.getD 25 undef=.pointer (some ⟨b3,66,none⟩):=(br hl 25 7 (by kernel_rfl) (by kernel_rfl)).trans (hF 7 (by decide))
    have h:=ay [(25,.pointer (some ⟨b3,66,none⟩))] (hs9.trans h.size) (hd9.trans h.defers) (holds_lk ⟨e25,trivial⟩)
    replace s:St w (.blk b4 (.cells (aC aT aT a8 a8) 42)::.blk b3 (.cells (aC z.me z.pr ws wf) 42)::.blk b2 (.cells (aC n.me n.pr vs vf) 42)::E9) _:=s
    refine au (V:=ws) (am (aU.of_own s 1 rfl) 66 (bL _ _ _ _)) h bE rfl rfl ?_;intro f h
    exact ah ⟨_,bi 26 rfl (h.holds 26 _ rfl),rfl,s⟩
   intro f w1 vl3 hs9 hd9 hv hr hF s
   replace hv:=fun i d h9=>hv i d (show Nat.blt i 9=true from h9)
   replace h:=nf 9 (ops:=_) [(18,.pointer (some ⟨b2,0,none⟩)),(19,.agg (aw n.me)),(20,.agg (aC z.me z.pr ws wf)),(21,.agg (aw (kM n.me z))),(22,.pointer (some ⟨b3,0,none⟩)),(23,.agg (aw z.me)),(24,(vl3 6)),(25,.pointer (some ⟨b3,66,none⟩)),(26,ws)] h hs9 hd9 hr ⟨(hv 0 18 rfl rfl).trans (hF 0 (by kernel_rfl)),(hv 1 19 rfl rfl).trans (hF 1 (by kernel_rfl)),(hv 2 20 rfl rfl).trans (hF 2 (by kernel_rfl)),(hv 3 21 rfl rfl).trans (hF 3 (by kernel_rfl)),(hv 4 22 rfl rfl).trans (hF 4 (by kernel_rfl)),(hv 5 23 rfl rfl).trans (hF 5 (by kernel_rfl)),hv 6 24 rfl rfl,(hv 7 25 rfl rfl).trans (hF 7 (by kernel_rfl)),(hv 8 26 rfl rfl).trans (hF 8 (by kernel_rfl)),trivial⟩ (by kernel_rfl)
   replace s:St w [.sl (vl3 6) 28 33 2 (ap [kM n.me z,z.me]),.blk b4 (.cells (aC aT aT a8 a8) 42),.blk b3 (.cells (aC z.me z.pr ws wf) 42),.blk b2 (.cells (aC n.me n.pr vs vf) 42)] _:=s
   refine eQ 0 (hZs.keep s.ext) h s Tryz.underlying36 cP rfl rfl rfl (eG _) (by unfold maxLen;omega) (by omega) rfl ?_;intro f w1 v27 h s
   replace s:=s.resl (m:=(d3 n z).length) (ys:=ap (d3 n z)) 0 rfl (by show 2+z.sc.length=z.sc.length+1+1;omega) (dz _ _).symm
   refine ac h (aj (h.ev rfl)) rfl ?_;intro f h
   refine ah ?_
   refine hK6 _ _ ?_
   refine al fun K7 hK7=>?_
   refine ae ?_
   refine bj (#[.slice none 0 0]) h s rJ rfl rfl ?_;intro f w1 b7 h s
   refine ah ?_
   refine hK7 _ _ ?_
   refine al fun K8 hK8=>?_
   refine al fun K9 hK9=>?_
   refine ae ?_
   replace s:=s.nilSl 28 33
   refine ac h (ai aR (h.ev rfl)) rfl ?_;intro f h
   refine ac h (ai aJ (h.ev rfl)) rfl ?_;intro f h
   refine au (am (aU.of_own s 5 rfl) 0 (bO _ _ _ _)) h bz rfl rfl ?_;intro f h
   refine ac h (ag (h.ev rfl)) rfl ?_;intro f h
   refine dq [.int .i64 n.me.1,v27] h BP (xJ n.me.1 (d3 n z) v27 _ _ _ s (bq.of_own (s.getSl 2 rfl))) rfl rfl ?_;rintro f w1 r ⟨bs,bn,rfl,s⟩ h
   replace s:=s.sel [0,1,4,2,3,5,6,7] rfl (by decide)
   refine ah ?_
   refine hK9 _ _ ?_
   refine wpIn_block ?_
   refine ed (fun d A9=>∃ v8:Value,A9=[.sl v8 28 33 (dw ((cD n.me.1 (d3 n z)).take d)).length (ap (dw ((cD n.me.1 (d3 n z)).take d))),.blk b7 (.cells #[v8] 36),.blk b4 (.cells (aC aT aT a8 a8) 42),.blk b3 (.cells (aC z.me z.pr ws wf) 42),.blk b2 (.cells (aC n.me n.pr vs vf) 42)]) [.sl (Value.slice none 0 0) 28 33 0 [],.blk b7 (.cells #[(Value.slice none 0 0)] 36),.blk b4 (.cells (aC aT aT a8 a8) 42),.blk b3 (.cells (aC z.me z.pr ws wf) 42),.blk b2 (.cells (aC n.me n.pr vs vf) 42)] [.blk bs (.cells #[v27] 36),.blk bn (.cells #[.int .i64 n.me.1] 3),.sl v27 28 33 (d3 n z).length (ap (d3 n z))] ((cD n.me.1 (d3 n z)).length) (fun _=>false) (fun d=>[Value.agg (aw ((cD n.me.1 (d3 n z)).getD d aT))]) h s rfl Ce (List.Perm.refl _) (⟨_,rfl⟩) (fun _=>rfl) ?_ ?_ ?_ ?_
   ·intro lp w2 GG g0 hg0 s2 hY;exact ur n.me.1 (d3 n z) (by show z.sc.length+1+1≤1000;omega) v27 lp bs bn (fun _=>false) GG g0 w w2 s2 hg0 hY
   ·intro lp D9 d9 rc R9 A9 w2 hd9 hq9 hJ9 s
    obtain ⟨v8,rfl⟩:=hJ9
    have h:=Sl.round1 (p:=33) (V:=.agg (aw ((cD n.me.1 (d3 n z)).getD d9 aT))) h rfl
    refine ae ?_
    refine bj (aw aT) h s cB rfl rfl ?_;intro f w1 b8 h s
    refine ax 0 h s aL rfl rfl rfl (ak _) (ak _) (aS _) ?_;intro w1 s
    refine ah ?_
    refine bQ ?_
    refine ⟨_,s.perm (List.perm_middle (l₁:=[_])),fun w3 s=>?_⟩
    refine wpIn_block ?_
    refine al fun K10 hK10=>?_
    cases g0:(decide ((dw ((cD n.me.1 (d3 n z)).take d9)).length<4):Bool)
    ·skip
     refine ae ?_
     refine cw 4 h s bE rfl rfl (rfl) rfl ?_;intro f h
     refine cK 3 h s Tryz.underlying36 rfl rfl rfl ?_;intro f h
     refine ac h (av (.bool false) (bN (h.ev rfl) (h.ev rfl)) (congrArg Value.bool (decide_eq_false (by have:=of_decide_eq_false g0;omega)))) rfl ?_;intro f h
     refine ac h (ag (h.ev rfl)) rfl ?_;intro f h
     refine aA (b:=true) h rfl rfl rfl rfl ?_;intro f h
     refine aA (b:=true) h rfl rfl rfl rfl ?_;intro f h
     refine aA (b:=true) h rfl rfl rfl rfl ?_;intro f h
     refine aA (b:=true) h rfl rfl rfl rfl ?_;intro f h
     refine aA (b:=true) h rfl rfl rfl rfl ?_;intro f h
     refine ac h (aG (h.ev rfl) (h.ev rfl)) rfl ?_;intro f h
     refine ah ?_
     refine hK10 _ _ ?_
     refine wpIn_cond_false (h.ev rfl) ?_
     refine wpIn_skip ?_
     refine bF ?_
     replace s:=s.resl (m:=(dw ((cD n.me.1 (d3 n z)).take (d9+1))).length) (ys:=ap (dw ((cD n.me.1 (d3 n z)).take (d9+1)))) 3 rfl (by rw [fN hd9,kB (of_decide_eq_false g0)]) (by rw [fN hd9,kB (of_decide_eq_false g0)])
     refine ⟨rfl,_,⟨v8,rfl⟩,s.pick _ ?_⟩
     exact List.Sublist.cons_cons _ (List.Sublist.cons _ (List.Sublist.refl _))
    ·skip
     cases g1:(ia (dw ((cD n.me.1 (d3 n z)).take d9)) ((cD n.me.1 (d3 n z)).getD d9 aT).1:Bool)
     ·skip
      refine ae ?_
      refine cw 4 h s bE rfl rfl (rfl) rfl ?_;intro f h
      refine cK 3 h s Tryz.underlying36 rfl rfl rfl ?_;intro f h
      refine ac h (av (.bool true) (bN (h.ev rfl) (h.ev rfl)) (congrArg Value.bool (decide_eq_true (by have:=of_decide_eq_true g0;omega)))) rfl ?_;intro f h
      refine ac h (ag (h.ev rfl)) rfl ?_;intro f h
      refine az h rfl rfl rfl ?_
      refine cw 4 h s bE rfl rfl (rfl) rfl ?_;intro f h
      refine az h rfl rfl rfl ?_
      refine ac h (ai aJ (h.ev rfl)) rfl ?_;intro f h
      refine az h rfl rfl rfl ?_
      refine au (am (aU.of_own s 1 rfl) 0 (aP _)) h bz rfl rfl ?_;intro f h
      refine az h rfl rfl rfl ?_
      refine aH h s wa (aO (.bool false) (kF (dw ((cD n.me.1 (d3 n z)).take d9)) v8 ((cD n.me.1 (d3 n z)).getD d9 aT).1 _ (bq.of_own (s.getSl 3 rfl)) (by have:=oe ((cD n.me.1 (d3 n z)).take d9);omega)) (congrArg Value.bool g1)) rfl rfl ?_;intro f w1 v9 hT hE h s;obtain rfl:=hT
      refine az h rfl rfl rfl ?_
      refine ac h (av (.bool true) (bh (h.ev rfl)) rfl) rfl ?_;intro f h
      refine ac h (aI (h.ev rfl) (h.ev rfl)) rfl ?_;intro f h
      refine ah ?_
      refine hK10 _ _ ?_
      refine wpIn_cond_true (h.ev rfl) ?_
      refine ae ?_
      refine cw 4 h s bE rfl rfl (rfl) rfl ?_;intro f h
      refine ar 1 h s aL rfl rfl (ak _) rfl ?_;intro f h
      refine cg (vs:=[.agg (aw ((cD n.me.1 (d3 n z)).getD d9 aT))]) [.tmp 45] h s Tryz.underlying36 cP rfl rfl (eS _) rfl rfl rfl ?_;intro f w1 v46 h s
      refine cZ 4 0 h s Tryz.underlying36 cP rfl rfl rfl rfl (by decide) (by rw [c0];exact aS _) (by have:=oe ((cD n.me.1 (d3 n z)).take d9);unfold maxLen;omega) (by have:=oe ((cD n.me.1 (d3 n z)).take d9);omega) rfl ?_;intro f w1 v47 h s
      replace s:=s.pick _ (List.sublist_cons_self _ _)
      refine bg 4 h s bE rfl rfl rfl (by simp) (aX (s.getSl 3 rfl)) ?_;intro w1 s
      refine ah ?_
      refine bF ?_
      replace s:=s.resl (m:=(dw ((cD n.me.1 (d3 n z)).take (d9+1))).length) (ys:=ap (dw ((cD n.me.1 (d3 n z)).take (d9+1)))) 3 rfl (by rw [fN hd9,qH (of_decide_eq_true g0) g1,List.length_append];rfl) (by rw [fN hd9,qH (of_decide_eq_true g0) g1,c0,gJ])
      refine ⟨rfl,_,⟨v47,rfl⟩,s.pick _ ?_⟩
      exact List.Sublist.cons_cons _ (List.Sublist.cons _ (List.Sublist.refl _))
     ·skip
      refine ae ?_
      refine cw 4 h s bE rfl rfl (rfl) rfl ?_;intro f h
      refine cK 3 h s Tryz.underlying36 rfl rfl rfl ?_;intro f h
      refine ac h (av (.bool true) (bN (h.ev rfl) (h.ev rfl)) (congrArg Value.bool (decide_eq_true (by have:=of_decide_eq_true g0;omega)))) rfl ?_;intro f h
      refine ac h (ag (h.ev rfl)) rfl ?_;intro f h
      refine az h rfl rfl rfl ?_
      refine cw 4 h s bE rfl rfl (rfl) rfl ?_;intro f h
      refine az h rfl rfl rfl ?_
      refine ac h (ai aJ (h.ev rfl)) rfl ?_;intro f h
      refine az h rfl rfl rfl ?_
      refine au (am (aU.of_own s 1 rfl) 0 (aP _)) h bz rfl rfl ?_;intro f h
      refine az h rfl rfl rfl ?_
      refine aH h s wa (aO (.bool true) (kF (dw ((cD n.me.1 (d3 n z)).take d9)) v8 ((cD n.me.1 (d3 n z)).getD d9 aT).1 _ (bq.of_own (s.getSl 3 rfl)) (by have:=oe ((cD n.me.1 (d3 n z)).take d9);omega)) (congrArg Value.bool g1)) rfl rfl ?_;intro f w1 v9 hT hE h s;obtain rfl:=hT
      refine az h rfl rfl rfl ?_
      refine ac h (av (.bool false) (bh (h.ev rfl)) rfl) rfl ?_;intro f h
      refine ac h (aI (h.ev rfl) (h.ev rfl)) rfl ?_;intro f h
      refine ah ?_
      refine hK10 _ _ ?_
      refine wpIn_cond_false (h.ev rfl) ?_
      refine wpIn_skip ?_
      refine bF ?_
      replace s:=s.resl (m:=(dw ((cD n.me.1 (d3 n z)).take (d9+1))).length) (ys:=ap (dw ((cD n.me.1 (d3 n z)).take (d9+1)))) 3 rfl (by rw [fN hd9,kG g1]) (by rw [fN hd9,kG g1])
      refine ⟨rfl,_,⟨v8,rfl⟩,s.pick _ ?_⟩
      exact List.Sublist.cons_cons _ (List.Sublist.cons _ (List.Sublist.refl _))
   ·intro D9 A9 w2 hJ9 hq9 s
    obtain ⟨v8,rfl⟩:=hJ9
    replace h:Sl _ {f with defers:={target:=.collected D9,args:=#[]}::f.defers} _ [{target:=.collected D9,args:=#[]}]:=⟨h.size,by rw [h.defers],h.holds⟩
    rw [List.take_length] at s
    refine bF ?_
    refine hK8 _ _ ?_
    refine al fun K11 hK11=>?_
    refine ae ?_
    refine ar 8 h s aZ rfl rfl (aq _ _ _ _) rfl ?_;intro f h
    refine aH h s x5 (ju n vs vf _ (hRs.keep s.ext) (hRf.keep s.ext) (by omega) (by omega)) rfl rfl ?_;rintro f w1 v49 ⟨us,uf,rfl,hS⟩ hE h sq;replace s:=s.add hS
    refine ax 10 h s aZ rfl rfl rfl (aq _ _ _ _) (aq _ _ _ _) (a7 (aX (s.getSl 0 rfl)) (aX (s.getSl 1 rfl))) ?_;intro w1 s
    refine ah ?_
    refine hK11 _ _ ?_
    refine al fun K12 hK12=>?_
    refine ae ?_
    refine cw 7 h s bE rfl rfl (rfl) rfl ?_;intro f h
    refine ac h (ai aR (h.ev rfl)) rfl ?_;intro f h
    refine aB (aU.subL (aU.of_own s 10 rfl) 0 33 (D:=aw n.me) (bT _ _ _ _)) h aL rfl (ak _) rfl ?_;intro f h
    replace s:=(s.sel [6,0,1,2,3,4,5,7,8,9,10] rfl (by decide))
    refine dq [v8,.agg (aw n.me)] h vJ (lf (dw (cD n.me.1 (d3 n z))) v8 n.me _ _ _ s) rfl rfl ?_;rintro f w1 v53 s h
    refine ac h (ai bD (h.ev rfl)) rfl ?_;intro f h
    refine bg 10 h s bE rfl rfl rfl (by rw [aq];omega) (aX (s.getSl 0 rfl)) ?_;intro w1 s
    replace s:=s.recell (D:=aC n.me n.pr v53 uf) 10 rfl (ek _ _ _ _ _)
    refine ah ?_
    refine hK12 _ _ ?_
    refine al fun K13 hK13=>?_
    refine ae ?_
    refine ar 10 h s aZ rfl rfl (aq _ _ _ _) rfl ?_;intro f h
    refine ax 8 h s aZ rfl rfl rfl (aq _ _ _ _) (aq _ _ _ _) (a7 (aX (s.getSl 0 rfl)) (aX (s.getSl 2 rfl))) ?_;intro w1 s
    refine ac h (aj (h.ev rfl)) rfl ?_;intro f h
    refine ah ?_
    refine hK13 _ _ ?_
    refine wpIn_ret ?_
    exact kp 8 3 rfl h s aZ rfl rfl rfl rfl (aq _ _ _ _) (fun w9 s9=>gI (sZ hrt hz).1 (sZ hrt hz).2 (s9.sel [0,2] rfl (by decide)))
   ·intro D9 d9 A9 w2 hd9 hqd9 hq9 hJ9 s
    cases hqd9
end Go.Proofs.YthggibfkgofncaaGreat
