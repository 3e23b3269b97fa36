/- Which overlays may be, by the reference. -/
import Derived.Test.YthggibfkgofncaaGreatVb
import Derived.Test.YthggibfkgofncaaGreatVd
set_option linter.unusedVariables false
set_option linter.unusedSimpArgs false
set_option linter.unusedSectionVars false
namespace Go.Proofs.YthggibfkgofncaaGreat
open Go.RowKit
theorem sh (l:List Mb) (vh:Value) (w:World) (hR:bq w vh 33 l.length (ap l)) (hln:l.length≤1000):Calls Tryz.prog 44 [vh].toArray w (cU w (is (.bool (dc l)))):=by
 refine bp Tryz.func44 rfl Tryz.ntmps44 rfl [(0,vh)] (by simp) fun f h=>?_
 have s:=St.start w
 refine al fun K1 hK1=>?_
 refine ae ?_
 refine ac h (aj (h.ev rfl)) rfl ?_;intro f h
 refine ah ?_
 refine hK1 _ _ ?_
 refine al fun K2 hK2=>?_
 refine al fun K3 hK3=>?_
 refine ae ?_
 refine ac h (ag (h.ev rfl)) rfl ?_;intro f h
 refine ac h (bc (hR.keep s.ext) Tryz.underlying36 (h.ev rfl)) rfl ?_;intro f h
 refine ac h (ag (h.ev rfl)) rfl ?_;intro f h
 refine ah ?_
 refine hK3 _ _ ?_
 refine wpIn_block ?_
 refine wpIn_loop_ghost (fun nn aa ww=>∃ k:Nat,Sl 47 aa [(0,vh),(7,vh),(8,.int .i64 (l.length:Int)),(9,.int .i64 (k:Int))]∧St w [] ww∧nn=l.length - k∧k≤l.length∧∀ j,j<k→ip l j=false) (l.length - (0)) ⟨0,h.only ⟨rfl,rfl,rfl,aQ rfl (by omega),trivial⟩,s.as trivial,rfl,Nat.zero_le _,fun j hj=>absurd hj (Nat.not_lt_zero _)⟩ ?_
 rintro _ f w1 ⟨k,h,s,hnn,hp0,hp1⟩
 refine al fun K4 hK4=>?_
 refine ae ?_
 refine ac h (bN (h.ev rfl) (h.ev rfl)) rfl ?_;intro f h
 refine ah ?_
 refine hK4 _ _ ?_
 refine al fun K5 hK5=>?_
 refine bM h rfl (fun hc=>?_) (fun hc=>?_)
 ·replace hc:=of_decide_eq_true hc
  refine wpIn_skip ?_
  refine hK5 _ _ ?_
  refine al fun K6 hK6=>?_
  refine wpIn_block ?_
  refine al fun K7 hK7=>?_
  refine ae ?_
  refine ac h (ag (h.ev rfl)) rfl ?_;intro f h
  have hkl:k<l.length:=by omega
  refine ac h (bZ (hR.keep s.ext) (k) Tryz.underlying36 cz (h.ev rfl) (h.ev rfl) (by omega) (by omega)) rfl ?_;intro f h
  refine aB ((hR.keep s.ext).el (k) (by omega) (by decide) (D:=aw (l.getD k aT)) (cL l k hkl)) h aL rfl (ak _) rfl ?_;intro f h
  refine bj (aw aT) h s cB rfl rfl ?_;intro f w1 b4 h s
  refine ac h (aj (h.ev rfl)) rfl ?_;intro f h
  refine ax 0 h s aL rfl rfl rfl (ak _) (ak _) (aS _) ?_;intro w1 s
  refine ah ?_
  refine hK7 _ _ ?_
  refine al fun K8 hK8=>?_
  refine al fun K9 hK9=>?_
  cases k0:(decide ((l.getD k aT).1<0):Bool)
  ·skip
   cases k1:(decide (16≤(l.getD k aT).1):Bool)
   ·skip
    refine ae ?_
    refine ac h (ai aJ (h.ev rfl)) rfl ?_;intro f h
    refine au (am (aU.of_own s 0 rfl) 0 (aP _)) h bz rfl rfl ?_;intro f h
    refine ac h (av (.bool false) (bN (h.ev rfl) (h.ev rfl)) (congrArg Value.bool k0)) rfl ?_;intro f h
    refine ac h (ag (h.ev rfl)) rfl ?_;intro f h
    refine az h rfl rfl rfl ?_
    refine ac h (ai aJ (h.ev rfl)) rfl ?_;intro f h
    refine az h rfl rfl rfl ?_
    refine au (am (aU.of_own s 0 rfl) 0 (aP _)) h bz rfl rfl ?_;intro f h
    refine az h rfl rfl rfl ?_
    refine ac h (av (.bool false) (c6 (h.ev rfl) (h.ev rfl)) (congrArg Value.bool ((decide_eq_decide.2 (by omega)).trans k1))) rfl ?_;intro f h
    refine ac h (aG (h.ev rfl) (h.ev rfl)) rfl ?_;intro f h
    refine ah ?_
    refine hK9 _ _ ?_
    refine wpIn_cond_false (h.ev rfl) ?_
    refine wpIn_skip ?_
    refine hK8 _ _ ?_
    refine al fun K10 hK10=>?_
    refine ae ?_
    have hq1:=hp1
    have hlt9:(l.take k).length=k:=by rw [List.length_take];omega
    refine ac h (ag (h.ev rfl)) rfl ?_;intro f h
    refine ac h (ag (h.ev rfl)) rfl ?_;intro f h
    refine ac h (dP (hR.keep s.ext) (k) Tryz.underlying36 cz (h.ev rfl) (h.ev rfl) (rfl) (by omega)) rfl ?_;intro f h
    refine ac h (bc ((fp hR k (by omega)).keep s.ext) Tryz.underlying36 (h.ev rfl)) rfl ?_;intro f h
    refine ac h (ag (h.ev rfl)) rfl ?_;intro f h
    refine ah ?_
    refine hK10 _ _ ?_
    refine wpIn_block ?_
    refine wpIn_loop_ghost (fun nn aa ww=>∃ j:Nat,Sl 47 aa [(0,vh),(4,.pointer (some ⟨b4,0,none⟩)),(7,vh),(8,.int .i64 (l.length:Int)),(9,.int .i64 (k:Int)),(24,gr vh k),(25,.int .i64 ((l.take k).length:Int)),(26,.int .i64 (j:Int))]∧St w [.blk b4 (.cells (aw (l.getD k aT)) 28)] ww∧nn=k - j∧j≤k∧∀ i,i<j→g6 (l.getD k aT) (l.getD i aT)=false) (k - (0)) ⟨0,h.only ⟨rfl,rfl,rfl,rfl,rfl,rfl,rfl,aQ rfl (by omega),trivial⟩,s.as ⟨rfl,trivial⟩,rfl,Nat.zero_le _,fun j hj=>absurd hj (Nat.not_lt_zero _)⟩ ?_
    rintro _ f w1 ⟨j,h,s,hnn,hp0,hp1⟩
    refine al fun K11 hK11=>?_
    refine ae ?_
    refine ac h (bN (h.ev rfl) (h.ev rfl)) rfl ?_;intro f h
    refine ah ?_
    refine hK11 _ _ ?_
    refine al fun K12 hK12=>?_
    refine bM h rfl (fun hc=>?_) (fun hc=>?_)
    ·replace hc:=of_decide_eq_true hc
     refine wpIn_skip ?_
     refine hK12 _ _ ?_
     refine al fun K13 hK13=>?_
     refine wpIn_block ?_
     refine al fun K14 hK14=>?_
     refine ae ?_
     have hjk:j<k:=by omega
     refine ac h (bZ ((fp hR k (by omega)).keep s.ext) (j) Tryz.underlying36 cz (h.ev rfl) (h.ev rfl) (by omega) (by omega)) rfl ?_;intro f h
     refine aB (((fp hR k (by omega)).keep s.ext).el (j) (by omega) (by decide) (D:=aw (l.getD j aT)) (wm l hjk (by omega))) h aL rfl (ak _) rfl ?_;intro f h
     refine bj (aw aT) h s cB rfl rfl ?_;intro f w1 b6 h s
     refine ax 0 h s aL rfl rfl rfl (ak _) (ak _) (aS _) ?_;intro w1 s
     refine ah ?_
     refine hK14 _ _ ?_
     refine al fun K15 hK15=>?_
     cases h0:(decide ((l.getD j aT).1=(l.getD k aT).1):Bool)
     ·skip
      refine ae ?_
      refine ac h (ai aJ (h.ev rfl)) rfl ?_;intro f h
      refine au (am (aU.of_own s 0 rfl) 0 (aP _)) h bz rfl rfl ?_;intro f h
      refine ac h (ai aJ (h.ev rfl)) rfl ?_;intro f h
      refine au (am (aU.of_own s 1 rfl) 0 (aP _)) h bz rfl rfl ?_;intro f h
      refine ac h (av (.bool false) (bX (h.ev rfl) (h.ev rfl)) (congrArg Value.bool h0)) rfl ?_;intro f h
      refine ac h (ag (h.ev rfl)) rfl ?_;intro f h
      refine az h rfl rfl rfl ?_
      refine ac h (ai bW (h.ev rfl)) rfl ?_;intro f h
      refine az h rfl rfl rfl ?_
      refine aB (aU.subL (aU.of_own s 0 rfl) 1 32 (D:=bA (_)) (cj _)) h bP rfl (by first|exact aK _|exact aF _ _) rfl ?_;intro f h
      refine az h rfl rfl rfl ?_
      refine ac h (ai bW (h.ev rfl)) rfl ?_;intro f h
      refine az h rfl rfl rfl ?_
      refine aB (aU.subL (aU.of_own s 1 rfl) 1 32 (D:=bA (_)) (cj _)) h bP rfl (by first|exact aK _|exact aF _ _) rfl ?_;intro f h
      refine az h rfl rfl rfl ?_
      refine ac h (dp fC (h.ev rfl) (h.ev rfl)) rfl ?_;intro f h
      refine ac h (aG (h.ev rfl) (h.ev rfl)) rfl ?_;intro f h
      refine ah ?_
      refine hK15 _ _ ?_
      refine bM h rfl (fun hc=>?_) (fun hc=>?_)
      ·refine al fun K16 hK16=>?_
       refine ae ?_
       refine ac h (aj (h.ev rfl)) rfl ?_;intro f h
       refine ah ?_
       refine hK16 _ _ ?_
       refine wpIn_ret ?_
       refine bU ?_
       refine aW ?_
       refine aW ?_
       refine bU ?_
       refine bU ?_
       refine aW ?_
       refine aW ?_
       refine bU ?_
       refine aW ?_
       exact bf rfl h s rfl (by show _=_;rw [ez hkl ((nz k0 k1).trans (kJ (by omega) hjk ((pk h0).trans hc)))]<;>rfl)
      ·refine wpIn_skip ?_
       refine bF ?_
       refine hK13 _ _ ?_
       refine ae ?_
       refine ac h (cf (h.ev rfl) (h.ev rfl) (by omega)) rfl ?_;intro f h
       refine ac h (ag (h.ev rfl)) rfl ?_;intro f h
       refine ah ?_
       refine bQ ?_
       have hb8:g6 (l.getD k aT) (l.getD j aT)=false:=(pk h0).trans hc
       exact ⟨_,by omega,⟨j+1,h.only ⟨rfl,rfl,rfl,rfl,rfl,rfl,rfl,aQ rfl (by omega),trivial⟩,St.as (s.pick _ (List.sublist_append_right [_] _)) ⟨rfl,trivial⟩,rfl,by omega,dm hp1 hb8⟩⟩
     ·skip
      refine ae ?_
      refine ac h (ai aJ (h.ev rfl)) rfl ?_;intro f h
      refine au (am (aU.of_own s 0 rfl) 0 (aP _)) h bz rfl rfl ?_;intro f h
      refine ac h (ai aJ (h.ev rfl)) rfl ?_;intro f h
      refine au (am (aU.of_own s 1 rfl) 0 (aP _)) h bz rfl rfl ?_;intro f h
      refine ac h (av (.bool true) (bX (h.ev rfl) (h.ev rfl)) (congrArg Value.bool h0)) rfl ?_;intro f h
      refine ac h (ag (h.ev rfl)) rfl ?_;intro f h
      refine aA (b:=false) h rfl rfl rfl rfl ?_;intro f h
      refine aA (b:=false) h rfl rfl rfl rfl ?_;intro f h
      refine aA (b:=false) h rfl rfl rfl rfl ?_;intro f h
      refine aA (b:=false) h rfl rfl rfl rfl ?_;intro f h
      refine aA (b:=false) h rfl rfl rfl rfl ?_;intro f h
      refine ac h (aI (h.ev rfl) (h.ev rfl)) rfl ?_;intro f h
      refine ah ?_
      refine hK15 _ _ ?_
      refine wpIn_cond_true (h.ev rfl) ?_
      refine al fun K17 hK17=>?_
      refine ae ?_
      refine ac h (aj (h.ev rfl)) rfl ?_;intro f h
      refine ah ?_
      refine hK17 _ _ ?_
      refine wpIn_ret ?_
      refine bU ?_
      refine aW ?_
      refine aW ?_
      refine bU ?_
      refine bU ?_
      refine aW ?_
      refine aW ?_
      refine bU ?_
      refine aW ?_
      exact bf rfl h s rfl (by show _=_;rw [ez hkl ((nz k0 k1).trans (kJ (by omega) hjk (te h0)))]<;>rfl)
    ·replace hc:=of_decide_eq_false hc
     refine wpIn_exit ?_
     refine bJ ?_
     refine bJ ?_
     refine cC ?_
     refine bF ?_
     refine hK6 _ _ ?_
     refine ae ?_
     refine ac h (cf (h.ev rfl) (h.ev rfl) (by omega)) rfl ?_;intro f h
     refine ac h (ag (h.ev rfl)) rfl ?_;intro f h
     refine ah ?_
     refine bQ ?_
     have hb9:ip l k=false:=(nz k0 k1).trans (pQ (by omega) (fun i hi=>hp1 i (by omega)))
     exact ⟨_,by omega,⟨k+1,h.only ⟨rfl,rfl,rfl,aQ rfl (by omega),trivial⟩,St.as (s.pick _ (List.sublist_append_right [_] _)) trivial,rfl,by omega,dm hq1 hb9⟩⟩
   ·skip
    refine ae ?_
    refine ac h (ai aJ (h.ev rfl)) rfl ?_;intro f h
    refine au (am (aU.of_own s 0 rfl) 0 (aP _)) h bz rfl rfl ?_;intro f h
    refine ac h (av (.bool false) (bN (h.ev rfl) (h.ev rfl)) (congrArg Value.bool k0)) rfl ?_;intro f h
    refine ac h (ag (h.ev rfl)) rfl ?_;intro f h
    refine az h rfl rfl rfl ?_
    refine ac h (ai aJ (h.ev rfl)) rfl ?_;intro f h
    refine az h rfl rfl rfl ?_
    refine au (am (aU.of_own s 0 rfl) 0 (aP _)) h bz rfl rfl ?_;intro f h
    refine az h rfl rfl rfl ?_
    refine ac h (av (.bool true) (c6 (h.ev rfl) (h.ev rfl)) (congrArg Value.bool ((decide_eq_decide.2 (by omega)).trans k1))) rfl ?_;intro f h
    refine ac h (aG (h.ev rfl) (h.ev rfl)) rfl ?_;intro f h
    refine ah ?_
    refine hK9 _ _ ?_
    refine wpIn_cond_true (h.ev rfl) ?_
    refine al fun K18 hK18=>?_
    refine ae ?_
    refine ac h (aj (h.ev rfl)) rfl ?_;intro f h
    refine ah ?_
    refine hK18 _ _ ?_
    refine wpIn_ret ?_
    refine aW ?_
    refine bU ?_
    refine aW ?_
    refine aW ?_
    refine bU ?_
    refine aW ?_
    exact bf rfl h s rfl (by show _=_;rw [ez hkl (vL k1)]<;>rfl)
  ·skip
   refine ae ?_
   refine ac h (ai aJ (h.ev rfl)) rfl ?_;intro f h
   refine au (am (aU.of_own s 0 rfl) 0 (aP _)) h bz rfl rfl ?_;intro f h
   refine ac h (av (.bool true) (bN (h.ev rfl) (h.ev rfl)) (congrArg Value.bool k0)) rfl ?_;intro f h
   refine ac h (ag (h.ev rfl)) rfl ?_;intro f h
   refine aA (b:=false) h rfl rfl rfl rfl ?_;intro f h
   refine aA (b:=false) h rfl rfl rfl rfl ?_;intro f h
   refine aA (b:=false) h rfl rfl rfl rfl ?_;intro f h
   refine ac h (aI (h.ev rfl) (h.ev rfl)) rfl ?_;intro f h
   refine ah ?_
   refine hK9 _ _ ?_
   refine wpIn_cond_true (h.ev rfl) ?_
   refine al fun K19 hK19=>?_
   refine ae ?_
   refine ac h (aj (h.ev rfl)) rfl ?_;intro f h
   refine ah ?_
   refine hK19 _ _ ?_
   refine wpIn_ret ?_
   refine aW ?_
   refine bU ?_
   refine aW ?_
   refine aW ?_
   refine bU ?_
   refine aW ?_
   exact bf rfl h s rfl (by show _=_;rw [ez hkl (vA k0)]<;>rfl)
 ·replace hc:=of_decide_eq_false hc
  refine wpIn_exit ?_
  refine bJ ?_
  refine bJ ?_
  refine cC ?_
  refine hK2 _ _ ?_
  refine al fun K20 hK20=>?_
  refine ae ?_
  refine ac h (ag (h.ev rfl)) rfl ?_;intro f h
  refine ac h (bc (hR.keep s.ext) Tryz.underlying36 (h.ev rfl)) rfl ?_;intro f h
  refine ac h (fU (h.ev rfl) (h.ev rfl)) rfl ?_;intro f h
  refine ac h (aj (h.ev rfl)) rfl ?_;intro f h
  refine ah ?_
  refine hK20 _ _ ?_
  refine wpIn_ret ?_
  exact bf rfl h s rfl (by show _=_;rw [sj (fun j hj=>hp1 j (by omega))];exact congrArg Value.bool (decide_eq_decide.2 (by omega)))
set_option maxHeartbeats 1000000 in
theorem f3 (n:Nd) (vs vf:Value) (w:World) (hRs:bq w vs 33 n.sc.length (ap n.sc)) (hRf:bq w vf 33 n.fg.length (ap n.fg)) (hns:n.sc.length≤1000) (hnf:n.fg.length≤1000):Calls Tryz.prog 41 [.agg (aC n.me n.pr vs vf)].toArray w (cU w (is (.bool (cy n)))):=by
 refine bp Tryz.func41 rfl Tryz.ntmps41 rfl [(0,.agg (aC n.me n.pr vs vf))] (by simp) fun f h=>?_
 have s:=St.start w
 refine al fun K1 hK1=>?_
 refine ae ?_
 refine bV (aC n.me n.pr vs vf) h s rfl rfl rfl ?_;intro f w1 b1 h s
 refine ac h (aj (h.ev rfl)) rfl ?_;intro f h
 refine ah ?_
 refine hK1 _ _ ?_
 refine al fun K2 hK2=>?_
 refine al fun K3 hK3=>?_
 cases h0:(dT n.me:Bool)
 ·skip
  refine ae ?_
  refine ac h (ai aR (h.ev rfl)) rfl ?_;intro f h
  refine aB (aU.subL (aU.of_own s 0 rfl) 0 33 (D:=aw n.me) (bT _ _ _ _)) h aL rfl (ak _) rfl ?_;intro f h
  refine aH h s iE (aO (.bool false) (ex n.me _) (congrArg Value.bool h0)) rfl rfl ?_;intro f w1 v9 hT hE h s;obtain rfl:=hT
  refine ac h (av (.bool true) (bh (h.ev rfl)) rfl) rfl ?_;intro f h
  refine ac h (ag (h.ev rfl)) rfl ?_;intro f h
  refine aA (b:=false) h rfl rfl rfl rfl ?_;intro f h
  refine aA (b:=false) h rfl rfl rfl rfl ?_;intro f h
  refine aA (b:=false) h rfl rfl rfl rfl ?_;intro f h
  refine aA (b:=false) h rfl rfl rfl rfl ?_;intro f h
  refine aA (b:=false) h rfl rfl rfl rfl ?_;intro f h
  refine dC h rfl rfl rfl rfl ?_;intro f h
  refine dC h rfl rfl rfl rfl ?_;intro f h
  refine dC h rfl rfl rfl rfl ?_;intro f h
  refine dC h rfl rfl rfl rfl ?_;intro f h
  refine dC h rfl rfl rfl rfl ?_;intro f h
  refine dC h rfl rfl rfl rfl ?_;intro f h
  refine dC h rfl rfl rfl rfl ?_;intro f h
  refine dC h rfl rfl rfl rfl ?_;intro f h
  refine dC h rfl rfl rfl rfl ?_;intro f h
  refine dC h rfl rfl rfl rfl ?_;intro f h
  refine dC h rfl rfl rfl rfl ?_;intro f h
  refine dC h rfl rfl rfl rfl ?_;intro f h
  refine dC h rfl rfl rfl rfl ?_;intro f h
  refine aA (b:=false) h rfl rfl rfl rfl ?_;intro f h
  refine ac h (aI (h.ev rfl) (h.ev rfl)) rfl ?_;intro f h
  refine ah ?_
  refine hK3 _ _ ?_
  refine wpIn_cond_true (h.ev rfl) ?_
  refine al fun K4 hK4=>?_
  refine ae ?_
  refine ac h (aj (h.ev rfl)) rfl ?_;intro f h
  refine ah ?_
  refine hK4 _ _ ?_
  refine wpIn_ret ?_
  refine aW ?_
  exact bf rfl h s rfl (by show _=_;rw [sM h0])
 ·skip
  cases p0:(decide (n.pr=de):Bool)
  ·skip
   cases p1:(dT n.pr:Bool)
   ·skip
    refine ae ?_
    refine ac h (ai aR (h.ev rfl)) rfl ?_;intro f h
    refine aB (aU.subL (aU.of_own s 0 rfl) 0 33 (D:=aw n.me) (bT _ _ _ _)) h aL rfl (ak _) rfl ?_;intro f h
    refine aH h s iE (aO (.bool true) (ex n.me _) (congrArg Value.bool h0)) rfl rfl ?_;intro f w1 v9 hT hE h s;obtain rfl:=hT
    refine ac h (av (.bool false) (bh (h.ev rfl)) rfl) rfl ?_;intro f h
    refine ac h (ag (h.ev rfl)) rfl ?_;intro f h
    refine az h rfl rfl rfl ?_
    refine ac h (ai bR (h.ev rfl)) rfl ?_;intro f h
    refine az h rfl rfl rfl ?_
    refine aB (aU.subL (aU.of_own s 0 rfl) 33 33 (D:=aw n.pr) (cb _ _ _ _)) h aL rfl (ak _) rfl ?_;intro f h
    refine az h rfl rfl rfl ?_
    refine aH h s fv (aO (.bool false) (cY n.pr _) (congrArg Value.bool p0)) rfl rfl ?_;intro f w1 v9 hT hE h s;obtain rfl:=hT
    refine az h rfl rfl rfl ?_
    refine ac h (av (.bool true) (bh (h.ev rfl)) rfl) rfl ?_;intro f h
    refine az h rfl rfl rfl ?_
    refine ac h (ag (h.ev rfl)) rfl ?_;intro f h
    refine az h rfl rfl rfl ?_
    refine ac h (ai bR (h.ev rfl)) rfl ?_;intro f h
    refine az h rfl rfl rfl ?_
    refine aB (aU.subL (aU.of_own s 0 rfl) 33 33 (D:=aw n.pr) (cb _ _ _ _)) h aL rfl (ak _) rfl ?_;intro f h
    refine az h rfl rfl rfl ?_
    refine aH h s iE (aO (.bool false) (ex n.pr _) (congrArg Value.bool p1)) rfl rfl ?_;intro f w1 v9 hT hE h s;obtain rfl:=hT
    refine az h rfl rfl rfl ?_
    refine ac h (av (.bool true) (bh (h.ev rfl)) rfl) rfl ?_;intro f h
    refine az h rfl rfl rfl ?_
    refine ac h (ag (h.ev rfl)) rfl ?_;intro f h
    refine aA (b:=false) h rfl rfl rfl rfl ?_;intro f h
    refine aA (b:=false) h rfl rfl rfl rfl ?_;intro f h
    refine aA (b:=false) h rfl rfl rfl rfl ?_;intro f h
    refine aA (b:=false) h rfl rfl rfl rfl ?_;intro f h
    refine aA (b:=false) h rfl rfl rfl rfl ?_;intro f h
    refine aA (b:=false) h rfl rfl rfl rfl ?_;intro f h
    refine aA (b:=false) h rfl rfl rfl rfl ?_;intro f h
    refine az h rfl rfl rfl ?_
    refine ac h (aI (h.ev rfl) (h.ev rfl)) rfl ?_;intro f h
    refine az h rfl rfl rfl ?_
    refine ac h (aI (h.ev rfl) (h.ev rfl)) rfl ?_;intro f h
    refine ac h (aG (h.ev rfl) (h.ev rfl)) rfl ?_;intro f h
    refine ah ?_
    refine hK3 _ _ ?_
    refine wpIn_cond_true (h.ev rfl) ?_
    refine al fun K5 hK5=>?_
    refine ae ?_
    refine ac h (aj (h.ev rfl)) rfl ?_;intro f h
    refine ah ?_
    refine hK5 _ _ ?_
    refine wpIn_ret ?_
    refine aW ?_
    exact bf rfl h s rfl (by show _=_;rw [oS (Ae p0 p1)])
   ·skip
    cases p2:(decide (n.pr.1=n.me.1):Bool)
    ·skip
     refine ae ?_
     refine ac h (ai aR (h.ev rfl)) rfl ?_;intro f h
     refine aB (aU.subL (aU.of_own s 0 rfl) 0 33 (D:=aw n.me) (bT _ _ _ _)) h aL rfl (ak _) rfl ?_;intro f h
     refine aH h s iE (aO (.bool true) (ex n.me _) (congrArg Value.bool h0)) rfl rfl ?_;intro f w1 v9 hT hE h s;obtain rfl:=hT
     refine ac h (av (.bool false) (bh (h.ev rfl)) rfl) rfl ?_;intro f h
     refine ac h (ag (h.ev rfl)) rfl ?_;intro f h
     refine az h rfl rfl rfl ?_
     refine ac h (ai bR (h.ev rfl)) rfl ?_;intro f h
     refine az h rfl rfl rfl ?_
     refine aB (aU.subL (aU.of_own s 0 rfl) 33 33 (D:=aw n.pr) (cb _ _ _ _)) h aL rfl (ak _) rfl ?_;intro f h
     refine az h rfl rfl rfl ?_
     refine aH h s fv (aO (.bool false) (cY n.pr _) (congrArg Value.bool p0)) rfl rfl ?_;intro f w1 v9 hT hE h s;obtain rfl:=hT
     refine az h rfl rfl rfl ?_
     refine ac h (av (.bool true) (bh (h.ev rfl)) rfl) rfl ?_;intro f h
     refine az h rfl rfl rfl ?_
     refine ac h (ag (h.ev rfl)) rfl ?_;intro f h
     refine az h rfl rfl rfl ?_
     refine ac h (ai bR (h.ev rfl)) rfl ?_;intro f h
     refine az h rfl rfl rfl ?_
     refine aB (aU.subL (aU.of_own s 0 rfl) 33 33 (D:=aw n.pr) (cb _ _ _ _)) h aL rfl (ak _) rfl ?_;intro f h
     refine az h rfl rfl rfl ?_
     refine aH h s iE (aO (.bool true) (ex n.pr _) (congrArg Value.bool p1)) rfl rfl ?_;intro f w1 v9 hT hE h s;obtain rfl:=hT
     refine az h rfl rfl rfl ?_
     refine ac h (av (.bool false) (bh (h.ev rfl)) rfl) rfl ?_;intro f h
     refine az h rfl rfl rfl ?_
     refine ac h (ag (h.ev rfl)) rfl ?_;intro f h
     refine az h rfl rfl rfl ?_
     refine ac h (ai bR (h.ev rfl)) rfl ?_;intro f h
     refine az h rfl rfl rfl ?_
     refine ac h (ai aJ (h.ev rfl)) rfl ?_;intro f h
     refine az h rfl rfl rfl ?_
     refine au (am (aU.of_own s 0 rfl) 33 (fS _ _ _ _)) h bz rfl rfl ?_;intro f h
     refine az h rfl rfl rfl ?_
     refine ac h (ai aR (h.ev rfl)) rfl ?_;intro f h
     refine az h rfl rfl rfl ?_
     refine ac h (ai aJ (h.ev rfl)) rfl ?_;intro f h
     refine az h rfl rfl rfl ?_
     refine au (am (aU.of_own s 0 rfl) 0 (bO _ _ _ _)) h bz rfl rfl ?_;intro f h
     refine az h rfl rfl rfl ?_
     refine ac h (av (.bool false) (bX (h.ev rfl) (h.ev rfl)) (congrArg Value.bool p2)) rfl ?_;intro f h
     refine az h rfl rfl rfl ?_
     refine ac h (aG (h.ev rfl) (h.ev rfl)) rfl ?_;intro f h
     refine az h rfl rfl rfl ?_
     refine ac h (aI (h.ev rfl) (h.ev rfl)) rfl ?_;intro f h
     refine ac h (aG (h.ev rfl) (h.ev rfl)) rfl ?_;intro f h
     refine ah ?_
     refine hK3 _ _ ?_
     refine wpIn_cond_false (h.ev rfl) ?_
     refine wpIn_skip ?_
     refine hK2 _ _ ?_
     refine al fun K6 hK6=>?_
     refine al fun K7 hK7=>?_
     cases s0:(decide (n.sc.length<1):Bool)
     ·skip
      cases s1:(decide (4<n.sc.length):Bool)
      ·skip
       cases f0:(decide (16<n.fg.length):Bool)
       ·skip
        cases f1:(iA n.fg n.me.1:Bool)
        ·skip
         refine ae ?_
         refine ac h (ai bD (h.ev rfl)) rfl ?_;intro f h
         refine au (V:=vs) (am (aU.of_own s 0 rfl) 66 (bL _ _ _ _)) h bE rfl rfl ?_;intro f h
         refine ac h (bc (hRs.keep s.ext) Tryz.underlying36 (h.ev rfl)) rfl ?_;intro f h
         refine ac h (av (.bool false) (bN (h.ev rfl) (h.ev rfl)) (congrArg Value.bool (decide_eq_false (by have:=of_decide_eq_false s0;omega)))) rfl ?_;intro f h
         refine ac h (ag (h.ev rfl)) rfl ?_;intro f h
         refine az h rfl rfl rfl ?_
         refine ac h (ai bD (h.ev rfl)) rfl ?_;intro f h
         refine az h rfl rfl rfl ?_
         refine au (V:=vs) (am (aU.of_own s 0 rfl) 66 (bL _ _ _ _)) h bE rfl rfl ?_;intro f h
         refine az h rfl rfl rfl ?_
         refine ac h (bc (hRs.keep s.ext) Tryz.underlying36 (h.ev rfl)) rfl ?_;intro f h
         refine az h rfl rfl rfl ?_
         refine ac h (av (.bool false) (c6 (h.ev rfl) (h.ev rfl)) (congrArg Value.bool (decide_eq_false (by have:=of_decide_eq_false s1;omega)))) rfl ?_;intro f h
         refine ac h (aG (h.ev rfl) (h.ev rfl)) rfl ?_;intro f h
         refine ac h (ag (h.ev rfl)) rfl ?_;intro f h
         refine az h rfl rfl rfl ?_
         refine ac h (ai cR (h.ev rfl)) rfl ?_;intro f h
         refine az h rfl rfl rfl ?_
         refine au (V:=vf) (am (aU.of_own s 0 rfl) 67 (cT _ _ _ _)) h bE rfl rfl ?_;intro f h
         refine az h rfl rfl rfl ?_
         refine ac h (bc (hRf.keep s.ext) Tryz.underlying36 (h.ev rfl)) rfl ?_;intro f h
         refine az h rfl rfl rfl ?_
         refine ac h (av (.bool false) (c6 (h.ev rfl) (h.ev rfl)) (congrArg Value.bool (decide_eq_false (by have:=of_decide_eq_false f0;omega)))) rfl ?_;intro f h
         refine ac h (aG (h.ev rfl) (h.ev rfl)) rfl ?_;intro f h
         refine ac h (ag (h.ev rfl)) rfl ?_;intro f h
         refine az h rfl rfl rfl ?_
         refine ac h (ai cR (h.ev rfl)) rfl ?_;intro f h
         refine az h rfl rfl rfl ?_
         refine au (V:=vf) (am (aU.of_own s 0 rfl) 67 (cT _ _ _ _)) h bE rfl rfl ?_;intro f h
         refine az h rfl rfl rfl ?_
         refine ac h (ai aR (h.ev rfl)) rfl ?_;intro f h
         refine az h rfl rfl rfl ?_
         refine ac h (ai aJ (h.ev rfl)) rfl ?_;intro f h
         refine az h rfl rfl rfl ?_
         refine au (am (aU.of_own s 0 rfl) 0 (bO _ _ _ _)) h bz rfl rfl ?_;intro f h
         refine az h rfl rfl rfl ?_
         refine aH h s lD (aO (.bool false) (en n.fg vf n.me.1 _ (hRf.keep s.ext) hnf) (congrArg Value.bool f1)) rfl rfl ?_;intro f w1 v9 hT hE h s;obtain rfl:=hT
         refine az h rfl rfl rfl ?_
         refine ac h (av (.bool true) (bh (h.ev rfl)) rfl) rfl ?_;intro f h
         refine ac h (aG (h.ev rfl) (h.ev rfl)) rfl ?_;intro f h
         refine ah ?_
         refine hK7 _ _ ?_
         refine wpIn_cond_true (h.ev rfl) ?_
         refine al fun K8 hK8=>?_
         refine ae ?_
         refine ac h (aj (h.ev rfl)) rfl ?_;intro f h
         refine ah ?_
         refine hK8 _ _ ?_
         refine wpIn_ret ?_
         refine aW ?_
         exact bf rfl h s rfl (by show _=_;rw [mf (vy f1)])
        ·skip
         refine ae ?_
         refine ac h (ai bD (h.ev rfl)) rfl ?_;intro f h
         refine au (V:=vs) (am (aU.of_own s 0 rfl) 66 (bL _ _ _ _)) h bE rfl rfl ?_;intro f h
         refine ac h (bc (hRs.keep s.ext) Tryz.underlying36 (h.ev rfl)) rfl ?_;intro f h
         refine ac h (av (.bool false) (bN (h.ev rfl) (h.ev rfl)) (congrArg Value.bool (decide_eq_false (by have:=of_decide_eq_false s0;omega)))) rfl ?_;intro f h
         refine ac h (ag (h.ev rfl)) rfl ?_;intro f h
         refine az h rfl rfl rfl ?_
         refine ac h (ai bD (h.ev rfl)) rfl ?_;intro f h
         refine az h rfl rfl rfl ?_
         refine au (V:=vs) (am (aU.of_own s 0 rfl) 66 (bL _ _ _ _)) h bE rfl rfl ?_;intro f h
         refine az h rfl rfl rfl ?_
         refine ac h (bc (hRs.keep s.ext) Tryz.underlying36 (h.ev rfl)) rfl ?_;intro f h
         refine az h rfl rfl rfl ?_
         refine ac h (av (.bool false) (c6 (h.ev rfl) (h.ev rfl)) (congrArg Value.bool (decide_eq_false (by have:=of_decide_eq_false s1;omega)))) rfl ?_;intro f h
         refine ac h (aG (h.ev rfl) (h.ev rfl)) rfl ?_;intro f h
         refine ac h (ag (h.ev rfl)) rfl ?_;intro f h
         refine az h rfl rfl rfl ?_
         refine ac h (ai cR (h.ev rfl)) rfl ?_;intro f h
         refine az h rfl rfl rfl ?_
         refine au (V:=vf) (am (aU.of_own s 0 rfl) 67 (cT _ _ _ _)) h bE rfl rfl ?_;intro f h
         refine az h rfl rfl rfl ?_
         refine ac h (bc (hRf.keep s.ext) Tryz.underlying36 (h.ev rfl)) rfl ?_;intro f h
         refine az h rfl rfl rfl ?_
         refine ac h (av (.bool false) (c6 (h.ev rfl) (h.ev rfl)) (congrArg Value.bool (decide_eq_false (by have:=of_decide_eq_false f0;omega)))) rfl ?_;intro f h
         refine ac h (aG (h.ev rfl) (h.ev rfl)) rfl ?_;intro f h
         refine ac h (ag (h.ev rfl)) rfl ?_;intro f h
         refine az h rfl rfl rfl ?_
         refine ac h (ai cR (h.ev rfl)) rfl ?_;intro f h
         refine az h rfl rfl rfl ?_
         refine au (V:=vf) (am (aU.of_own s 0 rfl) 67 (cT _ _ _ _)) h bE rfl rfl ?_;intro f h
         refine az h rfl rfl rfl ?_
         refine ac h (ai aR (h.ev rfl)) rfl ?_;intro f h
         refine az h rfl rfl rfl ?_
         refine ac h (ai aJ (h.ev rfl)) rfl ?_;intro f h
         refine az h rfl rfl rfl ?_
         refine au (am (aU.of_own s 0 rfl) 0 (bO _ _ _ _)) h bz rfl rfl ?_;intro f h
         refine az h rfl rfl rfl ?_
         refine aH h s lD (aO (.bool true) (en n.fg vf n.me.1 _ (hRf.keep s.ext) hnf) (congrArg Value.bool f1)) rfl rfl ?_;intro f w1 v9 hT hE h s;obtain rfl:=hT
         refine az h rfl rfl rfl ?_
         refine ac h (av (.bool false) (bh (h.ev rfl)) rfl) rfl ?_;intro f h
         refine ac h (aG (h.ev rfl) (h.ev rfl)) rfl ?_;intro f h
         refine ah ?_
         refine hK7 _ _ ?_
         refine wpIn_cond_false (h.ev rfl) ?_
         refine wpIn_skip ?_
         refine hK6 _ _ ?_
         refine al fun K9 hK9=>?_
         cases t0:(decide (n.sc.length=1):Bool)
         ·skip
          refine bI 22 [[],[0],[0,1],[0,1,2],[0,1,2,3],[0,1,2,3,4],[0,1,2,3,4,5],[0,1,2,3,4,5,6],[0,1,2,3,4,5,6,7],[0,1,2,3,4],[0,1,2,3,4,9],[0,1,2,3,4,5,6,7,8,9,10],[0,1,2,3,4,5,6,7,8,9,10,11],[0,1,2,3,4,5,6,7,8,9,10,11,12],[0,1,2,3,4,5,6,7,8,9,10,11,12,13],[0,1,2,3,4,5,6,7,8,9,10,11,12,13,14],[0,1,2,3,4,5,6,7,8,9,10,11,12,13],[0,1,2,3,4,5,6,7,8,9,10,11,12,13,16],[0,1,2,3,4,5,6,7,8,9,10,11,12,13,16,17],[0,1,2,3,4,5,6,7,8,9,10,11,12,13,14,15,16,17,18],[0,1,2,3,4,5,6,7,8,9,10,11,12,13,14,15,16,17,18,19],[0,1,2,3,4,5,6,7,8,9,10,11,12,13,14,15,16,17,18,19,20]] h (by kernel_rfl) (by kernel_rfl) (by kernel_rfl) ?_
          refine ao h (ai bD (h.ev rfl)) rfl ?_;intro f h
          refine a2 (V:=vs) (am (aU.of_own s 0 rfl) 66 (bL _ _ _ _)) h bE rfl rfl ?_;intro f h
          refine ao h (bc (hRs.keep s.ext) Tryz.underlying36 (h.ev rfl)) rfl ?_;intro f h
          refine ao h (av (.bool false) (bX (h.ev rfl) (h.ev rfl)) (congrArg Value.bool (decide_eq_false (by have:=of_decide_eq_false t0;omega)))) rfl ?_;intro f h
          refine ao h (ag (h.ev rfl)) rfl ?_;intro f h
          refine aY (b:=true) h rfl rfl rfl rfl ?_;intro f h
          refine aY (b:=true) h rfl rfl rfl rfl ?_;intro f h
          refine aY (b:=true) h rfl rfl rfl rfl ?_;intro f h
          refine aY (b:=true) h rfl rfl rfl rfl ?_;intro f h
          refine aY (b:=true) h rfl rfl rfl rfl ?_;intro f h
          refine aY (b:=true) h rfl rfl rfl rfl ?_;intro f h
          refine aY (b:=true) h rfl rfl rfl rfl ?_;intro f h
          refine ao h (aG (h.ev rfl) (h.ev rfl)) rfl ?_;intro f h
          refine ao h (ag (h.ev rfl)) rfl ?_;intro f h
          refine aV h rfl rfl rfl ?_
          refine ao h (ai bD (h.ev rfl)) rfl ?_;intro f h
          refine aV h rfl rfl rfl ?_
          refine a2 (V:=vs) (am (aU.of_own s 0 rfl) 66 (bL _ _ _ _)) h bE rfl rfl ?_;intro f h
          refine aV h rfl rfl rfl ?_
          refine ao h (ai aR (h.ev rfl)) rfl ?_;intro f h
          refine aV h rfl rfl rfl ?_
          refine ao h (ai aJ (h.ev rfl)) rfl ?_;intro f h
          refine aV h rfl rfl rfl ?_
          refine a2 (am (aU.of_own s 0 rfl) 0 (bO _ _ _ _)) h bz rfl rfl ?_;intro f h
          refine aV h rfl rfl rfl ?_
          refine cm h lD (fun w9 hE9=>en n.sc vs n.me.1 w9 (hRs.keep (s.ext.trans hE9)) hns) rfl rfl ?_;intro f h
          refine ao h (aG (h.ev rfl) (h.ev rfl)) rfl ?_;intro f h
          refine ao h (aj (h.ev rfl)) rfl ?_;intro f h
          refine cq s fun w1 s=>?_
          refine ah ?_
          refine hK9 _ _ ?_
          refine wpIn_ret ?_
          exact bf rfl h s rfl (by show _=_;rw [iN h0 (xR p0 p1 p2) (kH f0 f1),sC s0 s1 (by rintro ⟨h9,h8⟩;exact absurd h9 (of_decide_eq_false t0))])
         ·skip
          cases t1:(decide (n.sc.getD 0 aT=n.me):Bool)
          ·skip
           refine bI 22 [[],[0],[0,1],[0,1,2],[0,1,2,3],[0,1,2,3,4],[0,1,2,3,4,5],[0,1,2,3,4,5,6],[0,1,2,3,4,5,6,7],[0,1,2,3,4],[0,1,2,3,4,9],[0,1,2,3,4,5,6,7,8,9,10],[0,1,2,3,4,5,6,7,8,9,10,11],[0,1,2,3,4,5,6,7,8,9,10,11,12],[0,1,2,3,4,5,6,7,8,9,10,11,12,13],[0,1,2,3,4,5,6,7,8,9,10,11,12,13,14],[0,1,2,3,4,5,6,7,8,9,10,11,12,13],[0,1,2,3,4,5,6,7,8,9,10,11,12,13,16],[0,1,2,3,4,5,6,7,8,9,10,11,12,13,16,17],[0,1,2,3,4,5,6,7,8,9,10,11,12,13,14,15,16,17,18],[0,1,2,3,4,5,6,7,8,9,10,11,12,13,14,15,16,17,18,19],[0,1,2,3,4,5,6,7,8,9,10,11,12,13,14,15,16,17,18,19,20]] h (by kernel_rfl) (by kernel_rfl) (by kernel_rfl) ?_
           refine ao h (ai bD (h.ev rfl)) rfl ?_;intro f h
           refine a2 (V:=vs) (am (aU.of_own s 0 rfl) 66 (bL _ _ _ _)) h bE rfl rfl ?_;intro f h
           refine ao h (bc (hRs.keep s.ext) Tryz.underlying36 (h.ev rfl)) rfl ?_;intro f h
           refine ao h (av (.bool true) (bX (h.ev rfl) (h.ev rfl)) (congrArg Value.bool (decide_eq_true (by have:=of_decide_eq_true t0;omega)))) rfl ?_;intro f h
           refine ao h (ag (h.ev rfl)) rfl ?_;intro f h
           refine aV h rfl rfl rfl ?_
           refine ao h (ai bD (h.ev rfl)) rfl ?_;intro f h
           refine aV h rfl rfl rfl ?_
           refine a2 (V:=vs) (am (aU.of_own s 0 rfl) 66 (bL _ _ _ _)) h bE rfl rfl ?_;intro f h
           refine aV h rfl rfl rfl ?_
           have h19:=of_decide_eq_true t0
           refine ao h (bZ (hRs.keep s.ext) (0) Tryz.underlying36 cz (h.ev rfl) (h.ev rfl) (by omega) (by omega)) rfl ?_;intro f h
           refine aV h rfl rfl rfl ?_
           refine bk ((hRs.keep s.ext).el (0) (by omega) (by decide) (D:=aw (n.sc.getD 0 aT)) (cL n.sc 0 (by omega))) h aL rfl (ak _) rfl ?_;intro f h
           refine aV h rfl rfl rfl ?_
           refine ao h (ai aR (h.ev rfl)) rfl ?_;intro f h
           refine aV h rfl rfl rfl ?_
           refine bk (aU.subL (aU.of_own s 0 rfl) 0 33 (D:=aw n.me) (bT _ _ _ _)) h aL rfl (ak _) rfl ?_;intro f h
           refine aV h rfl rfl rfl ?_
           refine ao h (av (.bool false) (cV (g4 _ _) (by kernel_rfl) (by decide) (h.ev rfl) (h.ev rfl) (decide (n.sc.getD 0 aT=n.me)) (ee _ _)) (congrArg Value.bool t1)) rfl ?_;intro f h
           refine ao h (aI (h.ev rfl) (h.ev rfl)) rfl ?_;intro f h
           refine ao h (ag (h.ev rfl)) rfl ?_;intro f h
           refine aV h rfl rfl rfl ?_
           refine ao h (ai bD (h.ev rfl)) rfl ?_;intro f h
           refine aV h rfl rfl rfl ?_
           refine a2 (V:=vs) (am (aU.of_own s 0 rfl) 66 (bL _ _ _ _)) h bE rfl rfl ?_;intro f h
           refine aV h rfl rfl rfl ?_
           refine ao h (ai aR (h.ev rfl)) rfl ?_;intro f h
           refine aV h rfl rfl rfl ?_
           refine ao h (ai aJ (h.ev rfl)) rfl ?_;intro f h
           refine aV h rfl rfl rfl ?_
           refine a2 (am (aU.of_own s 0 rfl) 0 (bO _ _ _ _)) h bz rfl rfl ?_;intro f h
           refine aV h rfl rfl rfl ?_
           refine cm h lD (fun w9 hE9=>en n.sc vs n.me.1 w9 (hRs.keep (s.ext.trans hE9)) hns) rfl rfl ?_;intro f h
           refine ao h (aG (h.ev rfl) (h.ev rfl)) rfl ?_;intro f h
           refine ao h (aj (h.ev rfl)) rfl ?_;intro f h
           refine cq s fun w1 s=>?_
           refine ah ?_
           refine hK9 _ _ ?_
           refine wpIn_ret ?_
           exact bf rfl h s rfl (by show _=_;rw [iN h0 (xR p0 p1 p2) (kH f0 f1),sC s0 s1 (by rintro ⟨h9,h8⟩;exact absurd h8 (of_decide_eq_false t1))])
          ·skip
           refine bI 22 [[],[0],[0,1],[0,1,2],[0,1,2,3],[0,1,2,3,4],[0,1,2,3,4,5],[0,1,2,3,4,5,6],[0,1,2,3,4,5,6,7],[0,1,2,3,4],[0,1,2,3,4,9],[0,1,2,3,4,5,6,7,8,9,10],[0,1,2,3,4,5,6,7,8,9,10,11],[0,1,2,3,4,5,6,7,8,9,10,11,12],[0,1,2,3,4,5,6,7,8,9,10,11,12,13],[0,1,2,3,4,5,6,7,8,9,10,11,12,13,14],[0,1,2,3,4,5,6,7,8,9,10,11,12,13],[0,1,2,3,4,5,6,7,8,9,10,11,12,13,16],[0,1,2,3,4,5,6,7,8,9,10,11,12,13,16,17],[0,1,2,3,4,5,6,7,8,9,10,11,12,13,14,15,16,17,18],[0,1,2,3,4,5,6,7,8,9,10,11,12,13,14,15,16,17,18,19],[0,1,2,3,4,5,6,7,8,9,10,11,12,13,14,15,16,17,18,19,20]] h (by kernel_rfl) (by kernel_rfl) (by kernel_rfl) ?_
           refine ao h (ai bD (h.ev rfl)) rfl ?_;intro f h
           refine a2 (V:=vs) (am (aU.of_own s 0 rfl) 66 (bL _ _ _ _)) h bE rfl rfl ?_;intro f h
           refine ao h (bc (hRs.keep s.ext) Tryz.underlying36 (h.ev rfl)) rfl ?_;intro f h
           refine ao h (av (.bool true) (bX (h.ev rfl) (h.ev rfl)) (congrArg Value.bool (decide_eq_true (by have:=of_decide_eq_true t0;omega)))) rfl ?_;intro f h
           refine ao h (ag (h.ev rfl)) rfl ?_;intro f h
           refine aV h rfl rfl rfl ?_
           refine ao h (ai bD (h.ev rfl)) rfl ?_;intro f h
           refine aV h rfl rfl rfl ?_
           refine a2 (V:=vs) (am (aU.of_own s 0 rfl) 66 (bL _ _ _ _)) h bE rfl rfl ?_;intro f h
           refine aV h rfl rfl rfl ?_
           have h19:=of_decide_eq_true t0
           refine ao h (bZ (hRs.keep s.ext) (0) Tryz.underlying36 cz (h.ev rfl) (h.ev rfl) (by omega) (by omega)) rfl ?_;intro f h
           refine aV h rfl rfl rfl ?_
           refine bk ((hRs.keep s.ext).el (0) (by omega) (by decide) (D:=aw (n.sc.getD 0 aT)) (cL n.sc 0 (by omega))) h aL rfl (ak _) rfl ?_;intro f h
           refine aV h rfl rfl rfl ?_
           refine ao h (ai aR (h.ev rfl)) rfl ?_;intro f h
           refine aV h rfl rfl rfl ?_
           refine bk (aU.subL (aU.of_own s 0 rfl) 0 33 (D:=aw n.me) (bT _ _ _ _)) h aL rfl (ak _) rfl ?_;intro f h
           refine aV h rfl rfl rfl ?_
           refine ao h (av (.bool true) (cV (g4 _ _) (by kernel_rfl) (by decide) (h.ev rfl) (h.ev rfl) (decide (n.sc.getD 0 aT=n.me)) (ee _ _)) (congrArg Value.bool t1)) rfl ?_;intro f h
           refine ao h (aI (h.ev rfl) (h.ev rfl)) rfl ?_;intro f h
           refine ao h (ag (h.ev rfl)) rfl ?_;intro f h
           refine aY (b:=false) h rfl rfl rfl rfl ?_;intro f h
           refine aY (b:=false) h rfl rfl rfl rfl ?_;intro f h
           refine aY (b:=false) h rfl rfl rfl rfl ?_;intro f h
           refine aY (b:=false) h rfl rfl rfl rfl ?_;intro f h
           refine aY (b:=false) h rfl rfl rfl rfl ?_;intro f h
           refine aY (b:=false) h rfl rfl rfl rfl ?_;intro f h
           refine ao h (aI (h.ev rfl) (h.ev rfl)) rfl ?_;intro f h
           refine ao h (aj (h.ev rfl)) rfl ?_;intro f h
           refine cq s fun w1 s=>?_
           refine ah ?_
           refine hK9 _ _ ?_
           refine wpIn_ret ?_
           exact bf rfl h s rfl (by show _=_;rw [iN h0 (xR p0 p1 p2) (kH f0 f1),vP t0 t1])
       ·skip
        refine ae ?_
        refine ac h (ai bD (h.ev rfl)) rfl ?_;intro f h
        refine au (V:=vs) (am (aU.of_own s 0 rfl) 66 (bL _ _ _ _)) h bE rfl rfl ?_;intro f h
        refine ac h (bc (hRs.keep s.ext) Tryz.underlying36 (h.ev rfl)) rfl ?_;intro f h
        refine ac h (av (.bool false) (bN (h.ev rfl) (h.ev rfl)) (congrArg Value.bool (decide_eq_false (by have:=of_decide_eq_false s0;omega)))) rfl ?_;intro f h
        refine ac h (ag (h.ev rfl)) rfl ?_;intro f h
        refine az h rfl rfl rfl ?_
        refine ac h (ai bD (h.ev rfl)) rfl ?_;intro f h
        refine az h rfl rfl rfl ?_
        refine au (V:=vs) (am (aU.of_own s 0 rfl) 66 (bL _ _ _ _)) h bE rfl rfl ?_;intro f h
        refine az h rfl rfl rfl ?_
        refine ac h (bc (hRs.keep s.ext) Tryz.underlying36 (h.ev rfl)) rfl ?_;intro f h
        refine az h rfl rfl rfl ?_
        refine ac h (av (.bool false) (c6 (h.ev rfl) (h.ev rfl)) (congrArg Value.bool (decide_eq_false (by have:=of_decide_eq_false s1;omega)))) rfl ?_;intro f h
        refine ac h (aG (h.ev rfl) (h.ev rfl)) rfl ?_;intro f h
        refine ac h (ag (h.ev rfl)) rfl ?_;intro f h
        refine az h rfl rfl rfl ?_
        refine ac h (ai cR (h.ev rfl)) rfl ?_;intro f h
        refine az h rfl rfl rfl ?_
        refine au (V:=vf) (am (aU.of_own s 0 rfl) 67 (cT _ _ _ _)) h bE rfl rfl ?_;intro f h
        refine az h rfl rfl rfl ?_
        refine ac h (bc (hRf.keep s.ext) Tryz.underlying36 (h.ev rfl)) rfl ?_;intro f h
        refine az h rfl rfl rfl ?_
        refine ac h (av (.bool true) (c6 (h.ev rfl) (h.ev rfl)) (congrArg Value.bool (decide_eq_true (by have:=of_decide_eq_true f0;omega)))) rfl ?_;intro f h
        refine ac h (aG (h.ev rfl) (h.ev rfl)) rfl ?_;intro f h
        refine ac h (ag (h.ev rfl)) rfl ?_;intro f h
        refine aA (b:=false) h rfl rfl rfl rfl ?_;intro f h
        refine aA (b:=false) h rfl rfl rfl rfl ?_;intro f h
        refine aA (b:=false) h rfl rfl rfl rfl ?_;intro f h
        refine aA (b:=false) h rfl rfl rfl rfl ?_;intro f h
        refine aA (b:=false) h rfl rfl rfl rfl ?_;intro f h
        refine aA (b:=false) h rfl rfl rfl rfl ?_;intro f h
        refine aA (b:=false) h rfl rfl rfl rfl ?_;intro f h
        refine ac h (aI (h.ev rfl) (h.ev rfl)) rfl ?_;intro f h
        refine ah ?_
        refine hK7 _ _ ?_
        refine wpIn_cond_true (h.ev rfl) ?_
        refine al fun K10 hK10=>?_
        refine ae ?_
        refine ac h (aj (h.ev rfl)) rfl ?_;intro f h
        refine ah ?_
        refine hK10 _ _ ?_
        refine wpIn_ret ?_
        refine aW ?_
        exact bf rfl h s rfl (by show _=_;rw [mf (w5 f0)])
      ·skip
       refine ae ?_
       refine ac h (ai bD (h.ev rfl)) rfl ?_;intro f h
       refine au (V:=vs) (am (aU.of_own s 0 rfl) 66 (bL _ _ _ _)) h bE rfl rfl ?_;intro f h
       refine ac h (bc (hRs.keep s.ext) Tryz.underlying36 (h.ev rfl)) rfl ?_;intro f h
       refine ac h (av (.bool false) (bN (h.ev rfl) (h.ev rfl)) (congrArg Value.bool (decide_eq_false (by have:=of_decide_eq_false s0;omega)))) rfl ?_;intro f h
       refine ac h (ag (h.ev rfl)) rfl ?_;intro f h
       refine az h rfl rfl rfl ?_
       refine ac h (ai bD (h.ev rfl)) rfl ?_;intro f h
       refine az h rfl rfl rfl ?_
       refine au (V:=vs) (am (aU.of_own s 0 rfl) 66 (bL _ _ _ _)) h bE rfl rfl ?_;intro f h
       refine az h rfl rfl rfl ?_
       refine ac h (bc (hRs.keep s.ext) Tryz.underlying36 (h.ev rfl)) rfl ?_;intro f h
       refine az h rfl rfl rfl ?_
       refine ac h (av (.bool true) (c6 (h.ev rfl) (h.ev rfl)) (congrArg Value.bool (decide_eq_true (by have:=of_decide_eq_true s1;omega)))) rfl ?_;intro f h
       refine ac h (aG (h.ev rfl) (h.ev rfl)) rfl ?_;intro f h
       refine ac h (ag (h.ev rfl)) rfl ?_;intro f h
       refine aA (b:=false) h rfl rfl rfl rfl ?_;intro f h
       refine aA (b:=false) h rfl rfl rfl rfl ?_;intro f h
       refine aA (b:=false) h rfl rfl rfl rfl ?_;intro f h
       refine aA (b:=false) h rfl rfl rfl rfl ?_;intro f h
       refine ac h (aI (h.ev rfl) (h.ev rfl)) rfl ?_;intro f h
       refine ac h (ag (h.ev rfl)) rfl ?_;intro f h
       refine aA (b:=false) h rfl rfl rfl rfl ?_;intro f h
       refine aA (b:=false) h rfl rfl rfl rfl ?_;intro f h
       refine aA (b:=false) h rfl rfl rfl rfl ?_;intro f h
       refine aA (b:=false) h rfl rfl rfl rfl ?_;intro f h
       refine aA (b:=false) h rfl rfl rfl rfl ?_;intro f h
       refine aA (b:=false) h rfl rfl rfl rfl ?_;intro f h
       refine aA (b:=false) h rfl rfl rfl rfl ?_;intro f h
       refine ac h (aI (h.ev rfl) (h.ev rfl)) rfl ?_;intro f h
       refine ah ?_
       refine hK7 _ _ ?_
       refine wpIn_cond_true (h.ev rfl) ?_
       refine al fun K11 hK11=>?_
       refine ae ?_
       refine ac h (aj (h.ev rfl)) rfl ?_;intro f h
       refine ah ?_
       refine hK11 _ _ ?_
       refine wpIn_ret ?_
       refine aW ?_
       exact bf rfl h s rfl (by show _=_;rw [j1 (wE s1)])
     ·skip
      refine ae ?_
      refine ac h (ai bD (h.ev rfl)) rfl ?_;intro f h
      refine au (V:=vs) (am (aU.of_own s 0 rfl) 66 (bL _ _ _ _)) h bE rfl rfl ?_;intro f h
      refine ac h (bc (hRs.keep s.ext) Tryz.underlying36 (h.ev rfl)) rfl ?_;intro f h
      refine ac h (av (.bool true) (bN (h.ev rfl) (h.ev rfl)) (congrArg Value.bool (decide_eq_true (by have:=of_decide_eq_true s0;omega)))) rfl ?_;intro f h
      refine ac h (ag (h.ev rfl)) rfl ?_;intro f h
      refine aA (b:=false) h rfl rfl rfl rfl ?_;intro f h
      refine aA (b:=false) h rfl rfl rfl rfl ?_;intro f h
      refine aA (b:=false) h rfl rfl rfl rfl ?_;intro f h
      refine aA (b:=false) h rfl rfl rfl rfl ?_;intro f h
      refine ac h (aI (h.ev rfl) (h.ev rfl)) rfl ?_;intro f h
      refine ac h (ag (h.ev rfl)) rfl ?_;intro f h
      refine aA (b:=false) h rfl rfl rfl rfl ?_;intro f h
      refine aA (b:=false) h rfl rfl rfl rfl ?_;intro f h
      refine aA (b:=false) h rfl rfl rfl rfl ?_;intro f h
      refine aA (b:=false) h rfl rfl rfl rfl ?_;intro f h
      refine ac h (aI (h.ev rfl) (h.ev rfl)) rfl ?_;intro f h
      refine ac h (ag (h.ev rfl)) rfl ?_;intro f h
      refine aA (b:=false) h rfl rfl rfl rfl ?_;intro f h
      refine aA (b:=false) h rfl rfl rfl rfl ?_;intro f h
      refine aA (b:=false) h rfl rfl rfl rfl ?_;intro f h
      refine aA (b:=false) h rfl rfl rfl rfl ?_;intro f h
      refine aA (b:=false) h rfl rfl rfl rfl ?_;intro f h
      refine aA (b:=false) h rfl rfl rfl rfl ?_;intro f h
      refine aA (b:=false) h rfl rfl rfl rfl ?_;intro f h
      refine ac h (aI (h.ev rfl) (h.ev rfl)) rfl ?_;intro f h
      refine ah ?_
      refine hK7 _ _ ?_
      refine wpIn_cond_true (h.ev rfl) ?_
      refine al fun K12 hK12=>?_
      refine ae ?_
      refine ac h (aj (h.ev rfl)) rfl ?_;intro f h
      refine ah ?_
      refine hK12 _ _ ?_
      refine wpIn_ret ?_
      refine aW ?_
      exact bf rfl h s rfl (by show _=_;rw [j1 (xD s0)])
    ·skip
     refine ae ?_
     refine ac h (ai aR (h.ev rfl)) rfl ?_;intro f h
     refine aB (aU.subL (aU.of_own s 0 rfl) 0 33 (D:=aw n.me) (bT _ _ _ _)) h aL rfl (ak _) rfl ?_;intro f h
     refine aH h s iE (aO (.bool true) (ex n.me _) (congrArg Value.bool h0)) rfl rfl ?_;intro f w1 v9 hT hE h s;obtain rfl:=hT
     refine ac h (av (.bool false) (bh (h.ev rfl)) rfl) rfl ?_;intro f h
     refine ac h (ag (h.ev rfl)) rfl ?_;intro f h
     refine az h rfl rfl rfl ?_
     refine ac h (ai bR (h.ev rfl)) rfl ?_;intro f h
     refine az h rfl rfl rfl ?_
     refine aB (aU.subL (aU.of_own s 0 rfl) 33 33 (D:=aw n.pr) (cb _ _ _ _)) h aL rfl (ak _) rfl ?_;intro f h
     refine az h rfl rfl rfl ?_
     refine aH h s fv (aO (.bool false) (cY n.pr _) (congrArg Value.bool p0)) rfl rfl ?_;intro f w1 v9 hT hE h s;obtain rfl:=hT
     refine az h rfl rfl rfl ?_
     refine ac h (av (.bool true) (bh (h.ev rfl)) rfl) rfl ?_;intro f h
     refine az h rfl rfl rfl ?_
     refine ac h (ag (h.ev rfl)) rfl ?_;intro f h
     refine az h rfl rfl rfl ?_
     refine ac h (ai bR (h.ev rfl)) rfl ?_;intro f h
     refine az h rfl rfl rfl ?_
     refine aB (aU.subL (aU.of_own s 0 rfl) 33 33 (D:=aw n.pr) (cb _ _ _ _)) h aL rfl (ak _) rfl ?_;intro f h
     refine az h rfl rfl rfl ?_
     refine aH h s iE (aO (.bool true) (ex n.pr _) (congrArg Value.bool p1)) rfl rfl ?_;intro f w1 v9 hT hE h s;obtain rfl:=hT
     refine az h rfl rfl rfl ?_
     refine ac h (av (.bool false) (bh (h.ev rfl)) rfl) rfl ?_;intro f h
     refine az h rfl rfl rfl ?_
     refine ac h (ag (h.ev rfl)) rfl ?_;intro f h
     refine az h rfl rfl rfl ?_
     refine ac h (ai bR (h.ev rfl)) rfl ?_;intro f h
     refine az h rfl rfl rfl ?_
     refine ac h (ai aJ (h.ev rfl)) rfl ?_;intro f h
     refine az h rfl rfl rfl ?_
     refine au (am (aU.of_own s 0 rfl) 33 (fS _ _ _ _)) h bz rfl rfl ?_;intro f h
     refine az h rfl rfl rfl ?_
     refine ac h (ai aR (h.ev rfl)) rfl ?_;intro f h
     refine az h rfl rfl rfl ?_
     refine ac h (ai aJ (h.ev rfl)) rfl ?_;intro f h
     refine az h rfl rfl rfl ?_
     refine au (am (aU.of_own s 0 rfl) 0 (bO _ _ _ _)) h bz rfl rfl ?_;intro f h
     refine az h rfl rfl rfl ?_
     refine ac h (av (.bool true) (bX (h.ev rfl) (h.ev rfl)) (congrArg Value.bool p2)) rfl ?_;intro f h
     refine az h rfl rfl rfl ?_
     refine ac h (aG (h.ev rfl) (h.ev rfl)) rfl ?_;intro f h
     refine az h rfl rfl rfl ?_
     refine ac h (aI (h.ev rfl) (h.ev rfl)) rfl ?_;intro f h
     refine ac h (aG (h.ev rfl) (h.ev rfl)) rfl ?_;intro f h
     refine ah ?_
     refine hK3 _ _ ?_
     refine wpIn_cond_true (h.ev rfl) ?_
     refine al fun K13 hK13=>?_
     refine ae ?_
     refine ac h (aj (h.ev rfl)) rfl ?_;intro f h
     refine ah ?_
     refine hK13 _ _ ?_
     refine wpIn_ret ?_
     refine aW ?_
     exact bf rfl h s rfl (by show _=_;rw [oS (Dp p0 p1 p2)])
  ·skip
   refine ae ?_
   refine ac h (ai aR (h.ev rfl)) rfl ?_;intro f h
   refine aB (aU.subL (aU.of_own s 0 rfl) 0 33 (D:=aw n.me) (bT _ _ _ _)) h aL rfl (ak _) rfl ?_;intro f h
   refine aH h s iE (aO (.bool true) (ex n.me _) (congrArg Value.bool h0)) rfl rfl ?_;intro f w1 v9 hT hE h s;obtain rfl:=hT
   refine ac h (av (.bool false) (bh (h.ev rfl)) rfl) rfl ?_;intro f h
   refine ac h (ag (h.ev rfl)) rfl ?_;intro f h
   refine az h rfl rfl rfl ?_
   refine ac h (ai bR (h.ev rfl)) rfl ?_;intro f h
   refine az h rfl rfl rfl ?_
   refine aB (aU.subL (aU.of_own s 0 rfl) 33 33 (D:=aw n.pr) (cb _ _ _ _)) h aL rfl (ak _) rfl ?_;intro f h
   refine az h rfl rfl rfl ?_
   refine aH h s fv (aO (.bool true) (cY n.pr _) (congrArg Value.bool p0)) rfl rfl ?_;intro f w1 v9 hT hE h s;obtain rfl:=hT
   refine az h rfl rfl rfl ?_
   refine ac h (av (.bool false) (bh (h.ev rfl)) rfl) rfl ?_;intro f h
   refine az h rfl rfl rfl ?_
   refine ac h (ag (h.ev rfl)) rfl ?_;intro f h
   refine aA (b:=true) h rfl rfl rfl rfl ?_;intro f h
   refine aA (b:=true) h rfl rfl rfl rfl ?_;intro f h
   refine aA (b:=true) h rfl rfl rfl rfl ?_;intro f h
   refine aA (b:=true) h rfl rfl rfl rfl ?_;intro f h
   refine aA (b:=true) h rfl rfl rfl rfl ?_;intro f h
   refine dC h rfl rfl rfl rfl ?_;intro f h
   refine dC h rfl rfl rfl rfl ?_;intro f h
   refine dC h rfl rfl rfl rfl ?_;intro f h
   refine dC h rfl rfl rfl rfl ?_;intro f h
   refine dC h rfl rfl rfl rfl ?_;intro f h
   refine dC h rfl rfl rfl rfl ?_;intro f h
   refine dC h rfl rfl rfl rfl ?_;intro f h
   refine aA (b:=true) h rfl rfl rfl rfl ?_;intro f h
   refine az h rfl rfl rfl ?_
   refine ac h (aG (h.ev rfl) (h.ev rfl)) rfl ?_;intro f h
   refine ac h (aG (h.ev rfl) (h.ev rfl)) rfl ?_;intro f h
   refine ah ?_
   refine hK3 _ _ ?_
   refine wpIn_cond_false (h.ev rfl) ?_
   refine wpIn_skip ?_
   refine hK2 _ _ ?_
   refine al fun K14 hK14=>?_
   refine al fun K15 hK15=>?_
   cases s0:(decide (n.sc.length<1):Bool)
   ·skip
    cases s1:(decide (4<n.sc.length):Bool)
    ·skip
     cases f0:(decide (16<n.fg.length):Bool)
     ·skip
      cases f1:(iA n.fg n.me.1:Bool)
      ·skip
       refine ae ?_
       refine ac h (ai bD (h.ev rfl)) rfl ?_;intro f h
       refine au (V:=vs) (am (aU.of_own s 0 rfl) 66 (bL _ _ _ _)) h bE rfl rfl ?_;intro f h
       refine ac h (bc (hRs.keep s.ext) Tryz.underlying36 (h.ev rfl)) rfl ?_;intro f h
       refine ac h (av (.bool false) (bN (h.ev rfl) (h.ev rfl)) (congrArg Value.bool (decide_eq_false (by have:=of_decide_eq_false s0;omega)))) rfl ?_;intro f h
       refine ac h (ag (h.ev rfl)) rfl ?_;intro f h
       refine az h rfl rfl rfl ?_
       refine ac h (ai bD (h.ev rfl)) rfl ?_;intro f h
       refine az h rfl rfl rfl ?_
       refine au (V:=vs) (am (aU.of_own s 0 rfl) 66 (bL _ _ _ _)) h bE rfl rfl ?_;intro f h
       refine az h rfl rfl rfl ?_
       refine ac h (bc (hRs.keep s.ext) Tryz.underlying36 (h.ev rfl)) rfl ?_;intro f h
       refine az h rfl rfl rfl ?_
       refine ac h (av (.bool false) (c6 (h.ev rfl) (h.ev rfl)) (congrArg Value.bool (decide_eq_false (by have:=of_decide_eq_false s1;omega)))) rfl ?_;intro f h
       refine ac h (aG (h.ev rfl) (h.ev rfl)) rfl ?_;intro f h
       refine ac h (ag (h.ev rfl)) rfl ?_;intro f h
       refine az h rfl rfl rfl ?_
       refine ac h (ai cR (h.ev rfl)) rfl ?_;intro f h
       refine az h rfl rfl rfl ?_
       refine au (V:=vf) (am (aU.of_own s 0 rfl) 67 (cT _ _ _ _)) h bE rfl rfl ?_;intro f h
       refine az h rfl rfl rfl ?_
       refine ac h (bc (hRf.keep s.ext) Tryz.underlying36 (h.ev rfl)) rfl ?_;intro f h
       refine az h rfl rfl rfl ?_
       refine ac h (av (.bool false) (c6 (h.ev rfl) (h.ev rfl)) (congrArg Value.bool (decide_eq_false (by have:=of_decide_eq_false f0;omega)))) rfl ?_;intro f h
       refine ac h (aG (h.ev rfl) (h.ev rfl)) rfl ?_;intro f h
       refine ac h (ag (h.ev rfl)) rfl ?_;intro f h
       refine az h rfl rfl rfl ?_
       refine ac h (ai cR (h.ev rfl)) rfl ?_;intro f h
       refine az h rfl rfl rfl ?_
       refine au (V:=vf) (am (aU.of_own s 0 rfl) 67 (cT _ _ _ _)) h bE rfl rfl ?_;intro f h
       refine az h rfl rfl rfl ?_
       refine ac h (ai aR (h.ev rfl)) rfl ?_;intro f h
       refine az h rfl rfl rfl ?_
       refine ac h (ai aJ (h.ev rfl)) rfl ?_;intro f h
       refine az h rfl rfl rfl ?_
       refine au (am (aU.of_own s 0 rfl) 0 (bO _ _ _ _)) h bz rfl rfl ?_;intro f h
       refine az h rfl rfl rfl ?_
       refine aH h s lD (aO (.bool false) (en n.fg vf n.me.1 _ (hRf.keep s.ext) hnf) (congrArg Value.bool f1)) rfl rfl ?_;intro f w1 v9 hT hE h s;obtain rfl:=hT
       refine az h rfl rfl rfl ?_
       refine ac h (av (.bool true) (bh (h.ev rfl)) rfl) rfl ?_;intro f h
       refine ac h (aG (h.ev rfl) (h.ev rfl)) rfl ?_;intro f h
       refine ah ?_
       refine hK15 _ _ ?_
       refine wpIn_cond_true (h.ev rfl) ?_
       refine al fun K16 hK16=>?_
       refine ae ?_
       refine ac h (aj (h.ev rfl)) rfl ?_;intro f h
       refine ah ?_
       refine hK16 _ _ ?_
       refine wpIn_ret ?_
       refine aW ?_
       exact bf rfl h s rfl (by show _=_;rw [mf (vy f1)])
      ·skip
       refine ae ?_
       refine ac h (ai bD (h.ev rfl)) rfl ?_;intro f h
       refine au (V:=vs) (am (aU.of_own s 0 rfl) 66 (bL _ _ _ _)) h bE rfl rfl ?_;intro f h
       refine ac h (bc (hRs.keep s.ext) Tryz.underlying36 (h.ev rfl)) rfl ?_;intro f h
       refine ac h (av (.bool false) (bN (h.ev rfl) (h.ev rfl)) (congrArg Value.bool (decide_eq_false (by have:=of_decide_eq_false s0;omega)))) rfl ?_;intro f h
       refine ac h (ag (h.ev rfl)) rfl ?_;intro f h
       refine az h rfl rfl rfl ?_
       refine ac h (ai bD (h.ev rfl)) rfl ?_;intro f h
       refine az h rfl rfl rfl ?_
       refine au (V:=vs) (am (aU.of_own s 0 rfl) 66 (bL _ _ _ _)) h bE rfl rfl ?_;intro f h
       refine az h rfl rfl rfl ?_
       refine ac h (bc (hRs.keep s.ext) Tryz.underlying36 (h.ev rfl)) rfl ?_;intro f h
       refine az h rfl rfl rfl ?_
       refine ac h (av (.bool false) (c6 (h.ev rfl) (h.ev rfl)) (congrArg Value.bool (decide_eq_false (by have:=of_decide_eq_false s1;omega)))) rfl ?_;intro f h
       refine ac h (aG (h.ev rfl) (h.ev rfl)) rfl ?_;intro f h
       refine ac h (ag (h.ev rfl)) rfl ?_;intro f h
       refine az h rfl rfl rfl ?_
       refine ac h (ai cR (h.ev rfl)) rfl ?_;intro f h
       refine az h rfl rfl rfl ?_
       refine au (V:=vf) (am (aU.of_own s 0 rfl) 67 (cT _ _ _ _)) h bE rfl rfl ?_;intro f h
       refine az h rfl rfl rfl ?_
       refine ac h (bc (hRf.keep s.ext) Tryz.underlying36 (h.ev rfl)) rfl ?_;intro f h
       refine az h rfl rfl rfl ?_
       refine ac h (av (.bool false) (c6 (h.ev rfl) (h.ev rfl)) (congrArg Value.bool (decide_eq_false (by have:=of_decide_eq_false f0;omega)))) rfl ?_;intro f h
       refine ac h (aG (h.ev rfl) (h.ev rfl)) rfl ?_;intro f h
       refine ac h (ag (h.ev rfl)) rfl ?_;intro f h
       refine az h rfl rfl rfl ?_
       refine ac h (ai cR (h.ev rfl)) rfl ?_;intro f h
       refine az h rfl rfl rfl ?_
       refine au (V:=vf) (am (aU.of_own s 0 rfl) 67 (cT _ _ _ _)) h bE rfl rfl ?_;intro f h
       refine az h rfl rfl rfl ?_
       refine ac h (ai aR (h.ev rfl)) rfl ?_;intro f h
       refine az h rfl rfl rfl ?_
       refine ac h (ai aJ (h.ev rfl)) rfl ?_;intro f h
       refine az h rfl rfl rfl ?_
       refine au (am (aU.of_own s 0 rfl) 0 (bO _ _ _ _)) h bz rfl rfl ?_;intro f h
       refine az h rfl rfl rfl ?_
       refine aH h s lD (aO (.bool true) (en n.fg vf n.me.1 _ (hRf.keep s.ext) hnf) (congrArg Value.bool f1)) rfl rfl ?_;intro f w1 v9 hT hE h s;obtain rfl:=hT
       refine az h rfl rfl rfl ?_
       refine ac h (av (.bool false) (bh (h.ev rfl)) rfl) rfl ?_;intro f h
       refine ac h (aG (h.ev rfl) (h.ev rfl)) rfl ?_;intro f h
       refine ah ?_
       refine hK15 _ _ ?_
       refine wpIn_cond_false (h.ev rfl) ?_
       refine wpIn_skip ?_
       refine hK14 _ _ ?_
       refine al fun K17 hK17=>?_
       cases t0:(decide (n.sc.length=1):Bool)
       ·skip
        refine bI 22 [[],[0],[0,1],[0,1,2],[0,1,2,3],[0,1,2,3,4],[0,1,2,3,4,5],[0,1,2,3,4,5,6],[0,1,2,3,4,5,6,7],[0,1,2,3,4],[0,1,2,3,4,9],[0,1,2,3,4,5,6,7,8,9,10],[0,1,2,3,4,5,6,7,8,9,10,11],[0,1,2,3,4,5,6,7,8,9,10,11,12],[0,1,2,3,4,5,6,7,8,9,10,11,12,13],[0,1,2,3,4,5,6,7,8,9,10,11,12,13,14],[0,1,2,3,4,5,6,7,8,9,10,11,12,13],[0,1,2,3,4,5,6,7,8,9,10,11,12,13,16],[0,1,2,3,4,5,6,7,8,9,10,11,12,13,16,17],[0,1,2,3,4,5,6,7,8,9,10,11,12,13,14,15,16,17,18],[0,1,2,3,4,5,6,7,8,9,10,11,12,13,14,15,16,17,18,19],[0,1,2,3,4,5,6,7,8,9,10,11,12,13,14,15,16,17,18,19,20]] h (by kernel_rfl) (by kernel_rfl) (by kernel_rfl) ?_
        refine ao h (ai bD (h.ev rfl)) rfl ?_;intro f h
        refine a2 (V:=vs) (am (aU.of_own s 0 rfl) 66 (bL _ _ _ _)) h bE rfl rfl ?_;intro f h
        refine ao h (bc (hRs.keep s.ext) Tryz.underlying36 (h.ev rfl)) rfl ?_;intro f h
        refine ao h (av (.bool false) (bX (h.ev rfl) (h.ev rfl)) (congrArg Value.bool (decide_eq_false (by have:=of_decide_eq_false t0;omega)))) rfl ?_;intro f h
        refine ao h (ag (h.ev rfl)) rfl ?_;intro f h
        refine aY (b:=true) h rfl rfl rfl rfl ?_;intro f h
        refine aY (b:=true) h rfl rfl rfl rfl ?_;intro f h
        refine aY (b:=true) h rfl rfl rfl rfl ?_;intro f h
        refine aY (b:=true) h rfl rfl rfl rfl ?_;intro f h
        refine aY (b:=true) h rfl rfl rfl rfl ?_;intro f h
        refine aY (b:=true) h rfl rfl rfl rfl ?_;intro f h
        refine aY (b:=true) h rfl rfl rfl rfl ?_;intro f h
        refine ao h (aG (h.ev rfl) (h.ev rfl)) rfl ?_;intro f h
        refine ao h (ag (h.ev rfl)) rfl ?_;intro f h
        refine aV h rfl rfl rfl ?_
        refine ao h (ai bD (h.ev rfl)) rfl ?_;intro f h
        refine aV h rfl rfl rfl ?_
        refine a2 (V:=vs) (am (aU.of_own s 0 rfl) 66 (bL _ _ _ _)) h bE rfl rfl ?_;intro f h
        refine aV h rfl rfl rfl ?_
        refine ao h (ai aR (h.ev rfl)) rfl ?_;intro f h
        refine aV h rfl rfl rfl ?_
        refine ao h (ai aJ (h.ev rfl)) rfl ?_;intro f h
        refine aV h rfl rfl rfl ?_
        refine a2 (am (aU.of_own s 0 rfl) 0 (bO _ _ _ _)) h bz rfl rfl ?_;intro f h
        refine aV h rfl rfl rfl ?_
        refine cm h lD (fun w9 hE9=>en n.sc vs n.me.1 w9 (hRs.keep (s.ext.trans hE9)) hns) rfl rfl ?_;intro f h
        refine ao h (aG (h.ev rfl) (h.ev rfl)) rfl ?_;intro f h
        refine ao h (aj (h.ev rfl)) rfl ?_;intro f h
        refine cq s fun w1 s=>?_
        refine ah ?_
        refine hK17 _ _ ?_
        refine wpIn_ret ?_
        exact bf rfl h s rfl (by show _=_;rw [iN h0 (tV p0) (kH f0 f1),sC s0 s1 (by rintro ⟨h9,h8⟩;exact absurd h9 (of_decide_eq_false t0))])
       ·skip
        cases t1:(decide (n.sc.getD 0 aT=n.me):Bool)
        ·skip
         refine bI 22 [[],[0],[0,1],[0,1,2],[0,1,2,3],[0,1,2,3,4],[0,1,2,3,4,5],[0,1,2,3,4,5,6],[0,1,2,3,4,5,6,7],[0,1,2,3,4],[0,1,2,3,4,9],[0,1,2,3,4,5,6,7,8,9,10],[0,1,2,3,4,5,6,7,8,9,10,11],[0,1,2,3,4,5,6,7,8,9,10,11,12],[0,1,2,3,4,5,6,7,8,9,10,11,12,13],[0,1,2,3,4,5,6,7,8,9,10,11,12,13,14],[0,1,2,3,4,5,6,7,8,9,10,11,12,13],[0,1,2,3,4,5,6,7,8,9,10,11,12,13,16],[0,1,2,3,4,5,6,7,8,9,10,11,12,13,16,17],[0,1,2,3,4,5,6,7,8,9,10,11,12,13,14,15,16,17,18],[0,1,2,3,4,5,6,7,8,9,10,11,12,13,14,15,16,17,18,19],[0,1,2,3,4,5,6,7,8,9,10,11,12,13,14,15,16,17,18,19,20]] h (by kernel_rfl) (by kernel_rfl) (by kernel_rfl) ?_
         refine ao h (ai bD (h.ev rfl)) rfl ?_;intro f h
         refine a2 (V:=vs) (am (aU.of_own s 0 rfl) 66 (bL _ _ _ _)) h bE rfl rfl ?_;intro f h
         refine ao h (bc (hRs.keep s.ext) Tryz.underlying36 (h.ev rfl)) rfl ?_;intro f h
         refine ao h (av (.bool true) (bX (h.ev rfl) (h.ev rfl)) (congrArg Value.bool (decide_eq_true (by have:=of_decide_eq_true t0;omega)))) rfl ?_;intro f h
         refine ao h (ag (h.ev rfl)) rfl ?_;intro f h
         refine aV h rfl rfl rfl ?_
         refine ao h (ai bD (h.ev rfl)) rfl ?_;intro f h
         refine aV h rfl rfl rfl ?_
         refine a2 (V:=vs) (am (aU.of_own s 0 rfl) 66 (bL _ _ _ _)) h bE rfl rfl ?_;intro f h
         refine aV h rfl rfl rfl ?_
         have h19:=of_decide_eq_true t0
         refine ao h (bZ (hRs.keep s.ext) (0) Tryz.underlying36 cz (h.ev rfl) (h.ev rfl) (by omega) (by omega)) rfl ?_;intro f h
         refine aV h rfl rfl rfl ?_
         refine bk ((hRs.keep s.ext).el (0) (by omega) (by decide) (D:=aw (n.sc.getD 0 aT)) (cL n.sc 0 (by omega))) h aL rfl (ak _) rfl ?_;intro f h
         refine aV h rfl rfl rfl ?_
         refine ao h (ai aR (h.ev rfl)) rfl ?_;intro f h
         refine aV h rfl rfl rfl ?_
         refine bk (aU.subL (aU.of_own s 0 rfl) 0 33 (D:=aw n.me) (bT _ _ _ _)) h aL rfl (ak _) rfl ?_;intro f h
         refine aV h rfl rfl rfl ?_
         refine ao h (av (.bool false) (cV (g4 _ _) (by kernel_rfl) (by decide) (h.ev rfl) (h.ev rfl) (decide (n.sc.getD 0 aT=n.me)) (ee _ _)) (congrArg Value.bool t1)) rfl ?_;intro f h
         refine ao h (aI (h.ev rfl) (h.ev rfl)) rfl ?_;intro f h
         refine ao h (ag (h.ev rfl)) rfl ?_;intro f h
         refine aV h rfl rfl rfl ?_
         refine ao h (ai bD (h.ev rfl)) rfl ?_;intro f h
         refine aV h rfl rfl rfl ?_
         refine a2 (V:=vs) (am (aU.of_own s 0 rfl) 66 (bL _ _ _ _)) h bE rfl rfl ?_;intro f h
         refine aV h rfl rfl rfl ?_
         refine ao h (ai aR (h.ev rfl)) rfl ?_;intro f h
         refine aV h rfl rfl rfl ?_
         refine ao h (ai aJ (h.ev rfl)) rfl ?_;intro f h
         refine aV h rfl rfl rfl ?_
         refine a2 (am (aU.of_own s 0 rfl) 0 (bO _ _ _ _)) h bz rfl rfl ?_;intro f h
         refine aV h rfl rfl rfl ?_
         refine cm h lD (fun w9 hE9=>en n.sc vs n.me.1 w9 (hRs.keep (s.ext.trans hE9)) hns) rfl rfl ?_;intro f h
         refine ao h (aG (h.ev rfl) (h.ev rfl)) rfl ?_;intro f h
         refine ao h (aj (h.ev rfl)) rfl ?_;intro f h
         refine cq s fun w1 s=>?_
         refine ah ?_
         refine hK17 _ _ ?_
         refine wpIn_ret ?_
         exact bf rfl h s rfl (by show _=_;rw [iN h0 (tV p0) (kH f0 f1),sC s0 s1 (by rintro ⟨h9,h8⟩;exact absurd h8 (of_decide_eq_false t1))])
        ·skip
         refine bI 22 [[],[0],[0,1],[0,1,2],[0,1,2,3],[0,1,2,3,4],[0,1,2,3,4,5],[0,1,2,3,4,5,6],[0,1,2,3,4,5,6,7],[0,1,2,3,4],[0,1,2,3,4,9],[0,1,2,3,4,5,6,7,8,9,10],[0,1,2,3,4,5,6,7,8,9,10,11],[0,1,2,3,4,5,6,7,8,9,10,11,12],[0,1,2,3,4,5,6,7,8,9,10,11,12,13],[0,1,2,3,4,5,6,7,8,9,10,11,12,13,14],[0,1,2,3,4,5,6,7,8,9,10,11,12,13],[0,1,2,3,4,5,6,7,8,9,10,11,12,13,16],[0,1,2,3,4,5,6,7,8,9,10,11,12,13,16,17],[0,1,2,3,4,5,6,7,8,9,10,11,12,13,14,15,16,17,18],[0,1,2,3,4,5,6,7,8,9,10,11,12,13,14,15,16,17,18,19],[0,1,2,3,4,5,6,7,8,9,10,11,12,13,14,15,16,17,18,19,20]] h (by kernel_rfl) (by kernel_rfl) (by kernel_rfl) ?_
         refine ao h (ai bD (h.ev rfl)) rfl ?_;intro f h
         refine a2 (V:=vs) (am (aU.of_own s 0 rfl) 66 (bL _ _ _ _)) h bE rfl rfl ?_;intro f h
         refine ao h (bc (hRs.keep s.ext) Tryz.underlying36 (h.ev rfl)) rfl ?_;intro f h
         refine ao h (av (.bool true) (bX (h.ev rfl) (h.ev rfl)) (congrArg Value.bool (decide_eq_true (by have:=of_decide_eq_true t0;omega)))) rfl ?_;intro f h
         refine ao h (ag (h.ev rfl)) rfl ?_;intro f h
         refine aV h rfl rfl rfl ?_
         refine ao h (ai bD (h.ev rfl)) rfl ?_;intro f h
         refine aV h rfl rfl rfl ?_
         refine a2 (V:=vs) (am (aU.of_own s 0 rfl) 66 (bL _ _ _ _)) h bE rfl rfl ?_;intro f h
         refine aV h rfl rfl rfl ?_
         have h19:=of_decide_eq_true t0
         refine ao h (bZ (hRs.keep s.ext) (0) Tryz.underlying36 cz (h.ev rfl) (h.ev rfl) (by omega) (by omega)) rfl ?_;intro f h
         refine aV h rfl rfl rfl ?_
         refine bk ((hRs.keep s.ext).el (0) (by omega) (by decide) (D:=aw (n.sc.getD 0 aT)) (cL n.sc 0 (by omega))) h aL rfl (ak _) rfl ?_;intro f h
         refine aV h rfl rfl rfl ?_
         refine ao h (ai aR (h.ev rfl)) rfl ?_;intro f h
         refine aV h rfl rfl rfl ?_
         refine bk (aU.subL (aU.of_own s 0 rfl) 0 33 (D:=aw n.me) (bT _ _ _ _)) h aL rfl (ak _) rfl ?_;intro f h
         refine aV h rfl rfl rfl ?_
         refine ao h (av (.bool true) (cV (g4 _ _) (by kernel_rfl) (by decide) (h.ev rfl) (h.ev rfl) (decide (n.sc.getD 0 aT=n.me)) (ee _ _)) (congrArg Value.bool t1)) rfl ?_;intro f h
         refine ao h (aI (h.ev rfl) (h.ev rfl)) rfl ?_;intro f h
         refine ao h (ag (h.ev rfl)) rfl ?_;intro f h
         refine aY (b:=false) h rfl rfl rfl rfl ?_;intro f h
         refine aY (b:=false) h rfl rfl rfl rfl ?_;intro f h
         refine aY (b:=false) h rfl rfl rfl rfl ?_;intro f h
         refine aY (b:=false) h rfl rfl rfl rfl ?_;intro f h
         refine aY (b:=false) h rfl rfl rfl rfl ?_;intro f h
         refine aY (b:=false) h rfl rfl rfl rfl ?_;intro f h
         refine ao h (aI (h.ev rfl) (h.ev rfl)) rfl ?_;intro f h
         refine ao h (aj (h.ev rfl)) rfl ?_;intro f h
         refine cq s fun w1 s=>?_
         refine ah ?_
         refine hK17 _ _ ?_
         refine wpIn_ret ?_
         exact bf rfl h s rfl (by show _=_;rw [iN h0 (tV p0) (kH f0 f1),vP t0 t1])
     ·skip
      refine ae ?_
      refine ac h (ai bD (h.ev rfl)) rfl ?_;intro f h
      refine au (V:=vs) (am (aU.of_own s 0 rfl) 66 (bL _ _ _ _)) h bE rfl rfl ?_;intro f h
      refine ac h (bc (hRs.keep s.ext) Tryz.underlying36 (h.ev rfl)) rfl ?_;intro f h
      refine ac h (av (.bool false) (bN (h.ev rfl) (h.ev rfl)) (congrArg Value.bool (decide_eq_false (by have:=of_decide_eq_false s0;omega)))) rfl ?_;intro f h
      refine ac h (ag (h.ev rfl)) rfl ?_;intro f h
      refine az h rfl rfl rfl ?_
      refine ac h (ai bD (h.ev rfl)) rfl ?_;intro f h
      refine az h rfl rfl rfl ?_
      refine au (V:=vs) (am (aU.of_own s 0 rfl) 66 (bL _ _ _ _)) h bE rfl rfl ?_;intro f h
      refine az h rfl rfl rfl ?_
      refine ac h (bc (hRs.keep s.ext) Tryz.underlying36 (h.ev rfl)) rfl ?_;intro f h
      refine az h rfl rfl rfl ?_
      refine ac h (av (.bool false) (c6 (h.ev rfl) (h.ev rfl)) (congrArg Value.bool (decide_eq_false (by have:=of_decide_eq_false s1;omega)))) rfl ?_;intro f h
      refine ac h (aG (h.ev rfl) (h.ev rfl)) rfl ?_;intro f h
      refine ac h (ag (h.ev rfl)) rfl ?_;intro f h
      refine az h rfl rfl rfl ?_
      refine ac h (ai cR (h.ev rfl)) rfl ?_;intro f h
      refine az h rfl rfl rfl ?_
      refine au (V:=vf) (am (aU.of_own s 0 rfl) 67 (cT _ _ _ _)) h bE rfl rfl ?_;intro f h
      refine az h rfl rfl rfl ?_
      refine ac h (bc (hRf.keep s.ext) Tryz.underlying36 (h.ev rfl)) rfl ?_;intro f h
      refine az h rfl rfl rfl ?_
      refine ac h (av (.bool true) (c6 (h.ev rfl) (h.ev rfl)) (congrArg Value.bool (decide_eq_true (by have:=of_decide_eq_true f0;omega)))) rfl ?_;intro f h
      refine ac h (aG (h.ev rfl) (h.ev rfl)) rfl ?_;intro f h
      refine ac h (ag (h.ev rfl)) rfl ?_;intro f h
      refine aA (b:=false) h rfl rfl rfl rfl ?_;intro f h
      refine aA (b:=false) h rfl rfl rfl rfl ?_;intro f h
      refine aA (b:=false) h rfl rfl rfl rfl ?_;intro f h
      refine aA (b:=false) h rfl rfl rfl rfl ?_;intro f h
      refine aA (b:=false) h rfl rfl rfl rfl ?_;intro f h
      refine aA (b:=false) h rfl rfl rfl rfl ?_;intro f h
      refine aA (b:=false) h rfl rfl rfl rfl ?_;intro f h
      refine ac h (aI (h.ev rfl) (h.ev rfl)) rfl ?_;intro f h
      refine ah ?_
      refine hK15 _ _ ?_
      refine wpIn_cond_true (h.ev rfl) ?_
      refine al fun K18 hK18=>?_
      refine ae ?_
      refine ac h (aj (h.ev rfl)) rfl ?_;intro f h
      refine ah ?_
      refine hK18 _ _ ?_
      refine wpIn_ret ?_
      refine aW ?_
      exact bf rfl h s rfl (by show _=_;rw [mf (w5 f0)])
    ·skip
     refine ae ?_
     refine ac h (ai bD (h.ev rfl)) rfl ?_;intro f h
     refine au (V:=vs) (am (aU.of_own s 0 rfl) 66 (bL _ _ _ _)) h bE rfl rfl ?_;intro f h
     refine ac h (bc (hRs.keep s.ext) Tryz.underlying36 (h.ev rfl)) rfl ?_;intro f h
     refine ac h (av (.bool false) (bN (h.ev rfl) (h.ev rfl)) (congrArg Value.bool (decide_eq_false (by have:=of_decide_eq_false s0;omega)))) rfl ?_;intro f h
     refine ac h (ag (h.ev rfl)) rfl ?_;intro f h
     refine az h rfl rfl rfl ?_
     refine ac h (ai bD (h.ev rfl)) rfl ?_;intro f h
     refine az h rfl rfl rfl ?_
     refine au (V:=vs) (am (aU.of_own s 0 rfl) 66 (bL _ _ _ _)) h bE rfl rfl ?_;intro f h
     refine az h rfl rfl rfl ?_
     refine ac h (bc (hRs.keep s.ext) Tryz.underlying36 (h.ev rfl)) rfl ?_;intro f h
     refine az h rfl rfl rfl ?_
     refine ac h (av (.bool true) (c6 (h.ev rfl) (h.ev rfl)) (congrArg Value.bool (decide_eq_true (by have:=of_decide_eq_true s1;omega)))) rfl ?_;intro f h
     refine ac h (aG (h.ev rfl) (h.ev rfl)) rfl ?_;intro f h
     refine ac h (ag (h.ev rfl)) rfl ?_;intro f h
     refine aA (b:=false) h rfl rfl rfl rfl ?_;intro f h
     refine aA (b:=false) h rfl rfl rfl rfl ?_;intro f h
     refine aA (b:=false) h rfl rfl rfl rfl ?_;intro f h
     refine aA (b:=false) h rfl rfl rfl rfl ?_;intro f h
     refine ac h (aI (h.ev rfl) (h.ev rfl)) rfl ?_;intro f h
     refine ac h (ag (h.ev rfl)) rfl ?_;intro f h
     refine aA (b:=false) h rfl rfl rfl rfl ?_;intro f h
     refine aA (b:=false) h rfl rfl rfl rfl ?_;intro f h
     refine aA (b:=false) h rfl rfl rfl rfl ?_;intro f h
     refine aA (b:=false) h rfl rfl rfl rfl ?_;intro f h
     refine aA (b:=false) h rfl rfl rfl rfl ?_;intro f h
     refine aA (b:=false) h rfl rfl rfl rfl ?_;intro f h
     refine aA (b:=false) h rfl rfl rfl rfl ?_;intro f h
     refine ac h (aI (h.ev rfl) (h.ev rfl)) rfl ?_;intro f h
     refine ah ?_
     refine hK15 _ _ ?_
     refine wpIn_cond_true (h.ev rfl) ?_
     refine al fun K19 hK19=>?_
     refine ae ?_
     refine ac h (aj (h.ev rfl)) rfl ?_;intro f h
     refine ah ?_
     refine hK19 _ _ ?_
     refine wpIn_ret ?_
     refine aW ?_
     exact bf rfl h s rfl (by show _=_;rw [j1 (wE s1)])
   ·skip
    refine ae ?_
    refine ac h (ai bD (h.ev rfl)) rfl ?_;intro f h
    refine au (V:=vs) (am (aU.of_own s 0 rfl) 66 (bL _ _ _ _)) h bE rfl rfl ?_;intro f h
    refine ac h (bc (hRs.keep s.ext) Tryz.underlying36 (h.ev rfl)) rfl ?_;intro f h
    refine ac h (av (.bool true) (bN (h.ev rfl) (h.ev rfl)) (congrArg Value.bool (decide_eq_true (by have:=of_decide_eq_true s0;omega)))) rfl ?_;intro f h
    refine ac h (ag (h.ev rfl)) rfl ?_;intro f h
    refine aA (b:=false) h rfl rfl rfl rfl ?_;intro f h
    refine aA (b:=false) h rfl rfl rfl rfl ?_;intro f h
    refine aA (b:=false) h rfl rfl rfl rfl ?_;intro f h
    refine aA (b:=false) h rfl rfl rfl rfl ?_;intro f h
    refine ac h (aI (h.ev rfl) (h.ev rfl)) rfl ?_;intro f h
    refine ac h (ag (h.ev rfl)) rfl ?_;intro f h
    refine aA (b:=false) h rfl rfl rfl rfl ?_;intro f h
    refine aA (b:=false) h rfl rfl rfl rfl ?_;intro f h
    refine aA (b:=false) h rfl rfl rfl rfl ?_;intro f h
    refine aA (b:=false) h rfl rfl rfl rfl ?_;intro f h
    refine ac h (aI (h.ev rfl) (h.ev rfl)) rfl ?_;intro f h
    refine ac h (ag (h.ev rfl)) rfl ?_;intro f h
    refine aA (b:=false) h rfl rfl rfl rfl ?_;intro f h
    refine aA (b:=false) h rfl rfl rfl rfl ?_;intro f h
    refine aA (b:=false) h rfl rfl rfl rfl ?_;intro f h
    refine aA (b:=false) h rfl rfl rfl rfl ?_;intro f h
    refine aA (b:=false) h rfl rfl rfl rfl ?_;intro f h
    refine aA (b:=false) h rfl rfl rfl rfl ?_;intro f h
    refine aA (b:=false) h rfl rfl rfl rfl ?_;intro f h
    refine ac h (aI (h.ev rfl) (h.ev rfl)) rfl ?_;intro f h
    refine ah ?_
    refine hK15 _ _ ?_
    refine wpIn_cond_true (h.ev rfl) ?_
    refine al fun K20 hK20=>?_
    refine ae ?_
    refine ac h (aj (h.ev rfl)) rfl ?_;intro f h
    refine ah ?_
    refine hK20 _ _ ?_
    refine wpIn_ret ?_
    refine aW ?_
    exact bf rfl h s rfl (by show _=_;rw [j1 (xD s0)])
set_option maxHeartbeats 1000000 in
theorem nv (L:List N3) (vo:Value) (w:World) (hO:dN w vo L) (hL:L.length≤40) (hb:RwB L):Calls Tryz.prog 10 [.agg #[vo]].toArray w (cU w (is (.bool (gm L)))):=by
 refine bp Tryz.func10 rfl Tryz.ntmps10 rfl [(0,.agg #[vo])] (by simp) fun f h=>?_
 have s:=St.start w
 refine al fun K1 hK1=>?_
 refine ae ?_
 refine bV (#[vo]) h s rfl rfl rfl ?_;intro f w1 b1 h s
 refine ac h (aj (h.ev rfl)) rfl ?_;intro f h
 refine ah ?_
 refine hK1 _ _ ?_
 refine al fun K2 hK2=>?_
 refine ae ?_
 refine ar 0 h s a6 rfl rfl (rfl) rfl ?_;intro f h
 refine aH h s sG (ge L vo _ (hO.keep s.ext) hL) rfl rfl ?_;intro f w1 v10 hT hE h sq;replace s:=s.sl_new hE hT
 refine ac h (aj (h.ev rfl)) rfl ?_;intro f h
 refine ah ?_
 refine hK2 _ _ ?_
 refine al fun K3 hK3=>?_
 refine al fun K4 hK4=>?_
 refine ae ?_
 refine ac h (ai cp (h.ev rfl)) rfl ?_;intro f h
 refine au (V:=vo) (am (aU.of_own s 1 rfl) 0 rfl) h c4 rfl rfl ?_;intro f h
 refine ac h (bc (hO.1.keep s.ext) Tryz.underlying22 (h.ev rfl)) rfl ?_;intro f h
 refine ac h (ag (h.ev rfl)) rfl ?_;intro f h
 refine ah ?_
 refine hK4 _ _ ?_
 refine wpIn_block ?_
 refine wpIn_loop_ghost (fun nn aa ww=>∃ k:Nat,Sl 63 aa [(0,.agg #[vo]),(1,.pointer (some ⟨b1,0,none⟩)),(10,v10),(3,v10),(12,vo),(13,.int .i64 (L.length:Int)),(14,.int .i64 (k:Int))]∧St w [.sl v10 28 33 (aM L).length (ap (aM L)),.blk b1 (.cells (#[vo]) 24)] ww∧nn=L.length - k∧k≤L.length∧∀ j,j<k→go L j=false) (L.length - (0)) ⟨0,h.only ⟨rfl,rfl,rfl,rfl,rfl,rfl,aQ rfl (by omega),trivial⟩,s.as ⟨rfl,rfl,trivial⟩,rfl,Nat.zero_le _,fun j hj=>absurd hj (Nat.not_lt_zero _)⟩ ?_
 rintro _ f w1 ⟨k,h,s,hnn,hp0,hp1⟩
 refine al fun K5 hK5=>?_
 refine ae ?_
 refine ac h (bN (h.ev rfl) (h.ev rfl)) rfl ?_;intro f h
 refine ah ?_
 refine hK5 _ _ ?_
 refine al fun K6 hK6=>?_
 refine bM h rfl (fun hc=>?_) (fun hc=>?_)
 ·replace hc:=of_decide_eq_true hc
  refine wpIn_skip ?_
  refine hK6 _ _ ?_
  refine al fun K7 hK7=>?_
  refine wpIn_block ?_
  refine al fun K8 hK8=>?_
  refine ae ?_
  have hkl:k<L.length:=by omega
  have hx9:=hb.each _ (bw hkl)
  refine ac h (ag (h.ev rfl)) rfl ?_;intro f h
  refine ac h (bZ (hO.1.keep s.ext) (k) Tryz.underlying22 gc (h.ev rfl) (h.ev rfl) (by omega) (by omega)) rfl ?_;intro f h
  refine aB ((hO.1.keep s.ext).el (k) (by omega) (by decide) (D:=aC (L.getD k z3).1.me (L.getD k z3).1.pr (L.getD k z3).2.1 (L.getD k z3).2.2) (df L k hkl)) h aZ rfl (aq _ _ _ _) rfl ?_;intro f h
  refine bj (aC aT aT a8 a8) h s ea rfl rfl ?_;intro f w1 b5 h s
  refine ac h (aj (h.ev rfl)) rfl ?_;intro f h
  refine ax 0 h s aZ rfl rfl rfl (aq _ _ _ _) (aq _ _ _ _) (a7 (co ((hO.2 _ (bw hkl)).1.keep s.ext)) (co ((hO.2 _ (bw hkl)).2.keep s.ext))) ?_;intro w1 s
  refine ah ?_
  refine hK8 _ _ ?_
  refine al fun K9 hK9=>?_
  refine al fun K10 hK10=>?_
  cases r0:(cy (L.getD k z3).1:Bool)
  ·skip
   refine bI 21 [[],[0],[0,1],[0,1,2],[0,1,2,3],[0,1,2,3,4],[0,1,2,3,4,5],[0,1,2,3,4,5,6],[0,1,2,3,4,5,6,7],[0,1,2,3,4,5,6],[0,1,2,3,4,5,6,9],[0,1,2,3,4,5,6,7,8,9,10],[0,1,2,3,4,5,6,7,8,9,10,11],[0,1,2,3,4,5,6,7,8,9,10,11,12],[0,1,2,3,4,5,6,7,8,9,10,11,12,13],[0,1,2,3,4,5,6],[0,1,2,3,4,5,6,15],[0,1,2,3,4,5,6,15,16],[0,1,2,3,4,5,6,7,8,9,10,11,12,13,14,15,16,17],[0,1,2,3,4,5,6,7,8,9,10,11,12,13,14,15,16,17,18],[0,1,2,3,4,5,6,7,8,9,10,11,12,13,14,15,16,17,18,19]] h (by kernel_rfl) (by kernel_rfl) (by kernel_rfl) ?_
   refine bB 0 h s aZ rfl rfl (aq _ _ _ _) rfl ?_;intro f h
   refine cm h tI (fun w9 hE9=>aO (.bool false) (f3 (L.getD k z3).1 (L.getD k z3).2.1 (L.getD k z3).2.2 w9 ((hO.2 _ (bw hkl)).1.keep (s.ext.trans hE9)) ((hO.2 _ (bw hkl)).2.keep (s.ext.trans hE9)) (by omega) (by omega)) (congrArg Value.bool r0)) rfl rfl ?_;intro f h
   refine ao h (av (.bool true) (bh (h.ev rfl)) rfl) rfl ?_;intro f h
   refine ao h (ag (h.ev rfl)) rfl ?_;intro f h
   refine aY (b:=false) h rfl rfl rfl rfl ?_;intro f h
   refine aY (b:=false) h rfl rfl rfl rfl ?_;intro f h
   refine aY (b:=false) h rfl rfl rfl rfl ?_;intro f h
   refine cO h rfl rfl rfl rfl ?_;intro f h
   refine cO h rfl rfl rfl rfl ?_;intro f h
   refine cO h rfl rfl rfl rfl ?_;intro f h
   refine cO h rfl rfl rfl rfl ?_;intro f h
   refine cO h rfl rfl rfl rfl ?_;intro f h
   refine cO h rfl rfl rfl rfl ?_;intro f h
   refine cO h rfl rfl rfl rfl ?_;intro f h
   refine cO h rfl rfl rfl rfl ?_;intro f h
   refine cO h rfl rfl rfl rfl ?_;intro f h
   refine cO h rfl rfl rfl rfl ?_;intro f h
   refine cO h rfl rfl rfl rfl ?_;intro f h
   refine cO h rfl rfl rfl rfl ?_;intro f h
   refine aY (b:=false) h rfl rfl rfl rfl ?_;intro f h
   refine ao h (aI (h.ev rfl) (h.ev rfl)) rfl ?_;intro f h
   refine cq s fun w1 s=>?_
   refine ah ?_
   refine hK10 _ _ ?_
   refine wpIn_cond_true (h.ev rfl) ?_
   refine al fun K11 hK11=>?_
   refine ae ?_
   refine ac h (aj (h.ev rfl)) rfl ?_;intro f h
   refine ah ?_
   refine hK11 _ _ ?_
   refine wpIn_ret ?_
   refine aW ?_
   refine bU ?_
   refine aW ?_
   refine aW ?_
   refine bU ?_
   refine aW ?_
   exact bf rfl h s rfl (by show _=_;rw [jQ hkl (Ey r0)])
  ·skip
   cases k0:(decide (0<k):Bool)
   ·skip
    refine bI 21 [[],[0],[0,1],[0,1,2],[0,1,2,3],[0,1,2,3,4],[0,1,2,3,4,5],[0,1,2,3,4,5,6],[0,1,2,3,4,5,6,7],[0,1,2,3,4,5,6],[0,1,2,3,4,5,6,9],[0,1,2,3,4,5,6,7,8,9,10],[0,1,2,3,4,5,6,7,8,9,10,11],[0,1,2,3,4,5,6,7,8,9,10,11,12],[0,1,2,3,4,5,6,7,8,9,10,11,12,13],[0,1,2,3,4,5,6],[0,1,2,3,4,5,6,15],[0,1,2,3,4,5,6,15,16],[0,1,2,3,4,5,6,7,8,9,10,11,12,13,14,15,16,17],[0,1,2,3,4,5,6,7,8,9,10,11,12,13,14,15,16,17,18],[0,1,2,3,4,5,6,7,8,9,10,11,12,13,14,15,16,17,18,19]] h (by kernel_rfl) (by kernel_rfl) (by kernel_rfl) ?_
    refine bB 0 h s aZ rfl rfl (aq _ _ _ _) rfl ?_;intro f h
    refine cm h tI (fun w9 hE9=>aO (.bool true) (f3 (L.getD k z3).1 (L.getD k z3).2.1 (L.getD k z3).2.2 w9 ((hO.2 _ (bw hkl)).1.keep (s.ext.trans hE9)) ((hO.2 _ (bw hkl)).2.keep (s.ext.trans hE9)) (by omega) (by omega)) (congrArg Value.bool r0)) rfl rfl ?_;intro f h
    refine ao h (av (.bool false) (bh (h.ev rfl)) rfl) rfl ?_;intro f h
    refine ao h (ag (h.ev rfl)) rfl ?_;intro f h
    refine aV h rfl rfl rfl ?_
    refine ao h (ag (h.ev rfl)) rfl ?_;intro f h
    refine aV h rfl rfl rfl ?_
    refine ao h (av (.bool false) (c6 (h.ev rfl) (h.ev rfl)) (congrArg Value.bool (decide_eq_false (by have:=of_decide_eq_false k0;omega)))) rfl ?_;intro f h
    refine aV h rfl rfl rfl ?_
    refine ao h (ag (h.ev rfl)) rfl ?_;intro f h
    refine aY (b:=true) h rfl rfl rfl rfl ?_;intro f h
    refine aY (b:=true) h rfl rfl rfl rfl ?_;intro f h
    refine aY (b:=true) h rfl rfl rfl rfl ?_;intro f h
    refine aY (b:=true) h rfl rfl rfl rfl ?_;intro f h
    refine aY (b:=true) h rfl rfl rfl rfl ?_;intro f h
    refine aY (b:=true) h rfl rfl rfl rfl ?_;intro f h
    refine aY (b:=true) h rfl rfl rfl rfl ?_;intro f h
    refine aY (b:=true) h rfl rfl rfl rfl ?_;intro f h
    refine aY (b:=true) h rfl rfl rfl rfl ?_;intro f h
    refine aY (b:=true) h rfl rfl rfl rfl ?_;intro f h
    refine aY (b:=true) h rfl rfl rfl rfl ?_;intro f h
    refine aY (b:=true) h rfl rfl rfl rfl ?_;intro f h
    refine aV h rfl rfl rfl ?_
    refine ao h (aG (h.ev rfl) (h.ev rfl)) rfl ?_;intro f h
    refine ao h (aG (h.ev rfl) (h.ev rfl)) rfl ?_;intro f h
    refine cq s fun w1 s=>?_
    refine ah ?_
    refine hK10 _ _ ?_
    refine wpIn_cond_false (h.ev rfl) ?_
    refine wpIn_skip ?_
    refine hK9 _ _ ?_
    refine al fun K12 hK12=>?_
    refine ae ?_
    have hq1:=hp1
    have hr9:=r0
    have hk9:decide (0<k)=false∨decide ((L.getD k z3).1.me.1≤(L.getD (k - 1) z3).1.me.1)=false:=.inl k0
    have hkl2:(aE (L.getD k z3).1).length≤700:=by simp only [aE,List.length_append,List.length_cons];omega
    refine ar 0 h s aZ rfl rfl (aq _ _ _ _) rfl ?_;intro f h
    refine aH h s wY (kv (L.getD k z3).1 (L.getD k z3).2.1 (L.getD k z3).2.2 _ ((hO.2 _ (bw hkl)).1.keep s.ext) ((hO.2 _ (bw hkl)).2.keep s.ext) (by omega) (by omega)) rfl rfl ?_;intro f w1 v41 hT hE h sq;replace s:=s.sl_new hE hT
    refine cK 0 h s Tryz.underlying36 rfl rfl rfl ?_;intro f h
    refine ac h (ag (h.ev rfl)) rfl ?_;intro f h
    refine ah ?_
    refine hK12 _ _ ?_
    refine wpIn_block ?_
    refine wpIn_loop_ghost (fun nn aa ww=>∃ j:Nat,Sl 63 aa [(0,.agg #[vo]),(1,.pointer (some ⟨b1,0,none⟩)),(5,.pointer (some ⟨b5,0,none⟩)),(10,v10),(3,v10),(12,vo),(13,.int .i64 (L.length:Int)),(14,.int .i64 (k:Int)),(41,v41),(42,.int .i64 ((aE (L.getD k z3).1).length:Int)),(43,.int .i64 (j:Int))]∧St w [.sl v41 28 33 (aE (L.getD k z3).1).length (ap (aE (L.getD k z3).1)),.blk b5 (.cells (aC (L.getD k z3).1.me (L.getD k z3).1.pr (L.getD k z3).2.1 (L.getD k z3).2.2) 42),.sl v10 28 33 (aM L).length (ap (aM L)),.blk b1 (.cells (#[vo]) 24)] ww∧nn=(aE (L.getD k z3).1).length - j∧j≤(aE (L.getD k z3).1).length∧∀ i,i<j→iZ (aM L) ((aE (L.getD k z3).1).getD i aT)=false) ((aE (L.getD k z3).1).length - (0)) ⟨0,h.only ⟨rfl,rfl,rfl,rfl,rfl,rfl,rfl,rfl,rfl,rfl,aQ rfl (by omega),trivial⟩,s.as ⟨rfl,rfl,rfl,rfl,trivial⟩,rfl,Nat.zero_le _,fun j hj=>absurd hj (Nat.not_lt_zero _)⟩ ?_
    rintro _ f w1 ⟨j,h,s,hnn,hp0,hp1⟩
    refine al fun K13 hK13=>?_
    refine ae ?_
    refine ac h (bN (h.ev rfl) (h.ev rfl)) rfl ?_;intro f h
    refine ah ?_
    refine hK13 _ _ ?_
    refine al fun K14 hK14=>?_
    refine bM h rfl (fun hc=>?_) (fun hc=>?_)
    ·replace hc:=of_decide_eq_true hc
     refine wpIn_skip ?_
     refine hK14 _ _ ?_
     refine al fun K15 hK15=>?_
     refine wpIn_block ?_
     refine al fun K16 hK16=>?_
     refine ae ?_
     have hjl:j<(aE (L.getD k z3).1).length:=by omega
     refine ac h (bZ (bq.of_own (s.getSl 0 rfl)) (j) Tryz.underlying36 cz (h.ev rfl) (h.ev rfl) (by omega) (by omega)) rfl ?_;intro f h
     refine aB ((bq.of_own (s.getSl 0 rfl)).el (j) (by omega) (by decide) (D:=aw ((aE (L.getD k z3).1).getD j aT)) (cL (aE (L.getD k z3).1) j hjl)) h aL rfl (ak _) rfl ?_;intro f h
     refine bj (aw aT) h s cB rfl rfl ?_;intro f w1 b7 h s
     refine ax 0 h s aL rfl rfl rfl (ak _) (ak _) (aS _) ?_;intro w1 s
     refine ah ?_
     refine hK16 _ _ ?_
     refine al fun K17 hK17=>?_
     refine ae ?_
     refine ac h (ag (h.ev rfl)) rfl ?_;intro f h
     refine ac h (ai aJ (h.ev rfl)) rfl ?_;intro f h
     refine au (am (aU.of_own s 0 rfl) 0 (aP _)) h bz rfl rfl ?_;intro f h
     refine aH h s mS (ff (aM L) v10 ((aE (L.getD k z3).1).getD j aT).1 _ (bq.of_own (s.getSl 3 rfl)) (by rw [List.length_map];omega)) rfl rfl ?_;intro f w1 v9 hT hE h s;obtain rfl:=hT
     refine bj (aw aT) h s cB rfl rfl ?_;intro f w1 b8 h s
     refine ax 0 h s aL rfl rfl rfl (ak _) (ak _) (aS _) ?_;intro w1 s
     refine ah ?_
     refine hK17 _ _ ?_
     refine al fun K18 hK18=>?_
     cases f0:(decide (0≤(fB (aM L) ((aE (L.getD k z3).1).getD j aT).1).1):Bool)
     ·skip
      refine ae ?_
      refine ac h (ai aJ (h.ev rfl)) rfl ?_;intro f h
      refine au (am (aU.of_own s 0 rfl) 0 (aP _)) h bz rfl rfl ?_;intro f h
      refine ac h (av (.bool false) (dg (h.ev rfl) (h.ev rfl)) (congrArg Value.bool f0)) rfl ?_;intro f h
      refine ac h (ag (h.ev rfl)) rfl ?_;intro f h
      refine aA (b:=true) h rfl rfl rfl rfl ?_;intro f h
      refine aA (b:=true) h rfl rfl rfl rfl ?_;intro f h
      refine aA (b:=true) h rfl rfl rfl rfl ?_;intro f h
      refine ac h (aG (h.ev rfl) (h.ev rfl)) rfl ?_;intro f h
      refine ah ?_
      refine hK18 _ _ ?_
      refine wpIn_cond_false (h.ev rfl) ?_
      refine wpIn_skip ?_
      refine bF ?_
      refine hK15 _ _ ?_
      refine ae ?_
      refine ac h (cf (h.ev rfl) (h.ev rfl) (by omega)) rfl ?_;intro f h
      refine ac h (ag (h.ev rfl)) rfl ?_;intro f h
      refine ah ?_
      refine bQ ?_
      exact ⟨_,by omega,⟨j+1,h.only ⟨rfl,rfl,rfl,rfl,rfl,rfl,rfl,rfl,rfl,rfl,aQ rfl (by omega),trivial⟩,St.as (s.pick _ (List.sublist_append_right [_,_] _)) ⟨rfl,rfl,rfl,rfl,trivial⟩,rfl,by omega,dm hp1 (CQ f0)⟩⟩
     ·skip
      cases f1:(decide ((fB (aM L) ((aE (L.getD k z3).1).getD j aT).1)=((aE (L.getD k z3).1).getD j aT)):Bool)
      ·skip
       refine ae ?_
       refine ac h (ai aJ (h.ev rfl)) rfl ?_;intro f h
       refine au (am (aU.of_own s 0 rfl) 0 (aP _)) h bz rfl rfl ?_;intro f h
       refine ac h (av (.bool true) (dg (h.ev rfl) (h.ev rfl)) (congrArg Value.bool f0)) rfl ?_;intro f h
       refine ac h (ag (h.ev rfl)) rfl ?_;intro f h
       refine az h rfl rfl rfl ?_
       refine ar 0 h s aL rfl rfl (ak _) rfl ?_;intro f h
       refine az h rfl rfl rfl ?_
       refine ar 1 h s aL rfl rfl (ak _) rfl ?_;intro f h
       refine az h rfl rfl rfl ?_
       refine ac h (av (.bool true) (eE (g4 _ _) (by kernel_rfl) (by decide) (h.ev rfl) (h.ev rfl) (decide ((fB (aM L) ((aE (L.getD k z3).1).getD j aT).1)=((aE (L.getD k z3).1).getD j aT))) (ee _ _)) (by rw [f1];rfl)) rfl ?_;intro f h
       refine ac h (aI (h.ev rfl) (h.ev rfl)) rfl ?_;intro f h
       refine ah ?_
       refine hK18 _ _ ?_
       refine wpIn_cond_true (h.ev rfl) ?_
       refine al fun K19 hK19=>?_
       refine ae ?_
       refine ac h (aj (h.ev rfl)) rfl ?_;intro f h
       refine ah ?_
       refine hK19 _ _ ?_
       refine wpIn_ret ?_
       refine bU ?_
       refine aW ?_
       refine aW ?_
       refine bU ?_
       refine bU ?_
       refine aW ?_
       refine aW ?_
       refine bU ?_
       refine aW ?_
       exact bf rfl h s rfl (by show _=_;rw [jQ hkl (C7 hjl (by rw [yy f0,f1];rfl))])
      ·skip
       refine ae ?_
       refine ac h (ai aJ (h.ev rfl)) rfl ?_;intro f h
       refine au (am (aU.of_own s 0 rfl) 0 (aP _)) h bz rfl rfl ?_;intro f h
       refine ac h (av (.bool true) (dg (h.ev rfl) (h.ev rfl)) (congrArg Value.bool f0)) rfl ?_;intro f h
       refine ac h (ag (h.ev rfl)) rfl ?_;intro f h
       refine az h rfl rfl rfl ?_
       refine ar 0 h s aL rfl rfl (ak _) rfl ?_;intro f h
       refine az h rfl rfl rfl ?_
       refine ar 1 h s aL rfl rfl (ak _) rfl ?_;intro f h
       refine az h rfl rfl rfl ?_
       refine ac h (av (.bool false) (eE (g4 _ _) (by kernel_rfl) (by decide) (h.ev rfl) (h.ev rfl) (decide ((fB (aM L) ((aE (L.getD k z3).1).getD j aT).1)=((aE (L.getD k z3).1).getD j aT))) (ee _ _)) (by rw [f1];rfl)) rfl ?_;intro f h
       refine ac h (aI (h.ev rfl) (h.ev rfl)) rfl ?_;intro f h
       refine ah ?_
       refine hK18 _ _ ?_
       refine wpIn_cond_false (h.ev rfl) ?_
       refine wpIn_skip ?_
       refine bF ?_
       refine hK15 _ _ ?_
       refine ae ?_
       refine ac h (cf (h.ev rfl) (h.ev rfl) (by omega)) rfl ?_;intro f h
       refine ac h (ag (h.ev rfl)) rfl ?_;intro f h
       refine ah ?_
       refine bQ ?_
       exact ⟨_,by omega,⟨j+1,h.only ⟨rfl,rfl,rfl,rfl,rfl,rfl,rfl,rfl,rfl,rfl,aQ rfl (by omega),trivial⟩,St.as (s.pick _ (List.sublist_append_right [_,_] _)) ⟨rfl,rfl,rfl,rfl,trivial⟩,rfl,by omega,dm hp1 (by rw [yy f0,f1];rfl)⟩⟩
    ·replace hc:=of_decide_eq_false hc
     refine wpIn_exit ?_
     refine bJ ?_
     refine bJ ?_
     refine cC ?_
     refine bF ?_
     refine hK7 _ _ ?_
     refine ae ?_
     refine ac h (cf (h.ev rfl) (h.ev rfl) (by omega)) rfl ?_;intro f h
     refine ac h (ag (h.ev rfl)) rfl ?_;intro f h
     refine ah ?_
     refine bQ ?_
     have hb9:go L k=false:=Dc (j:=j) hr9 hk9 (by omega) hp1
     exact ⟨_,by omega,⟨k+1,h.only ⟨rfl,rfl,rfl,rfl,rfl,rfl,aQ rfl (by omega),trivial⟩,St.as (s.pick _ (List.sublist_append_right [_,_] _)) ⟨rfl,rfl,trivial⟩,rfl,by omega,dm hq1 hb9⟩⟩
   ·skip
    cases k1:(decide ((L.getD k z3).1.me.1≤(L.getD (k - 1) z3).1.me.1):Bool)
    ·skip
     refine bI 21 [[],[0],[0,1],[0,1,2],[0,1,2,3],[0,1,2,3,4],[0,1,2,3,4,5],[0,1,2,3,4,5,6],[0,1,2,3,4,5,6,7],[0,1,2,3,4,5,6],[0,1,2,3,4,5,6,9],[0,1,2,3,4,5,6,7,8,9,10],[0,1,2,3,4,5,6,7,8,9,10,11],[0,1,2,3,4,5,6,7,8,9,10,11,12],[0,1,2,3,4,5,6,7,8,9,10,11,12,13],[0,1,2,3,4,5,6],[0,1,2,3,4,5,6,15],[0,1,2,3,4,5,6,15,16],[0,1,2,3,4,5,6,7,8,9,10,11,12,13,14,15,16,17],[0,1,2,3,4,5,6,7,8,9,10,11,12,13,14,15,16,17,18],[0,1,2,3,4,5,6,7,8,9,10,11,12,13,14,15,16,17,18,19]] h (by kernel_rfl) (by kernel_rfl) (by kernel_rfl) ?_
     refine bB 0 h s aZ rfl rfl (aq _ _ _ _) rfl ?_;intro f h
     refine cm h tI (fun w9 hE9=>aO (.bool true) (f3 (L.getD k z3).1 (L.getD k z3).2.1 (L.getD k z3).2.2 w9 ((hO.2 _ (bw hkl)).1.keep (s.ext.trans hE9)) ((hO.2 _ (bw hkl)).2.keep (s.ext.trans hE9)) (by omega) (by omega)) (congrArg Value.bool r0)) rfl rfl ?_;intro f h
     refine ao h (av (.bool false) (bh (h.ev rfl)) rfl) rfl ?_;intro f h
     refine ao h (ag (h.ev rfl)) rfl ?_;intro f h
     refine aV h rfl rfl rfl ?_
     refine ao h (ag (h.ev rfl)) rfl ?_;intro f h
     refine aV h rfl rfl rfl ?_
     refine ao h (av (.bool true) (c6 (h.ev rfl) (h.ev rfl)) (congrArg Value.bool (decide_eq_true (by have:=of_decide_eq_true k0;omega)))) rfl ?_;intro f h
     refine aV h rfl rfl rfl ?_
     refine ao h (ag (h.ev rfl)) rfl ?_;intro f h
     refine aV h rfl rfl rfl ?_
     refine ao h (ai cp (h.ev rfl)) rfl ?_;intro f h
     refine aV h rfl rfl rfl ?_
     refine a2 (V:=vo) (am (aU.of_own s 2 rfl) 0 rfl) h c4 rfl rfl ?_;intro f h
     refine aV h rfl rfl rfl ?_
     refine ao h (ag (h.ev rfl)) rfl ?_;intro f h
     refine aV h rfl rfl rfl ?_
     have hk0:=of_decide_eq_true k0
     refine ao h (eU (h.ev rfl) (h.ev rfl) (by omega)) rfl ?_;intro f h
     refine aV h rfl rfl rfl ?_
     refine ao h (bZ (hO.1.keep s.ext) ((k - 1)) Tryz.underlying22 gc (h.ev rfl) (h.ev rfl) (by omega) (by omega)) rfl ?_;intro f h
     refine aV h rfl rfl rfl ?_
     refine ao h (bG aR (h.ev rfl) ((hO.1.keep s.ext).some (by omega))) rfl ?_;intro f h
     refine aV h rfl rfl rfl ?_
     refine ao h (bG aJ (h.ev rfl) ((hO.1.keep s.ext).some (by omega))) rfl ?_;intro f h
     refine aV h rfl rfl rfl ?_
     refine a2 (V:=.int .i64 (L.getD (k - 1) z3).1.me.1) (dt (hO.1.keep s.ext) ((k - 1)*68+0) (lg L (k - 1) (by omega))) h bz rfl rfl ?_;intro f h
     refine aV h rfl rfl rfl ?_
     refine ao h (ai aR (h.ev rfl)) rfl ?_;intro f h
     refine aV h rfl rfl rfl ?_
     refine ao h (ai aJ (h.ev rfl)) rfl ?_;intro f h
     refine aV h rfl rfl rfl ?_
     refine a2 (am (aU.of_own s 0 rfl) 0 (bO _ _ _ _)) h bz rfl rfl ?_;intro f h
     refine aV h rfl rfl rfl ?_
     refine ao h (av (.bool false) (dg (h.ev rfl) (h.ev rfl)) (congrArg Value.bool k1)) rfl ?_;intro f h
     refine aV h rfl rfl rfl ?_
     refine ao h (aI (h.ev rfl) (h.ev rfl)) rfl ?_;intro f h
     refine ao h (aG (h.ev rfl) (h.ev rfl)) rfl ?_;intro f h
     refine cq s fun w1 s=>?_
     refine ah ?_
     refine hK10 _ _ ?_
     refine wpIn_cond_false (h.ev rfl) ?_
     refine wpIn_skip ?_
     refine hK9 _ _ ?_
     refine al fun K20 hK20=>?_
     refine ae ?_
     have hq1:=hp1
     have hr9:=r0
     have hk9:decide (0<k)=false∨decide ((L.getD k z3).1.me.1≤(L.getD (k - 1) z3).1.me.1)=false:=.inr k1
     have hkl2:(aE (L.getD k z3).1).length≤700:=by simp only [aE,List.length_append,List.length_cons];omega
     refine ar 0 h s aZ rfl rfl (aq _ _ _ _) rfl ?_;intro f h
     refine aH h s wY (kv (L.getD k z3).1 (L.getD k z3).2.1 (L.getD k z3).2.2 _ ((hO.2 _ (bw hkl)).1.keep s.ext) ((hO.2 _ (bw hkl)).2.keep s.ext) (by omega) (by omega)) rfl rfl ?_;intro f w1 v41 hT hE h sq;replace s:=s.sl_new hE hT
     refine cK 0 h s Tryz.underlying36 rfl rfl rfl ?_;intro f h
     refine ac h (ag (h.ev rfl)) rfl ?_;intro f h
     refine ah ?_
     refine hK20 _ _ ?_
     refine wpIn_block ?_
     refine wpIn_loop_ghost (fun nn aa ww=>∃ j:Nat,Sl 63 aa [(0,.agg #[vo]),(1,.pointer (some ⟨b1,0,none⟩)),(5,.pointer (some ⟨b5,0,none⟩)),(10,v10),(3,v10),(12,vo),(13,.int .i64 (L.length:Int)),(14,.int .i64 (k:Int)),(41,v41),(42,.int .i64 ((aE (L.getD k z3).1).length:Int)),(43,.int .i64 (j:Int))]∧St w [.sl v41 28 33 (aE (L.getD k z3).1).length (ap (aE (L.getD k z3).1)),.blk b5 (.cells (aC (L.getD k z3).1.me (L.getD k z3).1.pr (L.getD k z3).2.1 (L.getD k z3).2.2) 42),.sl v10 28 33 (aM L).length (ap (aM L)),.blk b1 (.cells (#[vo]) 24)] ww∧nn=(aE (L.getD k z3).1).length - j∧j≤(aE (L.getD k z3).1).length∧∀ i,i<j→iZ (aM L) ((aE (L.getD k z3).1).getD i aT)=false) ((aE (L.getD k z3).1).length - (0)) ⟨0,h.only ⟨rfl,rfl,rfl,rfl,rfl,rfl,rfl,rfl,rfl,rfl,aQ rfl (by omega),trivial⟩,s.as ⟨rfl,rfl,rfl,rfl,trivial⟩,rfl,Nat.zero_le _,fun j hj=>absurd hj (Nat.not_lt_zero _)⟩ ?_
     rintro _ f w1 ⟨j,h,s,hnn,hp0,hp1⟩
     refine al fun K21 hK21=>?_
     refine ae ?_
     refine ac h (bN (h.ev rfl) (h.ev rfl)) rfl ?_;intro f h
     refine ah ?_
     refine hK21 _ _ ?_
     refine al fun K22 hK22=>?_
     refine bM h rfl (fun hc=>?_) (fun hc=>?_)
     ·replace hc:=of_decide_eq_true hc
      refine wpIn_skip ?_
      refine hK22 _ _ ?_
      refine al fun K23 hK23=>?_
      refine wpIn_block ?_
      refine al fun K24 hK24=>?_
      refine ae ?_
      have hjl:j<(aE (L.getD k z3).1).length:=by omega
      refine ac h (bZ (bq.of_own (s.getSl 0 rfl)) (j) Tryz.underlying36 cz (h.ev rfl) (h.ev rfl) (by omega) (by omega)) rfl ?_;intro f h
      refine aB ((bq.of_own (s.getSl 0 rfl)).el (j) (by omega) (by decide) (D:=aw ((aE (L.getD k z3).1).getD j aT)) (cL (aE (L.getD k z3).1) j hjl)) h aL rfl (ak _) rfl ?_;intro f h
      refine bj (aw aT) h s cB rfl rfl ?_;intro f w1 b7 h s
      refine ax 0 h s aL rfl rfl rfl (ak _) (ak _) (aS _) ?_;intro w1 s
      refine ah ?_
      refine hK24 _ _ ?_
      refine al fun K25 hK25=>?_
      refine ae ?_
      refine ac h (ag (h.ev rfl)) rfl ?_;intro f h
      refine ac h (ai aJ (h.ev rfl)) rfl ?_;intro f h
      refine au (am (aU.of_own s 0 rfl) 0 (aP _)) h bz rfl rfl ?_;intro f h
      refine aH h s mS (ff (aM L) v10 ((aE (L.getD k z3).1).getD j aT).1 _ (bq.of_own (s.getSl 3 rfl)) (by rw [List.length_map];omega)) rfl rfl ?_;intro f w1 v9 hT hE h s;obtain rfl:=hT
      refine bj (aw aT) h s cB rfl rfl ?_;intro f w1 b8 h s
      refine ax 0 h s aL rfl rfl rfl (ak _) (ak _) (aS _) ?_;intro w1 s
      refine ah ?_
      refine hK25 _ _ ?_
      refine al fun K26 hK26=>?_
      cases f0:(decide (0≤(fB (aM L) ((aE (L.getD k z3).1).getD j aT).1).1):Bool)
      ·skip
       refine ae ?_
       refine ac h (ai aJ (h.ev rfl)) rfl ?_;intro f h
       refine au (am (aU.of_own s 0 rfl) 0 (aP _)) h bz rfl rfl ?_;intro f h
       refine ac h (av (.bool false) (dg (h.ev rfl) (h.ev rfl)) (congrArg Value.bool f0)) rfl ?_;intro f h
       refine ac h (ag (h.ev rfl)) rfl ?_;intro f h
       refine aA (b:=true) h rfl rfl rfl rfl ?_;intro f h
       refine aA (b:=true) h rfl rfl rfl rfl ?_;intro f h
       refine aA (b:=true) h rfl rfl rfl rfl ?_;intro f h
       refine ac h (aG (h.ev rfl) (h.ev rfl)) rfl ?_;intro f h
       refine ah ?_
       refine hK26 _ _ ?_
       refine wpIn_cond_false (h.ev rfl) ?_
       refine wpIn_skip ?_
       refine bF ?_
       refine hK23 _ _ ?_
       refine ae ?_
       refine ac h (cf (h.ev rfl) (h.ev rfl) (by omega)) rfl ?_;intro f h
       refine ac h (ag (h.ev rfl)) rfl ?_;intro f h
       refine ah ?_
       refine bQ ?_
       exact ⟨_,by omega,⟨j+1,h.only ⟨rfl,rfl,rfl,rfl,rfl,rfl,rfl,rfl,rfl,rfl,aQ rfl (by omega),trivial⟩,St.as (s.pick _ (List.sublist_append_right [_,_] _)) ⟨rfl,rfl,rfl,rfl,trivial⟩,rfl,by omega,dm hp1 (CQ f0)⟩⟩
      ·skip
       cases f1:(decide ((fB (aM L) ((aE (L.getD k z3).1).getD j aT).1)=((aE (L.getD k z3).1).getD j aT)):Bool)
       ·skip
        refine ae ?_
        refine ac h (ai aJ (h.ev rfl)) rfl ?_;intro f h
        refine au (am (aU.of_own s 0 rfl) 0 (aP _)) h bz rfl rfl ?_;intro f h
        refine ac h (av (.bool true) (dg (h.ev rfl) (h.ev rfl)) (congrArg Value.bool f0)) rfl ?_;intro f h
        refine ac h (ag (h.ev rfl)) rfl ?_;intro f h
        refine az h rfl rfl rfl ?_
        refine ar 0 h s aL rfl rfl (ak _) rfl ?_;intro f h
        refine az h rfl rfl rfl ?_
        refine ar 1 h s aL rfl rfl (ak _) rfl ?_;intro f h
        refine az h rfl rfl rfl ?_
        refine ac h (av (.bool true) (eE (g4 _ _) (by kernel_rfl) (by decide) (h.ev rfl) (h.ev rfl) (decide ((fB (aM L) ((aE (L.getD k z3).1).getD j aT).1)=((aE (L.getD k z3).1).getD j aT))) (ee _ _)) (by rw [f1];rfl)) rfl ?_;intro f h
        refine ac h (aI (h.ev rfl) (h.ev rfl)) rfl ?_;intro f h
        refine ah ?_
        refine hK26 _ _ ?_
        refine wpIn_cond_true (h.ev rfl) ?_
        refine al fun K27 hK27=>?_
        refine ae ?_
        refine ac h (aj (h.ev rfl)) rfl ?_;intro f h
        refine ah ?_
        refine hK27 _ _ ?_
        refine wpIn_ret ?_
        refine bU ?_
        refine aW ?_
        refine aW ?_
        refine bU ?_
        refine bU ?_
        refine aW ?_
        refine aW ?_
        refine bU ?_
        refine aW ?_
        exact bf rfl h s rfl (by show _=_;rw [jQ hkl (C7 hjl (by rw [yy f0,f1];rfl))])
       ·skip
        refine ae ?_
        refine ac h (ai aJ (h.ev rfl)) rfl ?_;intro f h
        refine au (am (aU.of_own s 0 rfl) 0 (aP _)) h bz rfl rfl ?_;intro f h
        refine ac h (av (.bool true) (dg (h.ev rfl) (h.ev rfl)) (congrArg Value.bool f0)) rfl ?_;intro f h
        refine ac h (ag (h.ev rfl)) rfl ?_;intro f h
        refine az h rfl rfl rfl ?_
        refine ar 0 h s aL rfl rfl (ak _) rfl ?_;intro f h
        refine az h rfl rfl rfl ?_
        refine ar 1 h s aL rfl rfl (ak _) rfl ?_;intro f h
        refine az h rfl rfl rfl ?_
        refine ac h (av (.bool false) (eE (g4 _ _) (by kernel_rfl) (by decide) (h.ev rfl) (h.ev rfl) (decide ((fB (aM L) ((aE (L.getD k z3).1).getD j aT).1)=((aE (L.getD k z3).1).getD j aT))) (ee _ _)) (by rw [f1];rfl)) rfl ?_;intro f h
        refine ac h (aI (h.ev rfl) (h.ev rfl)) rfl ?_;intro f h
        refine ah ?_
        refine hK26 _ _ ?_
        refine wpIn_cond_false (h.ev rfl) ?_
        refine wpIn_skip ?_
        refine bF ?_
        refine hK23 _ _ ?_
        refine ae ?_
        refine ac h (cf (h.ev rfl) (h.ev rfl) (by omega)) rfl ?_;intro f h
        refine ac h (ag (h.ev rfl)) rfl ?_;intro f h
        refine ah ?_
        refine bQ ?_
        exact ⟨_,by omega,⟨j+1,h.only ⟨rfl,rfl,rfl,rfl,rfl,rfl,rfl,rfl,rfl,rfl,aQ rfl (by omega),trivial⟩,St.as (s.pick _ (List.sublist_append_right [_,_] _)) ⟨rfl,rfl,rfl,rfl,trivial⟩,rfl,by omega,dm hp1 (by rw [yy f0,f1];rfl)⟩⟩
     ·replace hc:=of_decide_eq_false hc
      refine wpIn_exit ?_
      refine bJ ?_
      refine bJ ?_
      refine cC ?_
      refine bF ?_
      refine hK7 _ _ ?_
      refine ae ?_
      refine ac h (cf (h.ev rfl) (h.ev rfl) (by omega)) rfl ?_;intro f h
      refine ac h (ag (h.ev rfl)) rfl ?_;intro f h
      refine ah ?_
      refine bQ ?_
      have hb9:go L k=false:=Dc (j:=j) hr9 hk9 (by omega) hp1
      exact ⟨_,by omega,⟨k+1,h.only ⟨rfl,rfl,rfl,rfl,rfl,rfl,aQ rfl (by omega),trivial⟩,St.as (s.pick _ (List.sublist_append_right [_,_] _)) ⟨rfl,rfl,trivial⟩,rfl,by omega,dm hq1 hb9⟩⟩
    ·skip
     refine bI 21 [[],[0],[0,1],[0,1,2],[0,1,2,3],[0,1,2,3,4],[0,1,2,3,4,5],[0,1,2,3,4,5,6],[0,1,2,3,4,5,6,7],[0,1,2,3,4,5,6],[0,1,2,3,4,5,6,9],[0,1,2,3,4,5,6,7,8,9,10],[0,1,2,3,4,5,6,7,8,9,10,11],[0,1,2,3,4,5,6,7,8,9,10,11,12],[0,1,2,3,4,5,6,7,8,9,10,11,12,13],[0,1,2,3,4,5,6],[0,1,2,3,4,5,6,15],[0,1,2,3,4,5,6,15,16],[0,1,2,3,4,5,6,7,8,9,10,11,12,13,14,15,16,17],[0,1,2,3,4,5,6,7,8,9,10,11,12,13,14,15,16,17,18],[0,1,2,3,4,5,6,7,8,9,10,11,12,13,14,15,16,17,18,19]] h (by kernel_rfl) (by kernel_rfl) (by kernel_rfl) ?_
     refine bB 0 h s aZ rfl rfl (aq _ _ _ _) rfl ?_;intro f h
     refine cm h tI (fun w9 hE9=>aO (.bool true) (f3 (L.getD k z3).1 (L.getD k z3).2.1 (L.getD k z3).2.2 w9 ((hO.2 _ (bw hkl)).1.keep (s.ext.trans hE9)) ((hO.2 _ (bw hkl)).2.keep (s.ext.trans hE9)) (by omega) (by omega)) (congrArg Value.bool r0)) rfl rfl ?_;intro f h
     refine ao h (av (.bool false) (bh (h.ev rfl)) rfl) rfl ?_;intro f h
     refine ao h (ag (h.ev rfl)) rfl ?_;intro f h
     refine aV h rfl rfl rfl ?_
     refine ao h (ag (h.ev rfl)) rfl ?_;intro f h
     refine aV h rfl rfl rfl ?_
     refine ao h (av (.bool true) (c6 (h.ev rfl) (h.ev rfl)) (congrArg Value.bool (decide_eq_true (by have:=of_decide_eq_true k0;omega)))) rfl ?_;intro f h
     refine aV h rfl rfl rfl ?_
     refine ao h (ag (h.ev rfl)) rfl ?_;intro f h
     refine aV h rfl rfl rfl ?_
     refine ao h (ai cp (h.ev rfl)) rfl ?_;intro f h
     refine aV h rfl rfl rfl ?_
     refine a2 (V:=vo) (am (aU.of_own s 2 rfl) 0 rfl) h c4 rfl rfl ?_;intro f h
     refine aV h rfl rfl rfl ?_
     refine ao h (ag (h.ev rfl)) rfl ?_;intro f h
     refine aV h rfl rfl rfl ?_
     have hk0:=of_decide_eq_true k0
     refine ao h (eU (h.ev rfl) (h.ev rfl) (by omega)) rfl ?_;intro f h
     refine aV h rfl rfl rfl ?_
     refine ao h (bZ (hO.1.keep s.ext) ((k - 1)) Tryz.underlying22 gc (h.ev rfl) (h.ev rfl) (by omega) (by omega)) rfl ?_;intro f h
     refine aV h rfl rfl rfl ?_
     refine ao h (bG aR (h.ev rfl) ((hO.1.keep s.ext).some (by omega))) rfl ?_;intro f h
     refine aV h rfl rfl rfl ?_
     refine ao h (bG aJ (h.ev rfl) ((hO.1.keep s.ext).some (by omega))) rfl ?_;intro f h
     refine aV h rfl rfl rfl ?_
     refine a2 (V:=.int .i64 (L.getD (k - 1) z3).1.me.1) (dt (hO.1.keep s.ext) ((k - 1)*68+0) (lg L (k - 1) (by omega))) h bz rfl rfl ?_;intro f h
     refine aV h rfl rfl rfl ?_
     refine ao h (ai aR (h.ev rfl)) rfl ?_;intro f h
     refine aV h rfl rfl rfl ?_
     refine ao h (ai aJ (h.ev rfl)) rfl ?_;intro f h
     refine aV h rfl rfl rfl ?_
     refine a2 (am (aU.of_own s 0 rfl) 0 (bO _ _ _ _)) h bz rfl rfl ?_;intro f h
     refine aV h rfl rfl rfl ?_
     refine ao h (av (.bool true) (dg (h.ev rfl) (h.ev rfl)) (congrArg Value.bool k1)) rfl ?_;intro f h
     refine aV h rfl rfl rfl ?_
     refine ao h (aI (h.ev rfl) (h.ev rfl)) rfl ?_;intro f h
     refine ao h (aG (h.ev rfl) (h.ev rfl)) rfl ?_;intro f h
     refine cq s fun w1 s=>?_
     refine ah ?_
     refine hK10 _ _ ?_
     refine wpIn_cond_true (h.ev rfl) ?_
     refine al fun K28 hK28=>?_
     refine ae ?_
     refine ac h (aj (h.ev rfl)) rfl ?_;intro f h
     refine ah ?_
     refine hK28 _ _ ?_
     refine wpIn_ret ?_
     refine aW ?_
     refine bU ?_
     refine aW ?_
     refine aW ?_
     refine bU ?_
     refine aW ?_
     exact bf rfl h s rfl (by show _=_;rw [jQ hkl (CT k0 k1)])
 ·replace hc:=of_decide_eq_false hc
  refine wpIn_exit ?_
  refine bJ ?_
  refine bJ ?_
  refine cC ?_
  refine hK3 _ _ ?_
  refine al fun K29 hK29=>?_
  refine ae ?_
  refine ac h (ag (h.ev rfl)) rfl ?_;intro f h
  refine aH h s CO (sh (aM L) v10 _ (bq.of_own (s.getSl 0 rfl)) (by rw [List.length_map];omega)) rfl rfl ?_;intro f w1 v9 hT hE h s;obtain rfl:=hT
  refine ac h (aj (h.ev rfl)) rfl ?_;intro f h
  refine ah ?_
  refine hK29 _ _ ?_
  refine wpIn_ret ?_
  exact bf rfl h s rfl (by show _=_;rw [zf (by omega) hp1])
end Go.Proofs.YthggibfkgofncaaGreat
