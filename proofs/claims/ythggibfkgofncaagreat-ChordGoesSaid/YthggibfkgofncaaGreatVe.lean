/- Which overlays may be, by the reference. -/
import Derived.Test.YthggibfkgofncaaGreatVb
import Derived.Test.YthggibfkgofncaaGreatVd
set_option linter.unusedVariables false
set_option linter.unusedSimpArgs false
set_option linter.unusedSectionVars false
namespace Go.Proofs.YthggibfkgofncaaGreat
open Go.RowKit
theorem qY (l:List Mb) (vh:Value) (w:World) (hR:bX w vh 33 l.length (ar l)) (hln:l.length≤1000):Calls Tryz.prog 44 [vh].toArray w (cU w (is (.bool (dd l)))):=by
 refine bq Tryz.func44 rfl Tryz.ntmps44 rfl [(0,vh)] (by simp) fun f h=>?_
 have s:=St.start w
 refine al fun K1 hK1=>?_
 refine ae ?_
 refine ac h (ak (h.ev rfl)) rfl ?_;intro f h
 refine ah ?_
 refine hK1 _ _ ?_
 refine al fun K2 hK2=>?_
 refine al fun K3 hK3=>?_
 refine ae ?_
 refine ac h (ag (h.ev rfl)) rfl ?_;intro f h
 refine ac h (a8 (hR.keep s.ext) Tryz.underlying36 (h.ev rfl)) rfl ?_;intro f h
 refine ac h (ag (h.ev rfl)) rfl ?_;intro f h
 refine ah ?_
 refine hK3 _ _ ?_
 refine wpIn_block ?_
 refine wpIn_loop_ghost (fun nn aa ww=>∃ k:Nat,Sl 47 aa [(0,vh),(7,vh),(8,.int .i64 (l.length:Int)),(9,.int .i64 (k:Int))]∧St w [] ww∧nn=l.length - k∧k≤l.length∧∀ j,j<k→iz l j=false) (l.length - (0)) ⟨0,h.only ⟨rfl,rfl,rfl,aO rfl (by omega),trivial⟩,s.as trivial,rfl,Nat.zero_le _,fun j hj=>absurd hj (Nat.not_lt_zero _)⟩ ?_
 rintro _ f w1 ⟨k,h,s,hnn,hp0,hp1⟩
 refine al fun K4 hK4=>?_
 refine ae ?_
 refine ac h (bS (h.ev rfl) (h.ev rfl)) rfl ?_;intro f h
 refine ah ?_
 refine hK4 _ _ ?_
 refine al fun K5 hK5=>?_
 refine bK h rfl (fun hc=>?_) (fun hc=>?_)
 ·replace hc:=of_decide_eq_true hc
  refine wpIn_skip ?_
  refine hK5 _ _ ?_
  refine al fun K6 hK6=>?_
  refine wpIn_block ?_
  refine al fun K7 hK7=>?_
  refine ae ?_
  refine ac h (ag (h.ev rfl)) rfl ?_;intro f h
  have hkl:k<l.length:=by omega
  refine ac h (cc (hR.keep s.ext) (k) Tryz.underlying36 cD (h.ev rfl) (h.ev rfl) (by omega) (by omega)) rfl ?_;intro f h
  refine ax ((hR.keep s.ext).el (k) (by omega) (by decide) (D:=av (l.getD k aZ)) (cI l k hkl)) h aC rfl (aj _) rfl ?_;intro f h
  refine bf (av aZ) h s cB rfl rfl ?_;intro f w1 b4 h s
  refine ac h (ak (h.ev rfl)) rfl ?_;intro f h
  refine az 0 h s aC rfl rfl rfl (aj _) (aj _) (aS _) ?_;intro w1 s
  refine ah ?_
  refine hK7 _ _ ?_
  refine al fun K8 hK8=>?_
  refine al fun K9 hK9=>?_
  cases k0:(decide ((l.getD k aZ).1<0):Bool)
  ·skip
   cases k1:(decide (16≤(l.getD k aZ).1):Bool)
   ·skip
    refine ae ?_
    refine ac h (ai aH (h.ev rfl)) rfl ?_;intro f h
    refine aq (am (aL.of_own s 0 rfl) 0 (aP _)) h bw rfl rfl ?_;intro f h
    refine ac h (aw (.bool false) (bS (h.ev rfl) (h.ev rfl)) (congrArg Value.bool k0)) rfl ?_;intro f h
    refine ac h (ag (h.ev rfl)) rfl ?_;intro f h
    refine aA h rfl rfl rfl ?_
    refine ac h (ai aH (h.ev rfl)) rfl ?_;intro f h
    refine aA h rfl rfl rfl ?_
    refine aq (am (aL.of_own s 0 rfl) 0 (aP _)) h bw rfl rfl ?_;intro f h
    refine aA h rfl rfl rfl ?_
    refine ac h (aw (.bool false) (cY (h.ev rfl) (h.ev rfl)) (congrArg Value.bool ((decide_eq_decide.2 (by omega)).trans k1))) rfl ?_;intro f h
    refine ac h (aF (h.ev rfl) (h.ev rfl)) rfl ?_;intro f h
    refine ah ?_
    refine hK9 _ _ ?_
    refine wpIn_cond_false (h.ev rfl) ?_
    refine wpIn_skip ?_
    refine hK8 _ _ ?_
    refine al fun K10 hK10=>?_
    refine ae ?_
    have hq1:=hp1
    have hlt9:(l.take k).length=k:=by rw [List.length_take];omega
    refine ac h (ag (h.ev rfl)) rfl ?_;intro f h
    refine ac h (ag (h.ev rfl)) rfl ?_;intro f h
    refine ac h (dG (hR.keep s.ext) (k) Tryz.underlying36 cD (h.ev rfl) (h.ev rfl) (rfl) (by omega)) rfl ?_;intro f h
    refine ac h (a8 ((fc hR k (by omega)).keep s.ext) Tryz.underlying36 (h.ev rfl)) rfl ?_;intro f h
    refine ac h (ag (h.ev rfl)) rfl ?_;intro f h
    refine ah ?_
    refine hK10 _ _ ?_
    refine wpIn_block ?_
    refine wpIn_loop_ghost (fun nn aa ww=>∃ j:Nat,Sl 47 aa [(0,vh),(4,.pointer (some ⟨b4,0,none⟩)),(7,vh),(8,.int .i64 (l.length:Int)),(9,.int .i64 (k:Int)),(24,gn vh k),(25,.int .i64 ((l.take k).length:Int)),(26,.int .i64 (j:Int))]∧St w [.blk b4 (.cells (av (l.getD k aZ)) 28)] ww∧nn=k - j∧j≤k∧∀ i,i<j→gU (l.getD k aZ) (l.getD i aZ)=false) (k - (0)) ⟨0,h.only ⟨rfl,rfl,rfl,rfl,rfl,rfl,rfl,aO rfl (by omega),trivial⟩,s.as ⟨rfl,trivial⟩,rfl,Nat.zero_le _,fun j hj=>absurd hj (Nat.not_lt_zero _)⟩ ?_
    rintro _ f w1 ⟨j,h,s,hnn,hp0,hp1⟩
    refine al fun K11 hK11=>?_
    refine ae ?_
    refine ac h (bS (h.ev rfl) (h.ev rfl)) rfl ?_;intro f h
    refine ah ?_
    refine hK11 _ _ ?_
    refine al fun K12 hK12=>?_
    refine bK h rfl (fun hc=>?_) (fun hc=>?_)
    ·replace hc:=of_decide_eq_true hc
     refine wpIn_skip ?_
     refine hK12 _ _ ?_
     refine al fun K13 hK13=>?_
     refine wpIn_block ?_
     refine al fun K14 hK14=>?_
     refine ae ?_
     have hjk:j<k:=by omega
     refine ac h (cc ((fc hR k (by omega)).keep s.ext) (j) Tryz.underlying36 cD (h.ev rfl) (h.ev rfl) (by omega) (by omega)) rfl ?_;intro f h
     refine ax (((fc hR k (by omega)).keep s.ext).el (j) (by omega) (by decide) (D:=av (l.getD j aZ)) (wC l hjk (by omega))) h aC rfl (aj _) rfl ?_;intro f h
     refine bf (av aZ) h s cB rfl rfl ?_;intro f w1 b6 h s
     refine az 0 h s aC rfl rfl rfl (aj _) (aj _) (aS _) ?_;intro w1 s
     refine ah ?_
     refine hK14 _ _ ?_
     refine al fun K15 hK15=>?_
     cases h0:(decide ((l.getD j aZ).1=(l.getD k aZ).1):Bool)
     ·skip
      refine ae ?_
      refine ac h (ai aH (h.ev rfl)) rfl ?_;intro f h
      refine aq (am (aL.of_own s 0 rfl) 0 (aP _)) h bw rfl rfl ?_;intro f h
      refine ac h (ai aH (h.ev rfl)) rfl ?_;intro f h
      refine aq (am (aL.of_own s 1 rfl) 0 (aP _)) h bw rfl rfl ?_;intro f h
      refine ac h (aw (.bool false) (bU (h.ev rfl) (h.ev rfl)) (congrArg Value.bool h0)) rfl ?_;intro f h
      refine ac h (ag (h.ev rfl)) rfl ?_;intro f h
      refine aA h rfl rfl rfl ?_
      refine ac h (ai cj (h.ev rfl)) rfl ?_;intro f h
      refine aA h rfl rfl rfl ?_
      refine ax (aL.subL (aL.of_own s 0 rfl) 1 32 (D:=bO (_)) (cw _)) h cA rfl (by first|exact ba _|exact a6 _ _) rfl ?_;intro f h
      refine aA h rfl rfl rfl ?_
      refine ac h (ai cj (h.ev rfl)) rfl ?_;intro f h
      refine aA h rfl rfl rfl ?_
      refine ax (aL.subL (aL.of_own s 1 rfl) 1 32 (D:=bO (_)) (cw _)) h cA rfl (by first|exact ba _|exact a6 _ _) rfl ?_;intro f h
      refine aA h rfl rfl rfl ?_
      refine ac h (dN g6 (h.ev rfl) (h.ev rfl)) rfl ?_;intro f h
      refine ac h (aF (h.ev rfl) (h.ev rfl)) rfl ?_;intro f h
      refine ah ?_
      refine hK15 _ _ ?_
      refine bK h rfl (fun hc=>?_) (fun hc=>?_)
      ·refine al fun K16 hK16=>?_
       refine ae ?_
       refine ac h (ak (h.ev rfl)) rfl ?_;intro f h
       refine ah ?_
       refine hK16 _ _ ?_
       refine wpIn_ret ?_
       refine bQ ?_
       refine aY ?_
       refine aY ?_
       refine bQ ?_
       refine bQ ?_
       refine aY ?_
       refine aY ?_
       refine bQ ?_
       refine aY ?_
       exact bo rfl h s rfl (by show _=_;rw [ee hkl ((l7 k0 k1).trans (ke (by omega) hjk ((n3 h0).trans hc)))]<;>rfl)
      ·refine wpIn_skip ?_
       refine bF ?_
       refine hK13 _ _ ?_
       refine ae ?_
       refine ac h (ce (h.ev rfl) (h.ev rfl) (by omega)) rfl ?_;intro f h
       refine ac h (ag (h.ev rfl)) rfl ?_;intro f h
       refine ah ?_
       refine bT ?_
       have hb8:gU (l.getD k aZ) (l.getD j aZ)=false:=(n3 h0).trans hc
       exact ⟨_,by omega,⟨j+1,h.only ⟨rfl,rfl,rfl,rfl,rfl,rfl,rfl,aO rfl (by omega),trivial⟩,St.as (s.pick _ (List.sublist_append_right [_] _)) ⟨rfl,trivial⟩,rfl,by omega,de hp1 hb8⟩⟩
     ·skip
      refine ae ?_
      refine ac h (ai aH (h.ev rfl)) rfl ?_;intro f h
      refine aq (am (aL.of_own s 0 rfl) 0 (aP _)) h bw rfl rfl ?_;intro f h
      refine ac h (ai aH (h.ev rfl)) rfl ?_;intro f h
      refine aq (am (aL.of_own s 1 rfl) 0 (aP _)) h bw rfl rfl ?_;intro f h
      refine ac h (aw (.bool true) (bU (h.ev rfl) (h.ev rfl)) (congrArg Value.bool h0)) rfl ?_;intro f h
      refine ac h (ag (h.ev rfl)) rfl ?_;intro f h
      refine aB (b:=false) h rfl rfl rfl rfl ?_;intro f h
      refine aB (b:=false) h rfl rfl rfl rfl ?_;intro f h
      refine aB (b:=false) h rfl rfl rfl rfl ?_;intro f h
      refine aB (b:=false) h rfl rfl rfl rfl ?_;intro f h
      refine aB (b:=false) h rfl rfl rfl rfl ?_;intro f h
      refine ac h (aD (h.ev rfl) (h.ev rfl)) rfl ?_;intro f h
      refine ah ?_
      refine hK15 _ _ ?_
      refine wpIn_cond_true (h.ev rfl) ?_
      refine al fun K17 hK17=>?_
      refine ae ?_
      refine ac h (ak (h.ev rfl)) rfl ?_;intro f h
      refine ah ?_
      refine hK17 _ _ ?_
      refine wpIn_ret ?_
      refine bQ ?_
      refine aY ?_
      refine aY ?_
      refine bQ ?_
      refine bQ ?_
      refine aY ?_
      refine aY ?_
      refine bQ ?_
      refine aY ?_
      exact bo rfl h s rfl (by show _=_;rw [ee hkl ((l7 k0 k1).trans (ke (by omega) hjk (r8 h0)))]<;>rfl)
    ·replace hc:=of_decide_eq_false hc
     refine wpIn_exit ?_
     refine bJ ?_
     refine bJ ?_
     refine cC ?_
     refine bF ?_
     refine hK6 _ _ ?_
     refine ae ?_
     refine ac h (ce (h.ev rfl) (h.ev rfl) (by omega)) rfl ?_;intro f h
     refine ac h (ag (h.ev rfl)) rfl ?_;intro f h
     refine ah ?_
     refine bT ?_
     have hb9:iz l k=false:=(l7 k0 k1).trans (pU (by omega) (fun i hi=>hp1 i (by omega)))
     exact ⟨_,by omega,⟨k+1,h.only ⟨rfl,rfl,rfl,aO rfl (by omega),trivial⟩,St.as (s.pick _ (List.sublist_append_right [_] _)) trivial,rfl,by omega,de hq1 hb9⟩⟩
   ·skip
    refine ae ?_
    refine ac h (ai aH (h.ev rfl)) rfl ?_;intro f h
    refine aq (am (aL.of_own s 0 rfl) 0 (aP _)) h bw rfl rfl ?_;intro f h
    refine ac h (aw (.bool false) (bS (h.ev rfl) (h.ev rfl)) (congrArg Value.bool k0)) rfl ?_;intro f h
    refine ac h (ag (h.ev rfl)) rfl ?_;intro f h
    refine aA h rfl rfl rfl ?_
    refine ac h (ai aH (h.ev rfl)) rfl ?_;intro f h
    refine aA h rfl rfl rfl ?_
    refine aq (am (aL.of_own s 0 rfl) 0 (aP _)) h bw rfl rfl ?_;intro f h
    refine aA h rfl rfl rfl ?_
    refine ac h (aw (.bool true) (cY (h.ev rfl) (h.ev rfl)) (congrArg Value.bool ((decide_eq_decide.2 (by omega)).trans k1))) rfl ?_;intro f h
    refine ac h (aF (h.ev rfl) (h.ev rfl)) rfl ?_;intro f h
    refine ah ?_
    refine hK9 _ _ ?_
    refine wpIn_cond_true (h.ev rfl) ?_
    refine al fun K18 hK18=>?_
    refine ae ?_
    refine ac h (ak (h.ev rfl)) rfl ?_;intro f h
    refine ah ?_
    refine hK18 _ _ ?_
    refine wpIn_ret ?_
    refine aY ?_
    refine bQ ?_
    refine aY ?_
    refine aY ?_
    refine bQ ?_
    refine aY ?_
    exact bo rfl h s rfl (by show _=_;rw [ee hkl (vD k1)]<;>rfl)
  ·skip
   refine ae ?_
   refine ac h (ai aH (h.ev rfl)) rfl ?_;intro f h
   refine aq (am (aL.of_own s 0 rfl) 0 (aP _)) h bw rfl rfl ?_;intro f h
   refine ac h (aw (.bool true) (bS (h.ev rfl) (h.ev rfl)) (congrArg Value.bool k0)) rfl ?_;intro f h
   refine ac h (ag (h.ev rfl)) rfl ?_;intro f h
   refine aB (b:=false) h rfl rfl rfl rfl ?_;intro f h
   refine aB (b:=false) h rfl rfl rfl rfl ?_;intro f h
   refine aB (b:=false) h rfl rfl rfl rfl ?_;intro f h
   refine ac h (aD (h.ev rfl) (h.ev rfl)) rfl ?_;intro f h
   refine ah ?_
   refine hK9 _ _ ?_
   refine wpIn_cond_true (h.ev rfl) ?_
   refine al fun K19 hK19=>?_
   refine ae ?_
   refine ac h (ak (h.ev rfl)) rfl ?_;intro f h
   refine ah ?_
   refine hK19 _ _ ?_
   refine wpIn_ret ?_
   refine aY ?_
   refine bQ ?_
   refine aY ?_
   refine aY ?_
   refine bQ ?_
   refine aY ?_
   exact bo rfl h s rfl (by show _=_;rw [ee hkl (xk k0)]<;>rfl)
 ·replace hc:=of_decide_eq_false hc
  refine wpIn_exit ?_
  refine bJ ?_
  refine bJ ?_
  refine cC ?_
  refine hK2 _ _ ?_
  refine al fun K20 hK20=>?_
  refine ae ?_
  refine ac h (ag (h.ev rfl)) rfl ?_;intro f h
  refine ac h (a8 (hR.keep s.ext) Tryz.underlying36 (h.ev rfl)) rfl ?_;intro f h
  refine ac h (gL (h.ev rfl) (h.ev rfl)) rfl ?_;intro f h
  refine ac h (ak (h.ev rfl)) rfl ?_;intro f h
  refine ah ?_
  refine hK20 _ _ ?_
  refine wpIn_ret ?_
  exact bo rfl h s rfl (by show _=_;rw [qb (fun j hj=>hp1 j (by omega))];exact congrArg Value.bool (decide_eq_decide.2 (by omega)))
set_option maxHeartbeats 1000000 in
theorem fV (n:Nd) (vs vf:Value) (w:World) (hRs:bX w vs 33 n.sc.length (ar n.sc)) (hRf:bX w vf 33 n.fg.length (ar n.fg)) (hns:n.sc.length≤1000) (hnf:n.fg.length≤1000):Calls Tryz.prog 41 [.agg (ay n.me n.pr vs vf)].toArray w (cU w (is (.bool (cr n)))):=by
 refine bq Tryz.func41 rfl Tryz.ntmps41 rfl [(0,.agg (ay n.me n.pr vs vf))] (by simp) fun f h=>?_
 have s:=St.start w
 refine al fun K1 hK1=>?_
 refine ae ?_
 refine bV (ay n.me n.pr vs vf) h s rfl rfl rfl ?_;intro f w1 b1 h s
 refine ac h (ak (h.ev rfl)) rfl ?_;intro f h
 refine ah ?_
 refine hK1 _ _ ?_
 refine al fun K2 hK2=>?_
 refine al fun K3 hK3=>?_
 cases h0:(dO n.me:Bool)
 ·skip
  refine ae ?_
  refine ac h (ai aK (h.ev rfl)) rfl ?_;intro f h
  refine ax (aL.subL (aL.of_own s 0 rfl) 0 33 (D:=av n.me) (bj _ _ _ _)) h aC rfl (aj _) rfl ?_;intro f h
  refine aI h s ic (aM (.bool false) (d6 n.me _) (congrArg Value.bool h0)) rfl rfl ?_;intro f w1 v9 hT hE h s;obtain rfl:=hT
  refine ac h (aw (.bool true) (bB (h.ev rfl)) rfl) rfl ?_;intro f h
  refine ac h (ag (h.ev rfl)) rfl ?_;intro f h
  refine aB (b:=false) h rfl rfl rfl rfl ?_;intro f h
  refine aB (b:=false) h rfl rfl rfl rfl ?_;intro f h
  refine aB (b:=false) h rfl rfl rfl rfl ?_;intro f h
  refine aB (b:=false) h rfl rfl rfl rfl ?_;intro f h
  refine aB (b:=false) h rfl rfl rfl rfl ?_;intro f h
  refine dp h rfl rfl rfl rfl ?_;intro f h
  refine dp h rfl rfl rfl rfl ?_;intro f h
  refine dp h rfl rfl rfl rfl ?_;intro f h
  refine dp h rfl rfl rfl rfl ?_;intro f h
  refine dp h rfl rfl rfl rfl ?_;intro f h
  refine dp h rfl rfl rfl rfl ?_;intro f h
  refine dp h rfl rfl rfl rfl ?_;intro f h
  refine dp h rfl rfl rfl rfl ?_;intro f h
  refine dp h rfl rfl rfl rfl ?_;intro f h
  refine dp h rfl rfl rfl rfl ?_;intro f h
  refine dp h rfl rfl rfl rfl ?_;intro f h
  refine dp h rfl rfl rfl rfl ?_;intro f h
  refine dp h rfl rfl rfl rfl ?_;intro f h
  refine aB (b:=false) h rfl rfl rfl rfl ?_;intro f h
  refine ac h (aD (h.ev rfl) (h.ev rfl)) rfl ?_;intro f h
  refine ah ?_
  refine hK3 _ _ ?_
  refine wpIn_cond_true (h.ev rfl) ?_
  refine al fun K4 hK4=>?_
  refine ae ?_
  refine ac h (ak (h.ev rfl)) rfl ?_;intro f h
  refine ah ?_
  refine hK4 _ _ ?_
  refine wpIn_ret ?_
  refine aY ?_
  exact bo rfl h s rfl (by show _=_;rw [rL h0])
 ·skip
  cases p0:(decide (n.pr=dB):Bool)
  ·skip
   cases p1:(dO n.pr:Bool)
   ·skip
    refine ae ?_
    refine ac h (ai aK (h.ev rfl)) rfl ?_;intro f h
    refine ax (aL.subL (aL.of_own s 0 rfl) 0 33 (D:=av n.me) (bj _ _ _ _)) h aC rfl (aj _) rfl ?_;intro f h
    refine aI h s ic (aM (.bool true) (d6 n.me _) (congrArg Value.bool h0)) rfl rfl ?_;intro f w1 v9 hT hE h s;obtain rfl:=hT
    refine ac h (aw (.bool false) (bB (h.ev rfl)) rfl) rfl ?_;intro f h
    refine ac h (ag (h.ev rfl)) rfl ?_;intro f h
    refine aA h rfl rfl rfl ?_
    refine ac h (ai aV (h.ev rfl)) rfl ?_;intro f h
    refine aA h rfl rfl rfl ?_
    refine ax (aL.subL (aL.of_own s 0 rfl) 33 33 (D:=av n.pr) (bc _ _ _ _)) h aC rfl (aj _) rfl ?_;intro f h
    refine aA h rfl rfl rfl ?_
    refine aI h s i9 (aM (.bool false) (dY n.pr _) (congrArg Value.bool p0)) rfl rfl ?_;intro f w1 v9 hT hE h s;obtain rfl:=hT
    refine aA h rfl rfl rfl ?_
    refine ac h (aw (.bool true) (bB (h.ev rfl)) rfl) rfl ?_;intro f h
    refine aA h rfl rfl rfl ?_
    refine ac h (ag (h.ev rfl)) rfl ?_;intro f h
    refine aA h rfl rfl rfl ?_
    refine ac h (ai aV (h.ev rfl)) rfl ?_;intro f h
    refine aA h rfl rfl rfl ?_
    refine ax (aL.subL (aL.of_own s 0 rfl) 33 33 (D:=av n.pr) (bc _ _ _ _)) h aC rfl (aj _) rfl ?_;intro f h
    refine aA h rfl rfl rfl ?_
    refine aI h s ic (aM (.bool false) (d6 n.pr _) (congrArg Value.bool p1)) rfl rfl ?_;intro f w1 v9 hT hE h s;obtain rfl:=hT
    refine aA h rfl rfl rfl ?_
    refine ac h (aw (.bool true) (bB (h.ev rfl)) rfl) rfl ?_;intro f h
    refine aA h rfl rfl rfl ?_
    refine ac h (ag (h.ev rfl)) rfl ?_;intro f h
    refine aB (b:=false) h rfl rfl rfl rfl ?_;intro f h
    refine aB (b:=false) h rfl rfl rfl rfl ?_;intro f h
    refine aB (b:=false) h rfl rfl rfl rfl ?_;intro f h
    refine aB (b:=false) h rfl rfl rfl rfl ?_;intro f h
    refine aB (b:=false) h rfl rfl rfl rfl ?_;intro f h
    refine aB (b:=false) h rfl rfl rfl rfl ?_;intro f h
    refine aB (b:=false) h rfl rfl rfl rfl ?_;intro f h
    refine aA h rfl rfl rfl ?_
    refine ac h (aD (h.ev rfl) (h.ev rfl)) rfl ?_;intro f h
    refine aA h rfl rfl rfl ?_
    refine ac h (aD (h.ev rfl) (h.ev rfl)) rfl ?_;intro f h
    refine ac h (aF (h.ev rfl) (h.ev rfl)) rfl ?_;intro f h
    refine ah ?_
    refine hK3 _ _ ?_
    refine wpIn_cond_true (h.ev rfl) ?_
    refine al fun K5 hK5=>?_
    refine ae ?_
    refine ac h (ak (h.ev rfl)) rfl ?_;intro f h
    refine ah ?_
    refine hK5 _ _ ?_
    refine wpIn_ret ?_
    refine aY ?_
    exact bo rfl h s rfl (by show _=_;rw [nU (zm p0 p1)])
   ·skip
    cases p2:(decide (n.pr.1=n.me.1):Bool)
    ·skip
     refine ae ?_
     refine ac h (ai aK (h.ev rfl)) rfl ?_;intro f h
     refine ax (aL.subL (aL.of_own s 0 rfl) 0 33 (D:=av n.me) (bj _ _ _ _)) h aC rfl (aj _) rfl ?_;intro f h
     refine aI h s ic (aM (.bool true) (d6 n.me _) (congrArg Value.bool h0)) rfl rfl ?_;intro f w1 v9 hT hE h s;obtain rfl:=hT
     refine ac h (aw (.bool false) (bB (h.ev rfl)) rfl) rfl ?_;intro f h
     refine ac h (ag (h.ev rfl)) rfl ?_;intro f h
     refine aA h rfl rfl rfl ?_
     refine ac h (ai aV (h.ev rfl)) rfl ?_;intro f h
     refine aA h rfl rfl rfl ?_
     refine ax (aL.subL (aL.of_own s 0 rfl) 33 33 (D:=av n.pr) (bc _ _ _ _)) h aC rfl (aj _) rfl ?_;intro f h
     refine aA h rfl rfl rfl ?_
     refine aI h s i9 (aM (.bool false) (dY n.pr _) (congrArg Value.bool p0)) rfl rfl ?_;intro f w1 v9 hT hE h s;obtain rfl:=hT
     refine aA h rfl rfl rfl ?_
     refine ac h (aw (.bool true) (bB (h.ev rfl)) rfl) rfl ?_;intro f h
     refine aA h rfl rfl rfl ?_
     refine ac h (ag (h.ev rfl)) rfl ?_;intro f h
     refine aA h rfl rfl rfl ?_
     refine ac h (ai aV (h.ev rfl)) rfl ?_;intro f h
     refine aA h rfl rfl rfl ?_
     refine ax (aL.subL (aL.of_own s 0 rfl) 33 33 (D:=av n.pr) (bc _ _ _ _)) h aC rfl (aj _) rfl ?_;intro f h
     refine aA h rfl rfl rfl ?_
     refine aI h s ic (aM (.bool true) (d6 n.pr _) (congrArg Value.bool p1)) rfl rfl ?_;intro f w1 v9 hT hE h s;obtain rfl:=hT
     refine aA h rfl rfl rfl ?_
     refine ac h (aw (.bool false) (bB (h.ev rfl)) rfl) rfl ?_;intro f h
     refine aA h rfl rfl rfl ?_
     refine ac h (ag (h.ev rfl)) rfl ?_;intro f h
     refine aA h rfl rfl rfl ?_
     refine ac h (ai aV (h.ev rfl)) rfl ?_;intro f h
     refine aA h rfl rfl rfl ?_
     refine ac h (ai aH (h.ev rfl)) rfl ?_;intro f h
     refine aA h rfl rfl rfl ?_
     refine aq (am (aL.of_own s 0 rfl) 33 (cF _ _ _ _)) h bw rfl rfl ?_;intro f h
     refine aA h rfl rfl rfl ?_
     refine ac h (ai aK (h.ev rfl)) rfl ?_;intro f h
     refine aA h rfl rfl rfl ?_
     refine ac h (ai aH (h.ev rfl)) rfl ?_;intro f h
     refine aA h rfl rfl rfl ?_
     refine aq (am (aL.of_own s 0 rfl) 0 (bZ _ _ _ _)) h bw rfl rfl ?_;intro f h
     refine aA h rfl rfl rfl ?_
     refine ac h (aw (.bool false) (bU (h.ev rfl) (h.ev rfl)) (congrArg Value.bool p2)) rfl ?_;intro f h
     refine aA h rfl rfl rfl ?_
     refine ac h (aF (h.ev rfl) (h.ev rfl)) rfl ?_;intro f h
     refine aA h rfl rfl rfl ?_
     refine ac h (aD (h.ev rfl) (h.ev rfl)) rfl ?_;intro f h
     refine ac h (aF (h.ev rfl) (h.ev rfl)) rfl ?_;intro f h
     refine ah ?_
     refine hK3 _ _ ?_
     refine wpIn_cond_false (h.ev rfl) ?_
     refine wpIn_skip ?_
     refine hK2 _ _ ?_
     refine al fun K6 hK6=>?_
     refine al fun K7 hK7=>?_
     cases s0:(decide (n.sc.length<1):Bool)
     ·skip
      cases s1:(decide (4<n.sc.length):Bool)
      ·skip
       cases f0:(decide (16<n.fg.length):Bool)
       ·skip
        cases f1:(iv n.fg n.me.1:Bool)
        ·skip
         refine ae ?_
         refine ac h (ai bC (h.ev rfl)) rfl ?_;intro f h
         refine aq (V:=vs) (am (aL.of_own s 0 rfl) 66 (bA _ _ _ _)) h bE rfl rfl ?_;intro f h
         refine ac h (a8 (hRs.keep s.ext) Tryz.underlying36 (h.ev rfl)) rfl ?_;intro f h
         refine ac h (aw (.bool false) (bS (h.ev rfl) (h.ev rfl)) (congrArg Value.bool (decide_eq_false (by have:=of_decide_eq_false s0;omega)))) rfl ?_;intro f h
         refine ac h (ag (h.ev rfl)) rfl ?_;intro f h
         refine aA h rfl rfl rfl ?_
         refine ac h (ai bC (h.ev rfl)) rfl ?_;intro f h
         refine aA h rfl rfl rfl ?_
         refine aq (V:=vs) (am (aL.of_own s 0 rfl) 66 (bA _ _ _ _)) h bE rfl rfl ?_;intro f h
         refine aA h rfl rfl rfl ?_
         refine ac h (a8 (hRs.keep s.ext) Tryz.underlying36 (h.ev rfl)) rfl ?_;intro f h
         refine aA h rfl rfl rfl ?_
         refine ac h (aw (.bool false) (cY (h.ev rfl) (h.ev rfl)) (congrArg Value.bool (decide_eq_false (by have:=of_decide_eq_false s1;omega)))) rfl ?_;intro f h
         refine ac h (aF (h.ev rfl) (h.ev rfl)) rfl ?_;intro f h
         refine ac h (ag (h.ev rfl)) rfl ?_;intro f h
         refine aA h rfl rfl rfl ?_
         refine ac h (ai cP (h.ev rfl)) rfl ?_;intro f h
         refine aA h rfl rfl rfl ?_
         refine aq (V:=vf) (am (aL.of_own s 0 rfl) 67 (cO _ _ _ _)) h bE rfl rfl ?_;intro f h
         refine aA h rfl rfl rfl ?_
         refine ac h (a8 (hRf.keep s.ext) Tryz.underlying36 (h.ev rfl)) rfl ?_;intro f h
         refine aA h rfl rfl rfl ?_
         refine ac h (aw (.bool false) (cY (h.ev rfl) (h.ev rfl)) (congrArg Value.bool (decide_eq_false (by have:=of_decide_eq_false f0;omega)))) rfl ?_;intro f h
         refine ac h (aF (h.ev rfl) (h.ev rfl)) rfl ?_;intro f h
         refine ac h (ag (h.ev rfl)) rfl ?_;intro f h
         refine aA h rfl rfl rfl ?_
         refine ac h (ai cP (h.ev rfl)) rfl ?_;intro f h
         refine aA h rfl rfl rfl ?_
         refine aq (V:=vf) (am (aL.of_own s 0 rfl) 67 (cO _ _ _ _)) h bE rfl rfl ?_;intro f h
         refine aA h rfl rfl rfl ?_
         refine ac h (ai aK (h.ev rfl)) rfl ?_;intro f h
         refine aA h rfl rfl rfl ?_
         refine ac h (ai aH (h.ev rfl)) rfl ?_;intro f h
         refine aA h rfl rfl rfl ?_
         refine aq (am (aL.of_own s 0 rfl) 0 (bZ _ _ _ _)) h bw rfl rfl ?_;intro f h
         refine aA h rfl rfl rfl ?_
         refine aI h s kC (aM (.bool false) (ea n.fg vf n.me.1 _ (hRf.keep s.ext) hnf) (congrArg Value.bool f1)) rfl rfl ?_;intro f w1 v9 hT hE h s;obtain rfl:=hT
         refine aA h rfl rfl rfl ?_
         refine ac h (aw (.bool true) (bB (h.ev rfl)) rfl) rfl ?_;intro f h
         refine ac h (aF (h.ev rfl) (h.ev rfl)) rfl ?_;intro f h
         refine ah ?_
         refine hK7 _ _ ?_
         refine wpIn_cond_true (h.ev rfl) ?_
         refine al fun K8 hK8=>?_
         refine ae ?_
         refine ac h (ak (h.ev rfl)) rfl ?_;intro f h
         refine ah ?_
         refine hK8 _ _ ?_
         refine wpIn_ret ?_
         refine aY ?_
         exact bo rfl h s rfl (by show _=_;rw [lz (vF f1)])
        ·skip
         refine ae ?_
         refine ac h (ai bC (h.ev rfl)) rfl ?_;intro f h
         refine aq (V:=vs) (am (aL.of_own s 0 rfl) 66 (bA _ _ _ _)) h bE rfl rfl ?_;intro f h
         refine ac h (a8 (hRs.keep s.ext) Tryz.underlying36 (h.ev rfl)) rfl ?_;intro f h
         refine ac h (aw (.bool false) (bS (h.ev rfl) (h.ev rfl)) (congrArg Value.bool (decide_eq_false (by have:=of_decide_eq_false s0;omega)))) rfl ?_;intro f h
         refine ac h (ag (h.ev rfl)) rfl ?_;intro f h
         refine aA h rfl rfl rfl ?_
         refine ac h (ai bC (h.ev rfl)) rfl ?_;intro f h
         refine aA h rfl rfl rfl ?_
         refine aq (V:=vs) (am (aL.of_own s 0 rfl) 66 (bA _ _ _ _)) h bE rfl rfl ?_;intro f h
         refine aA h rfl rfl rfl ?_
         refine ac h (a8 (hRs.keep s.ext) Tryz.underlying36 (h.ev rfl)) rfl ?_;intro f h
         refine aA h rfl rfl rfl ?_
         refine ac h (aw (.bool false) (cY (h.ev rfl) (h.ev rfl)) (congrArg Value.bool (decide_eq_false (by have:=of_decide_eq_false s1;omega)))) rfl ?_;intro f h
         refine ac h (aF (h.ev rfl) (h.ev rfl)) rfl ?_;intro f h
         refine ac h (ag (h.ev rfl)) rfl ?_;intro f h
         refine aA h rfl rfl rfl ?_
         refine ac h (ai cP (h.ev rfl)) rfl ?_;intro f h
         refine aA h rfl rfl rfl ?_
         refine aq (V:=vf) (am (aL.of_own s 0 rfl) 67 (cO _ _ _ _)) h bE rfl rfl ?_;intro f h
         refine aA h rfl rfl rfl ?_
         refine ac h (a8 (hRf.keep s.ext) Tryz.underlying36 (h.ev rfl)) rfl ?_;intro f h
         refine aA h rfl rfl rfl ?_
         refine ac h (aw (.bool false) (cY (h.ev rfl) (h.ev rfl)) (congrArg Value.bool (decide_eq_false (by have:=of_decide_eq_false f0;omega)))) rfl ?_;intro f h
         refine ac h (aF (h.ev rfl) (h.ev rfl)) rfl ?_;intro f h
         refine ac h (ag (h.ev rfl)) rfl ?_;intro f h
         refine aA h rfl rfl rfl ?_
         refine ac h (ai cP (h.ev rfl)) rfl ?_;intro f h
         refine aA h rfl rfl rfl ?_
         refine aq (V:=vf) (am (aL.of_own s 0 rfl) 67 (cO _ _ _ _)) h bE rfl rfl ?_;intro f h
         refine aA h rfl rfl rfl ?_
         refine ac h (ai aK (h.ev rfl)) rfl ?_;intro f h
         refine aA h rfl rfl rfl ?_
         refine ac h (ai aH (h.ev rfl)) rfl ?_;intro f h
         refine aA h rfl rfl rfl ?_
         refine aq (am (aL.of_own s 0 rfl) 0 (bZ _ _ _ _)) h bw rfl rfl ?_;intro f h
         refine aA h rfl rfl rfl ?_
         refine aI h s kC (aM (.bool true) (ea n.fg vf n.me.1 _ (hRf.keep s.ext) hnf) (congrArg Value.bool f1)) rfl rfl ?_;intro f w1 v9 hT hE h s;obtain rfl:=hT
         refine aA h rfl rfl rfl ?_
         refine ac h (aw (.bool false) (bB (h.ev rfl)) rfl) rfl ?_;intro f h
         refine ac h (aF (h.ev rfl) (h.ev rfl)) rfl ?_;intro f h
         refine ah ?_
         refine hK7 _ _ ?_
         refine wpIn_cond_false (h.ev rfl) ?_
         refine wpIn_skip ?_
         refine hK6 _ _ ?_
         refine al fun K9 hK9=>?_
         cases t0:(decide (n.sc.length=1):Bool)
         ·skip
          refine bH 22 [[],[0],[0,1],[0,1,2],[0,1,2,3],[0,1,2,3,4],[0,1,2,3,4,5],[0,1,2,3,4,5,6],[0,1,2,3,4,5,6,7],[0,1,2,3,4],[0,1,2,3,4,9],[0,1,2,3,4,5,6,7,8,9,10],[0,1,2,3,4,5,6,7,8,9,10,11],[0,1,2,3,4,5,6,7,8,9,10,11,12],[0,1,2,3,4,5,6,7,8,9,10,11,12,13],[0,1,2,3,4,5,6,7,8,9,10,11,12,13,14],[0,1,2,3,4,5,6,7,8,9,10,11,12,13],[0,1,2,3,4,5,6,7,8,9,10,11,12,13,16],[0,1,2,3,4,5,6,7,8,9,10,11,12,13,16,17],[0,1,2,3,4,5,6,7,8,9,10,11,12,13,14,15,16,17,18],[0,1,2,3,4,5,6,7,8,9,10,11,12,13,14,15,16,17,18,19],[0,1,2,3,4,5,6,7,8,9,10,11,12,13,14,15,16,17,18,19,20]] h (by kernel_rfl) (by kernel_rfl) (by kernel_rfl) ?_
          refine ao h (ai bC (h.ev rfl)) rfl ?_;intro f h
          refine aU (V:=vs) (am (aL.of_own s 0 rfl) 66 (bA _ _ _ _)) h bE rfl rfl ?_;intro f h
          refine ao h (a8 (hRs.keep s.ext) Tryz.underlying36 (h.ev rfl)) rfl ?_;intro f h
          refine ao h (aw (.bool false) (bU (h.ev rfl) (h.ev rfl)) (congrArg Value.bool (decide_eq_false (by have:=of_decide_eq_false t0;omega)))) rfl ?_;intro f h
          refine ao h (ag (h.ev rfl)) rfl ?_;intro f h
          refine aX (b:=true) h rfl rfl rfl rfl ?_;intro f h
          refine aX (b:=true) h rfl rfl rfl rfl ?_;intro f h
          refine aX (b:=true) h rfl rfl rfl rfl ?_;intro f h
          refine aX (b:=true) h rfl rfl rfl rfl ?_;intro f h
          refine aX (b:=true) h rfl rfl rfl rfl ?_;intro f h
          refine aX (b:=true) h rfl rfl rfl rfl ?_;intro f h
          refine aX (b:=true) h rfl rfl rfl rfl ?_;intro f h
          refine ao h (aF (h.ev rfl) (h.ev rfl)) rfl ?_;intro f h
          refine ao h (ag (h.ev rfl)) rfl ?_;intro f h
          refine aT h rfl rfl rfl ?_
          refine ao h (ai bC (h.ev rfl)) rfl ?_;intro f h
          refine aT h rfl rfl rfl ?_
          refine aU (V:=vs) (am (aL.of_own s 0 rfl) 66 (bA _ _ _ _)) h bE rfl rfl ?_;intro f h
          refine aT h rfl rfl rfl ?_
          refine ao h (ai aK (h.ev rfl)) rfl ?_;intro f h
          refine aT h rfl rfl rfl ?_
          refine ao h (ai aH (h.ev rfl)) rfl ?_;intro f h
          refine aT h rfl rfl rfl ?_
          refine aU (am (aL.of_own s 0 rfl) 0 (bZ _ _ _ _)) h bw rfl rfl ?_;intro f h
          refine aT h rfl rfl rfl ?_
          refine cn h kC (fun w9 hE9=>ea n.sc vs n.me.1 w9 (hRs.keep (s.ext.trans hE9)) hns) rfl rfl ?_;intro f h
          refine ao h (aF (h.ev rfl) (h.ev rfl)) rfl ?_;intro f h
          refine ao h (ak (h.ev rfl)) rfl ?_;intro f h
          refine ck s fun w1 s=>?_
          refine ah ?_
          refine hK9 _ _ ?_
          refine wpIn_ret ?_
          exact bo rfl h s rfl (by show _=_;rw [iK h0 (vj p0 p1 p2) (ki f0 f1),rh s0 s1 (by rintro ⟨h9,h8⟩;exact absurd h9 (of_decide_eq_false t0))])
         ·skip
          cases t1:(decide (n.sc.getD 0 aZ=n.me):Bool)
          ·skip
           refine bH 22 [[],[0],[0,1],[0,1,2],[0,1,2,3],[0,1,2,3,4],[0,1,2,3,4,5],[0,1,2,3,4,5,6],[0,1,2,3,4,5,6,7],[0,1,2,3,4],[0,1,2,3,4,9],[0,1,2,3,4,5,6,7,8,9,10],[0,1,2,3,4,5,6,7,8,9,10,11],[0,1,2,3,4,5,6,7,8,9,10,11,12],[0,1,2,3,4,5,6,7,8,9,10,11,12,13],[0,1,2,3,4,5,6,7,8,9,10,11,12,13,14],[0,1,2,3,4,5,6,7,8,9,10,11,12,13],[0,1,2,3,4,5,6,7,8,9,10,11,12,13,16],[0,1,2,3,4,5,6,7,8,9,10,11,12,13,16,17],[0,1,2,3,4,5,6,7,8,9,10,11,12,13,14,15,16,17,18],[0,1,2,3,4,5,6,7,8,9,10,11,12,13,14,15,16,17,18,19],[0,1,2,3,4,5,6,7,8,9,10,11,12,13,14,15,16,17,18,19,20]] h (by kernel_rfl) (by kernel_rfl) (by kernel_rfl) ?_
           refine ao h (ai bC (h.ev rfl)) rfl ?_;intro f h
           refine aU (V:=vs) (am (aL.of_own s 0 rfl) 66 (bA _ _ _ _)) h bE rfl rfl ?_;intro f h
           refine ao h (a8 (hRs.keep s.ext) Tryz.underlying36 (h.ev rfl)) rfl ?_;intro f h
           refine ao h (aw (.bool true) (bU (h.ev rfl) (h.ev rfl)) (congrArg Value.bool (decide_eq_true (by have:=of_decide_eq_true t0;omega)))) rfl ?_;intro f h
           refine ao h (ag (h.ev rfl)) rfl ?_;intro f h
           refine aT h rfl rfl rfl ?_
           refine ao h (ai bC (h.ev rfl)) rfl ?_;intro f h
           refine aT h rfl rfl rfl ?_
           refine aU (V:=vs) (am (aL.of_own s 0 rfl) 66 (bA _ _ _ _)) h bE rfl rfl ?_;intro f h
           refine aT h rfl rfl rfl ?_
           have h19:=of_decide_eq_true t0
           refine ao h (cc (hRs.keep s.ext) (0) Tryz.underlying36 cD (h.ev rfl) (h.ev rfl) (by omega) (by omega)) rfl ?_;intro f h
           refine aT h rfl rfl rfl ?_
           refine bi ((hRs.keep s.ext).el (0) (by omega) (by decide) (D:=av (n.sc.getD 0 aZ)) (cI n.sc 0 (by omega))) h aC rfl (aj _) rfl ?_;intro f h
           refine aT h rfl rfl rfl ?_
           refine ao h (ai aK (h.ev rfl)) rfl ?_;intro f h
           refine aT h rfl rfl rfl ?_
           refine bi (aL.subL (aL.of_own s 0 rfl) 0 33 (D:=av n.me) (bj _ _ _ _)) h aC rfl (aj _) rfl ?_;intro f h
           refine aT h rfl rfl rfl ?_
           refine ao h (aw (.bool false) (bW (eo _ _) (by kernel_rfl) (by decide) (h.ev rfl) (h.ev rfl) (decide (n.sc.getD 0 aZ=n.me)) (cR _ _)) (congrArg Value.bool t1)) rfl ?_;intro f h
           refine ao h (aD (h.ev rfl) (h.ev rfl)) rfl ?_;intro f h
           refine ao h (ag (h.ev rfl)) rfl ?_;intro f h
           refine aT h rfl rfl rfl ?_
           refine ao h (ai bC (h.ev rfl)) rfl ?_;intro f h
           refine aT h rfl rfl rfl ?_
           refine aU (V:=vs) (am (aL.of_own s 0 rfl) 66 (bA _ _ _ _)) h bE rfl rfl ?_;intro f h
           refine aT h rfl rfl rfl ?_
           refine ao h (ai aK (h.ev rfl)) rfl ?_;intro f h
           refine aT h rfl rfl rfl ?_
           refine ao h (ai aH (h.ev rfl)) rfl ?_;intro f h
           refine aT h rfl rfl rfl ?_
           refine aU (am (aL.of_own s 0 rfl) 0 (bZ _ _ _ _)) h bw rfl rfl ?_;intro f h
           refine aT h rfl rfl rfl ?_
           refine cn h kC (fun w9 hE9=>ea n.sc vs n.me.1 w9 (hRs.keep (s.ext.trans hE9)) hns) rfl rfl ?_;intro f h
           refine ao h (aF (h.ev rfl) (h.ev rfl)) rfl ?_;intro f h
           refine ao h (ak (h.ev rfl)) rfl ?_;intro f h
           refine ck s fun w1 s=>?_
           refine ah ?_
           refine hK9 _ _ ?_
           refine wpIn_ret ?_
           exact bo rfl h s rfl (by show _=_;rw [iK h0 (vj p0 p1 p2) (ki f0 f1),rh s0 s1 (by rintro ⟨h9,h8⟩;exact absurd h8 (of_decide_eq_false t1))])
          ·skip
           refine bH 22 [[],[0],[0,1],[0,1,2],[0,1,2,3],[0,1,2,3,4],[0,1,2,3,4,5],[0,1,2,3,4,5,6],[0,1,2,3,4,5,6,7],[0,1,2,3,4],[0,1,2,3,4,9],[0,1,2,3,4,5,6,7,8,9,10],[0,1,2,3,4,5,6,7,8,9,10,11],[0,1,2,3,4,5,6,7,8,9,10,11,12],[0,1,2,3,4,5,6,7,8,9,10,11,12,13],[0,1,2,3,4,5,6,7,8,9,10,11,12,13,14],[0,1,2,3,4,5,6,7,8,9,10,11,12,13],[0,1,2,3,4,5,6,7,8,9,10,11,12,13,16],[0,1,2,3,4,5,6,7,8,9,10,11,12,13,16,17],[0,1,2,3,4,5,6,7,8,9,10,11,12,13,14,15,16,17,18],[0,1,2,3,4,5,6,7,8,9,10,11,12,13,14,15,16,17,18,19],[0,1,2,3,4,5,6,7,8,9,10,11,12,13,14,15,16,17,18,19,20]] h (by kernel_rfl) (by kernel_rfl) (by kernel_rfl) ?_
           refine ao h (ai bC (h.ev rfl)) rfl ?_;intro f h
           refine aU (V:=vs) (am (aL.of_own s 0 rfl) 66 (bA _ _ _ _)) h bE rfl rfl ?_;intro f h
           refine ao h (a8 (hRs.keep s.ext) Tryz.underlying36 (h.ev rfl)) rfl ?_;intro f h
           refine ao h (aw (.bool true) (bU (h.ev rfl) (h.ev rfl)) (congrArg Value.bool (decide_eq_true (by have:=of_decide_eq_true t0;omega)))) rfl ?_;intro f h
           refine ao h (ag (h.ev rfl)) rfl ?_;intro f h
           refine aT h rfl rfl rfl ?_
           refine ao h (ai bC (h.ev rfl)) rfl ?_;intro f h
           refine aT h rfl rfl rfl ?_
           refine aU (V:=vs) (am (aL.of_own s 0 rfl) 66 (bA _ _ _ _)) h bE rfl rfl ?_;intro f h
           refine aT h rfl rfl rfl ?_
           have h19:=of_decide_eq_true t0
           refine ao h (cc (hRs.keep s.ext) (0) Tryz.underlying36 cD (h.ev rfl) (h.ev rfl) (by omega) (by omega)) rfl ?_;intro f h
           refine aT h rfl rfl rfl ?_
           refine bi ((hRs.keep s.ext).el (0) (by omega) (by decide) (D:=av (n.sc.getD 0 aZ)) (cI n.sc 0 (by omega))) h aC rfl (aj _) rfl ?_;intro f h
           refine aT h rfl rfl rfl ?_
           refine ao h (ai aK (h.ev rfl)) rfl ?_;intro f h
           refine aT h rfl rfl rfl ?_
           refine bi (aL.subL (aL.of_own s 0 rfl) 0 33 (D:=av n.me) (bj _ _ _ _)) h aC rfl (aj _) rfl ?_;intro f h
           refine aT h rfl rfl rfl ?_
           refine ao h (aw (.bool true) (bW (eo _ _) (by kernel_rfl) (by decide) (h.ev rfl) (h.ev rfl) (decide (n.sc.getD 0 aZ=n.me)) (cR _ _)) (congrArg Value.bool t1)) rfl ?_;intro f h
           refine ao h (aD (h.ev rfl) (h.ev rfl)) rfl ?_;intro f h
           refine ao h (ag (h.ev rfl)) rfl ?_;intro f h
           refine aX (b:=false) h rfl rfl rfl rfl ?_;intro f h
           refine aX (b:=false) h rfl rfl rfl rfl ?_;intro f h
           refine aX (b:=false) h rfl rfl rfl rfl ?_;intro f h
           refine aX (b:=false) h rfl rfl rfl rfl ?_;intro f h
           refine aX (b:=false) h rfl rfl rfl rfl ?_;intro f h
           refine aX (b:=false) h rfl rfl rfl rfl ?_;intro f h
           refine ao h (aD (h.ev rfl) (h.ev rfl)) rfl ?_;intro f h
           refine ao h (ak (h.ev rfl)) rfl ?_;intro f h
           refine ck s fun w1 s=>?_
           refine ah ?_
           refine hK9 _ _ ?_
           refine wpIn_ret ?_
           exact bo rfl h s rfl (by show _=_;rw [iK h0 (vj p0 p1 p2) (ki f0 f1),uC t0 t1])
       ·skip
        refine ae ?_
        refine ac h (ai bC (h.ev rfl)) rfl ?_;intro f h
        refine aq (V:=vs) (am (aL.of_own s 0 rfl) 66 (bA _ _ _ _)) h bE rfl rfl ?_;intro f h
        refine ac h (a8 (hRs.keep s.ext) Tryz.underlying36 (h.ev rfl)) rfl ?_;intro f h
        refine ac h (aw (.bool false) (bS (h.ev rfl) (h.ev rfl)) (congrArg Value.bool (decide_eq_false (by have:=of_decide_eq_false s0;omega)))) rfl ?_;intro f h
        refine ac h (ag (h.ev rfl)) rfl ?_;intro f h
        refine aA h rfl rfl rfl ?_
        refine ac h (ai bC (h.ev rfl)) rfl ?_;intro f h
        refine aA h rfl rfl rfl ?_
        refine aq (V:=vs) (am (aL.of_own s 0 rfl) 66 (bA _ _ _ _)) h bE rfl rfl ?_;intro f h
        refine aA h rfl rfl rfl ?_
        refine ac h (a8 (hRs.keep s.ext) Tryz.underlying36 (h.ev rfl)) rfl ?_;intro f h
        refine aA h rfl rfl rfl ?_
        refine ac h (aw (.bool false) (cY (h.ev rfl) (h.ev rfl)) (congrArg Value.bool (decide_eq_false (by have:=of_decide_eq_false s1;omega)))) rfl ?_;intro f h
        refine ac h (aF (h.ev rfl) (h.ev rfl)) rfl ?_;intro f h
        refine ac h (ag (h.ev rfl)) rfl ?_;intro f h
        refine aA h rfl rfl rfl ?_
        refine ac h (ai cP (h.ev rfl)) rfl ?_;intro f h
        refine aA h rfl rfl rfl ?_
        refine aq (V:=vf) (am (aL.of_own s 0 rfl) 67 (cO _ _ _ _)) h bE rfl rfl ?_;intro f h
        refine aA h rfl rfl rfl ?_
        refine ac h (a8 (hRf.keep s.ext) Tryz.underlying36 (h.ev rfl)) rfl ?_;intro f h
        refine aA h rfl rfl rfl ?_
        refine ac h (aw (.bool true) (cY (h.ev rfl) (h.ev rfl)) (congrArg Value.bool (decide_eq_true (by have:=of_decide_eq_true f0;omega)))) rfl ?_;intro f h
        refine ac h (aF (h.ev rfl) (h.ev rfl)) rfl ?_;intro f h
        refine ac h (ag (h.ev rfl)) rfl ?_;intro f h
        refine aB (b:=false) h rfl rfl rfl rfl ?_;intro f h
        refine aB (b:=false) h rfl rfl rfl rfl ?_;intro f h
        refine aB (b:=false) h rfl rfl rfl rfl ?_;intro f h
        refine aB (b:=false) h rfl rfl rfl rfl ?_;intro f h
        refine aB (b:=false) h rfl rfl rfl rfl ?_;intro f h
        refine aB (b:=false) h rfl rfl rfl rfl ?_;intro f h
        refine aB (b:=false) h rfl rfl rfl rfl ?_;intro f h
        refine ac h (aD (h.ev rfl) (h.ev rfl)) rfl ?_;intro f h
        refine ah ?_
        refine hK7 _ _ ?_
        refine wpIn_cond_true (h.ev rfl) ?_
        refine al fun K10 hK10=>?_
        refine ae ?_
        refine ac h (ak (h.ev rfl)) rfl ?_;intro f h
        refine ah ?_
        refine hK10 _ _ ?_
        refine wpIn_ret ?_
        refine aY ?_
        exact bo rfl h s rfl (by show _=_;rw [lz (uP f0)])
      ·skip
       refine ae ?_
       refine ac h (ai bC (h.ev rfl)) rfl ?_;intro f h
       refine aq (V:=vs) (am (aL.of_own s 0 rfl) 66 (bA _ _ _ _)) h bE rfl rfl ?_;intro f h
       refine ac h (a8 (hRs.keep s.ext) Tryz.underlying36 (h.ev rfl)) rfl ?_;intro f h
       refine ac h (aw (.bool false) (bS (h.ev rfl) (h.ev rfl)) (congrArg Value.bool (decide_eq_false (by have:=of_decide_eq_false s0;omega)))) rfl ?_;intro f h
       refine ac h (ag (h.ev rfl)) rfl ?_;intro f h
       refine aA h rfl rfl rfl ?_
       refine ac h (ai bC (h.ev rfl)) rfl ?_;intro f h
       refine aA h rfl rfl rfl ?_
       refine aq (V:=vs) (am (aL.of_own s 0 rfl) 66 (bA _ _ _ _)) h bE rfl rfl ?_;intro f h
       refine aA h rfl rfl rfl ?_
       refine ac h (a8 (hRs.keep s.ext) Tryz.underlying36 (h.ev rfl)) rfl ?_;intro f h
       refine aA h rfl rfl rfl ?_
       refine ac h (aw (.bool true) (cY (h.ev rfl) (h.ev rfl)) (congrArg Value.bool (decide_eq_true (by have:=of_decide_eq_true s1;omega)))) rfl ?_;intro f h
       refine ac h (aF (h.ev rfl) (h.ev rfl)) rfl ?_;intro f h
       refine ac h (ag (h.ev rfl)) rfl ?_;intro f h
       refine aB (b:=false) h rfl rfl rfl rfl ?_;intro f h
       refine aB (b:=false) h rfl rfl rfl rfl ?_;intro f h
       refine aB (b:=false) h rfl rfl rfl rfl ?_;intro f h
       refine aB (b:=false) h rfl rfl rfl rfl ?_;intro f h
       refine ac h (aD (h.ev rfl) (h.ev rfl)) rfl ?_;intro f h
       refine ac h (ag (h.ev rfl)) rfl ?_;intro f h
       refine aB (b:=false) h rfl rfl rfl rfl ?_;intro f h
       refine aB (b:=false) h rfl rfl rfl rfl ?_;intro f h
       refine aB (b:=false) h rfl rfl rfl rfl ?_;intro f h
       refine aB (b:=false) h rfl rfl rfl rfl ?_;intro f h
       refine aB (b:=false) h rfl rfl rfl rfl ?_;intro f h
       refine aB (b:=false) h rfl rfl rfl rfl ?_;intro f h
       refine aB (b:=false) h rfl rfl rfl rfl ?_;intro f h
       refine ac h (aD (h.ev rfl) (h.ev rfl)) rfl ?_;intro f h
       refine ah ?_
       refine hK7 _ _ ?_
       refine wpIn_cond_true (h.ev rfl) ?_
       refine al fun K11 hK11=>?_
       refine ae ?_
       refine ac h (ak (h.ev rfl)) rfl ?_;intro f h
       refine ah ?_
       refine hK11 _ _ ?_
       refine wpIn_ret ?_
       refine aY ?_
       exact bo rfl h s rfl (by show _=_;rw [jO (uE s1)])
     ·skip
      refine ae ?_
      refine ac h (ai bC (h.ev rfl)) rfl ?_;intro f h
      refine aq (V:=vs) (am (aL.of_own s 0 rfl) 66 (bA _ _ _ _)) h bE rfl rfl ?_;intro f h
      refine ac h (a8 (hRs.keep s.ext) Tryz.underlying36 (h.ev rfl)) rfl ?_;intro f h
      refine ac h (aw (.bool true) (bS (h.ev rfl) (h.ev rfl)) (congrArg Value.bool (decide_eq_true (by have:=of_decide_eq_true s0;omega)))) rfl ?_;intro f h
      refine ac h (ag (h.ev rfl)) rfl ?_;intro f h
      refine aB (b:=false) h rfl rfl rfl rfl ?_;intro f h
      refine aB (b:=false) h rfl rfl rfl rfl ?_;intro f h
      refine aB (b:=false) h rfl rfl rfl rfl ?_;intro f h
      refine aB (b:=false) h rfl rfl rfl rfl ?_;intro f h
      refine ac h (aD (h.ev rfl) (h.ev rfl)) rfl ?_;intro f h
      refine ac h (ag (h.ev rfl)) rfl ?_;intro f h
      refine aB (b:=false) h rfl rfl rfl rfl ?_;intro f h
      refine aB (b:=false) h rfl rfl rfl rfl ?_;intro f h
      refine aB (b:=false) h rfl rfl rfl rfl ?_;intro f h
      refine aB (b:=false) h rfl rfl rfl rfl ?_;intro f h
      refine ac h (aD (h.ev rfl) (h.ev rfl)) rfl ?_;intro f h
      refine ac h (ag (h.ev rfl)) rfl ?_;intro f h
      refine aB (b:=false) h rfl rfl rfl rfl ?_;intro f h
      refine aB (b:=false) h rfl rfl rfl rfl ?_;intro f h
      refine aB (b:=false) h rfl rfl rfl rfl ?_;intro f h
      refine aB (b:=false) h rfl rfl rfl rfl ?_;intro f h
      refine aB (b:=false) h rfl rfl rfl rfl ?_;intro f h
      refine aB (b:=false) h rfl rfl rfl rfl ?_;intro f h
      refine aB (b:=false) h rfl rfl rfl rfl ?_;intro f h
      refine ac h (aD (h.ev rfl) (h.ev rfl)) rfl ?_;intro f h
      refine ah ?_
      refine hK7 _ _ ?_
      refine wpIn_cond_true (h.ev rfl) ?_
      refine al fun K12 hK12=>?_
      refine ae ?_
      refine ac h (ak (h.ev rfl)) rfl ?_;intro f h
      refine ah ?_
      refine hK12 _ _ ?_
      refine wpIn_ret ?_
      refine aY ?_
      exact bo rfl h s rfl (by show _=_;rw [jO (u7 s0)])
    ·skip
     refine ae ?_
     refine ac h (ai aK (h.ev rfl)) rfl ?_;intro f h
     refine ax (aL.subL (aL.of_own s 0 rfl) 0 33 (D:=av n.me) (bj _ _ _ _)) h aC rfl (aj _) rfl ?_;intro f h
     refine aI h s ic (aM (.bool true) (d6 n.me _) (congrArg Value.bool h0)) rfl rfl ?_;intro f w1 v9 hT hE h s;obtain rfl:=hT
     refine ac h (aw (.bool false) (bB (h.ev rfl)) rfl) rfl ?_;intro f h
     refine ac h (ag (h.ev rfl)) rfl ?_;intro f h
     refine aA h rfl rfl rfl ?_
     refine ac h (ai aV (h.ev rfl)) rfl ?_;intro f h
     refine aA h rfl rfl rfl ?_
     refine ax (aL.subL (aL.of_own s 0 rfl) 33 33 (D:=av n.pr) (bc _ _ _ _)) h aC rfl (aj _) rfl ?_;intro f h
     refine aA h rfl rfl rfl ?_
     refine aI h s i9 (aM (.bool false) (dY n.pr _) (congrArg Value.bool p0)) rfl rfl ?_;intro f w1 v9 hT hE h s;obtain rfl:=hT
     refine aA h rfl rfl rfl ?_
     refine ac h (aw (.bool true) (bB (h.ev rfl)) rfl) rfl ?_;intro f h
     refine aA h rfl rfl rfl ?_
     refine ac h (ag (h.ev rfl)) rfl ?_;intro f h
     refine aA h rfl rfl rfl ?_
     refine ac h (ai aV (h.ev rfl)) rfl ?_;intro f h
     refine aA h rfl rfl rfl ?_
     refine ax (aL.subL (aL.of_own s 0 rfl) 33 33 (D:=av n.pr) (bc _ _ _ _)) h aC rfl (aj _) rfl ?_;intro f h
     refine aA h rfl rfl rfl ?_
     refine aI h s ic (aM (.bool true) (d6 n.pr _) (congrArg Value.bool p1)) rfl rfl ?_;intro f w1 v9 hT hE h s;obtain rfl:=hT
     refine aA h rfl rfl rfl ?_
     refine ac h (aw (.bool false) (bB (h.ev rfl)) rfl) rfl ?_;intro f h
     refine aA h rfl rfl rfl ?_
     refine ac h (ag (h.ev rfl)) rfl ?_;intro f h
     refine aA h rfl rfl rfl ?_
     refine ac h (ai aV (h.ev rfl)) rfl ?_;intro f h
     refine aA h rfl rfl rfl ?_
     refine ac h (ai aH (h.ev rfl)) rfl ?_;intro f h
     refine aA h rfl rfl rfl ?_
     refine aq (am (aL.of_own s 0 rfl) 33 (cF _ _ _ _)) h bw rfl rfl ?_;intro f h
     refine aA h rfl rfl rfl ?_
     refine ac h (ai aK (h.ev rfl)) rfl ?_;intro f h
     refine aA h rfl rfl rfl ?_
     refine ac h (ai aH (h.ev rfl)) rfl ?_;intro f h
     refine aA h rfl rfl rfl ?_
     refine aq (am (aL.of_own s 0 rfl) 0 (bZ _ _ _ _)) h bw rfl rfl ?_;intro f h
     refine aA h rfl rfl rfl ?_
     refine ac h (aw (.bool true) (bU (h.ev rfl) (h.ev rfl)) (congrArg Value.bool p2)) rfl ?_;intro f h
     refine aA h rfl rfl rfl ?_
     refine ac h (aF (h.ev rfl) (h.ev rfl)) rfl ?_;intro f h
     refine aA h rfl rfl rfl ?_
     refine ac h (aD (h.ev rfl) (h.ev rfl)) rfl ?_;intro f h
     refine ac h (aF (h.ev rfl) (h.ev rfl)) rfl ?_;intro f h
     refine ah ?_
     refine hK3 _ _ ?_
     refine wpIn_cond_true (h.ev rfl) ?_
     refine al fun K13 hK13=>?_
     refine ae ?_
     refine ac h (ak (h.ev rfl)) rfl ?_;intro f h
     refine ah ?_
     refine hK13 _ _ ?_
     refine wpIn_ret ?_
     refine aY ?_
     exact bo rfl h s rfl (by show _=_;rw [nU (Cf p0 p1 p2)])
  ·skip
   refine ae ?_
   refine ac h (ai aK (h.ev rfl)) rfl ?_;intro f h
   refine ax (aL.subL (aL.of_own s 0 rfl) 0 33 (D:=av n.me) (bj _ _ _ _)) h aC rfl (aj _) rfl ?_;intro f h
   refine aI h s ic (aM (.bool true) (d6 n.me _) (congrArg Value.bool h0)) rfl rfl ?_;intro f w1 v9 hT hE h s;obtain rfl:=hT
   refine ac h (aw (.bool false) (bB (h.ev rfl)) rfl) rfl ?_;intro f h
   refine ac h (ag (h.ev rfl)) rfl ?_;intro f h
   refine aA h rfl rfl rfl ?_
   refine ac h (ai aV (h.ev rfl)) rfl ?_;intro f h
   refine aA h rfl rfl rfl ?_
   refine ax (aL.subL (aL.of_own s 0 rfl) 33 33 (D:=av n.pr) (bc _ _ _ _)) h aC rfl (aj _) rfl ?_;intro f h
   refine aA h rfl rfl rfl ?_
   refine aI h s i9 (aM (.bool true) (dY n.pr _) (congrArg Value.bool p0)) rfl rfl ?_;intro f w1 v9 hT hE h s;obtain rfl:=hT
   refine aA h rfl rfl rfl ?_
   refine ac h (aw (.bool false) (bB (h.ev rfl)) rfl) rfl ?_;intro f h
   refine aA h rfl rfl rfl ?_
   refine ac h (ag (h.ev rfl)) rfl ?_;intro f h
   refine aB (b:=true) h rfl rfl rfl rfl ?_;intro f h
   refine aB (b:=true) h rfl rfl rfl rfl ?_;intro f h
   refine aB (b:=true) h rfl rfl rfl rfl ?_;intro f h
   refine aB (b:=true) h rfl rfl rfl rfl ?_;intro f h
   refine aB (b:=true) h rfl rfl rfl rfl ?_;intro f h
   refine dp h rfl rfl rfl rfl ?_;intro f h
   refine dp h rfl rfl rfl rfl ?_;intro f h
   refine dp h rfl rfl rfl rfl ?_;intro f h
   refine dp h rfl rfl rfl rfl ?_;intro f h
   refine dp h rfl rfl rfl rfl ?_;intro f h
   refine dp h rfl rfl rfl rfl ?_;intro f h
   refine dp h rfl rfl rfl rfl ?_;intro f h
   refine aB (b:=true) h rfl rfl rfl rfl ?_;intro f h
   refine aA h rfl rfl rfl ?_
   refine ac h (aF (h.ev rfl) (h.ev rfl)) rfl ?_;intro f h
   refine ac h (aF (h.ev rfl) (h.ev rfl)) rfl ?_;intro f h
   refine ah ?_
   refine hK3 _ _ ?_
   refine wpIn_cond_false (h.ev rfl) ?_
   refine wpIn_skip ?_
   refine hK2 _ _ ?_
   refine al fun K14 hK14=>?_
   refine al fun K15 hK15=>?_
   cases s0:(decide (n.sc.length<1):Bool)
   ·skip
    cases s1:(decide (4<n.sc.length):Bool)
    ·skip
     cases f0:(decide (16<n.fg.length):Bool)
     ·skip
      cases f1:(iv n.fg n.me.1:Bool)
      ·skip
       refine ae ?_
       refine ac h (ai bC (h.ev rfl)) rfl ?_;intro f h
       refine aq (V:=vs) (am (aL.of_own s 0 rfl) 66 (bA _ _ _ _)) h bE rfl rfl ?_;intro f h
       refine ac h (a8 (hRs.keep s.ext) Tryz.underlying36 (h.ev rfl)) rfl ?_;intro f h
       refine ac h (aw (.bool false) (bS (h.ev rfl) (h.ev rfl)) (congrArg Value.bool (decide_eq_false (by have:=of_decide_eq_false s0;omega)))) rfl ?_;intro f h
       refine ac h (ag (h.ev rfl)) rfl ?_;intro f h
       refine aA h rfl rfl rfl ?_
       refine ac h (ai bC (h.ev rfl)) rfl ?_;intro f h
       refine aA h rfl rfl rfl ?_
       refine aq (V:=vs) (am (aL.of_own s 0 rfl) 66 (bA _ _ _ _)) h bE rfl rfl ?_;intro f h
       refine aA h rfl rfl rfl ?_
       refine ac h (a8 (hRs.keep s.ext) Tryz.underlying36 (h.ev rfl)) rfl ?_;intro f h
       refine aA h rfl rfl rfl ?_
       refine ac h (aw (.bool false) (cY (h.ev rfl) (h.ev rfl)) (congrArg Value.bool (decide_eq_false (by have:=of_decide_eq_false s1;omega)))) rfl ?_;intro f h
       refine ac h (aF (h.ev rfl) (h.ev rfl)) rfl ?_;intro f h
       refine ac h (ag (h.ev rfl)) rfl ?_;intro f h
       refine aA h rfl rfl rfl ?_
       refine ac h (ai cP (h.ev rfl)) rfl ?_;intro f h
       refine aA h rfl rfl rfl ?_
       refine aq (V:=vf) (am (aL.of_own s 0 rfl) 67 (cO _ _ _ _)) h bE rfl rfl ?_;intro f h
       refine aA h rfl rfl rfl ?_
       refine ac h (a8 (hRf.keep s.ext) Tryz.underlying36 (h.ev rfl)) rfl ?_;intro f h
       refine aA h rfl rfl rfl ?_
       refine ac h (aw (.bool false) (cY (h.ev rfl) (h.ev rfl)) (congrArg Value.bool (decide_eq_false (by have:=of_decide_eq_false f0;omega)))) rfl ?_;intro f h
       refine ac h (aF (h.ev rfl) (h.ev rfl)) rfl ?_;intro f h
       refine ac h (ag (h.ev rfl)) rfl ?_;intro f h
       refine aA h rfl rfl rfl ?_
       refine ac h (ai cP (h.ev rfl)) rfl ?_;intro f h
       refine aA h rfl rfl rfl ?_
       refine aq (V:=vf) (am (aL.of_own s 0 rfl) 67 (cO _ _ _ _)) h bE rfl rfl ?_;intro f h
       refine aA h rfl rfl rfl ?_
       refine ac h (ai aK (h.ev rfl)) rfl ?_;intro f h
       refine aA h rfl rfl rfl ?_
       refine ac h (ai aH (h.ev rfl)) rfl ?_;intro f h
       refine aA h rfl rfl rfl ?_
       refine aq (am (aL.of_own s 0 rfl) 0 (bZ _ _ _ _)) h bw rfl rfl ?_;intro f h
       refine aA h rfl rfl rfl ?_
       refine aI h s kC (aM (.bool false) (ea n.fg vf n.me.1 _ (hRf.keep s.ext) hnf) (congrArg Value.bool f1)) rfl rfl ?_;intro f w1 v9 hT hE h s;obtain rfl:=hT
       refine aA h rfl rfl rfl ?_
       refine ac h (aw (.bool true) (bB (h.ev rfl)) rfl) rfl ?_;intro f h
       refine ac h (aF (h.ev rfl) (h.ev rfl)) rfl ?_;intro f h
       refine ah ?_
       refine hK15 _ _ ?_
       refine wpIn_cond_true (h.ev rfl) ?_
       refine al fun K16 hK16=>?_
       refine ae ?_
       refine ac h (ak (h.ev rfl)) rfl ?_;intro f h
       refine ah ?_
       refine hK16 _ _ ?_
       refine wpIn_ret ?_
       refine aY ?_
       exact bo rfl h s rfl (by show _=_;rw [lz (vF f1)])
      ·skip
       refine ae ?_
       refine ac h (ai bC (h.ev rfl)) rfl ?_;intro f h
       refine aq (V:=vs) (am (aL.of_own s 0 rfl) 66 (bA _ _ _ _)) h bE rfl rfl ?_;intro f h
       refine ac h (a8 (hRs.keep s.ext) Tryz.underlying36 (h.ev rfl)) rfl ?_;intro f h
       refine ac h (aw (.bool false) (bS (h.ev rfl) (h.ev rfl)) (congrArg Value.bool (decide_eq_false (by have:=of_decide_eq_false s0;omega)))) rfl ?_;intro f h
       refine ac h (ag (h.ev rfl)) rfl ?_;intro f h
       refine aA h rfl rfl rfl ?_
       refine ac h (ai bC (h.ev rfl)) rfl ?_;intro f h
       refine aA h rfl rfl rfl ?_
       refine aq (V:=vs) (am (aL.of_own s 0 rfl) 66 (bA _ _ _ _)) h bE rfl rfl ?_;intro f h
       refine aA h rfl rfl rfl ?_
       refine ac h (a8 (hRs.keep s.ext) Tryz.underlying36 (h.ev rfl)) rfl ?_;intro f h
       refine aA h rfl rfl rfl ?_
       refine ac h (aw (.bool false) (cY (h.ev rfl) (h.ev rfl)) (congrArg Value.bool (decide_eq_false (by have:=of_decide_eq_false s1;omega)))) rfl ?_;intro f h
       refine ac h (aF (h.ev rfl) (h.ev rfl)) rfl ?_;intro f h
       refine ac h (ag (h.ev rfl)) rfl ?_;intro f h
       refine aA h rfl rfl rfl ?_
       refine ac h (ai cP (h.ev rfl)) rfl ?_;intro f h
       refine aA h rfl rfl rfl ?_
       refine aq (V:=vf) (am (aL.of_own s 0 rfl) 67 (cO _ _ _ _)) h bE rfl rfl ?_;intro f h
       refine aA h rfl rfl rfl ?_
       refine ac h (a8 (hRf.keep s.ext) Tryz.underlying36 (h.ev rfl)) rfl ?_;intro f h
       refine aA h rfl rfl rfl ?_
       refine ac h (aw (.bool false) (cY (h.ev rfl) (h.ev rfl)) (congrArg Value.bool (decide_eq_false (by have:=of_decide_eq_false f0;omega)))) rfl ?_;intro f h
       refine ac h (aF (h.ev rfl) (h.ev rfl)) rfl ?_;intro f h
       refine ac h (ag (h.ev rfl)) rfl ?_;intro f h
       refine aA h rfl rfl rfl ?_
       refine ac h (ai cP (h.ev rfl)) rfl ?_;intro f h
       refine aA h rfl rfl rfl ?_
       refine aq (V:=vf) (am (aL.of_own s 0 rfl) 67 (cO _ _ _ _)) h bE rfl rfl ?_;intro f h
       refine aA h rfl rfl rfl ?_
       refine ac h (ai aK (h.ev rfl)) rfl ?_;intro f h
       refine aA h rfl rfl rfl ?_
       refine ac h (ai aH (h.ev rfl)) rfl ?_;intro f h
       refine aA h rfl rfl rfl ?_
       refine aq (am (aL.of_own s 0 rfl) 0 (bZ _ _ _ _)) h bw rfl rfl ?_;intro f h
       refine aA h rfl rfl rfl ?_
       refine aI h s kC (aM (.bool true) (ea n.fg vf n.me.1 _ (hRf.keep s.ext) hnf) (congrArg Value.bool f1)) rfl rfl ?_;intro f w1 v9 hT hE h s;obtain rfl:=hT
       refine aA h rfl rfl rfl ?_
       refine ac h (aw (.bool false) (bB (h.ev rfl)) rfl) rfl ?_;intro f h
       refine ac h (aF (h.ev rfl) (h.ev rfl)) rfl ?_;intro f h
       refine ah ?_
       refine hK15 _ _ ?_
       refine wpIn_cond_false (h.ev rfl) ?_
       refine wpIn_skip ?_
       refine hK14 _ _ ?_
       refine al fun K17 hK17=>?_
       cases t0:(decide (n.sc.length=1):Bool)
       ·skip
        refine bH 22 [[],[0],[0,1],[0,1,2],[0,1,2,3],[0,1,2,3,4],[0,1,2,3,4,5],[0,1,2,3,4,5,6],[0,1,2,3,4,5,6,7],[0,1,2,3,4],[0,1,2,3,4,9],[0,1,2,3,4,5,6,7,8,9,10],[0,1,2,3,4,5,6,7,8,9,10,11],[0,1,2,3,4,5,6,7,8,9,10,11,12],[0,1,2,3,4,5,6,7,8,9,10,11,12,13],[0,1,2,3,4,5,6,7,8,9,10,11,12,13,14],[0,1,2,3,4,5,6,7,8,9,10,11,12,13],[0,1,2,3,4,5,6,7,8,9,10,11,12,13,16],[0,1,2,3,4,5,6,7,8,9,10,11,12,13,16,17],[0,1,2,3,4,5,6,7,8,9,10,11,12,13,14,15,16,17,18],[0,1,2,3,4,5,6,7,8,9,10,11,12,13,14,15,16,17,18,19],[0,1,2,3,4,5,6,7,8,9,10,11,12,13,14,15,16,17,18,19,20]] h (by kernel_rfl) (by kernel_rfl) (by kernel_rfl) ?_
        refine ao h (ai bC (h.ev rfl)) rfl ?_;intro f h
        refine aU (V:=vs) (am (aL.of_own s 0 rfl) 66 (bA _ _ _ _)) h bE rfl rfl ?_;intro f h
        refine ao h (a8 (hRs.keep s.ext) Tryz.underlying36 (h.ev rfl)) rfl ?_;intro f h
        refine ao h (aw (.bool false) (bU (h.ev rfl) (h.ev rfl)) (congrArg Value.bool (decide_eq_false (by have:=of_decide_eq_false t0;omega)))) rfl ?_;intro f h
        refine ao h (ag (h.ev rfl)) rfl ?_;intro f h
        refine aX (b:=true) h rfl rfl rfl rfl ?_;intro f h
        refine aX (b:=true) h rfl rfl rfl rfl ?_;intro f h
        refine aX (b:=true) h rfl rfl rfl rfl ?_;intro f h
        refine aX (b:=true) h rfl rfl rfl rfl ?_;intro f h
        refine aX (b:=true) h rfl rfl rfl rfl ?_;intro f h
        refine aX (b:=true) h rfl rfl rfl rfl ?_;intro f h
        refine aX (b:=true) h rfl rfl rfl rfl ?_;intro f h
        refine ao h (aF (h.ev rfl) (h.ev rfl)) rfl ?_;intro f h
        refine ao h (ag (h.ev rfl)) rfl ?_;intro f h
        refine aT h rfl rfl rfl ?_
        refine ao h (ai bC (h.ev rfl)) rfl ?_;intro f h
        refine aT h rfl rfl rfl ?_
        refine aU (V:=vs) (am (aL.of_own s 0 rfl) 66 (bA _ _ _ _)) h bE rfl rfl ?_;intro f h
        refine aT h rfl rfl rfl ?_
        refine ao h (ai aK (h.ev rfl)) rfl ?_;intro f h
        refine aT h rfl rfl rfl ?_
        refine ao h (ai aH (h.ev rfl)) rfl ?_;intro f h
        refine aT h rfl rfl rfl ?_
        refine aU (am (aL.of_own s 0 rfl) 0 (bZ _ _ _ _)) h bw rfl rfl ?_;intro f h
        refine aT h rfl rfl rfl ?_
        refine cn h kC (fun w9 hE9=>ea n.sc vs n.me.1 w9 (hRs.keep (s.ext.trans hE9)) hns) rfl rfl ?_;intro f h
        refine ao h (aF (h.ev rfl) (h.ev rfl)) rfl ?_;intro f h
        refine ao h (ak (h.ev rfl)) rfl ?_;intro f h
        refine ck s fun w1 s=>?_
        refine ah ?_
        refine hK17 _ _ ?_
        refine wpIn_ret ?_
        exact bo rfl h s rfl (by show _=_;rw [iK h0 (se p0) (ki f0 f1),rh s0 s1 (by rintro ⟨h9,h8⟩;exact absurd h9 (of_decide_eq_false t0))])
       ·skip
        cases t1:(decide (n.sc.getD 0 aZ=n.me):Bool)
        ·skip
         refine bH 22 [[],[0],[0,1],[0,1,2],[0,1,2,3],[0,1,2,3,4],[0,1,2,3,4,5],[0,1,2,3,4,5,6],[0,1,2,3,4,5,6,7],[0,1,2,3,4],[0,1,2,3,4,9],[0,1,2,3,4,5,6,7,8,9,10],[0,1,2,3,4,5,6,7,8,9,10,11],[0,1,2,3,4,5,6,7,8,9,10,11,12],[0,1,2,3,4,5,6,7,8,9,10,11,12,13],[0,1,2,3,4,5,6,7,8,9,10,11,12,13,14],[0,1,2,3,4,5,6,7,8,9,10,11,12,13],[0,1,2,3,4,5,6,7,8,9,10,11,12,13,16],[0,1,2,3,4,5,6,7,8,9,10,11,12,13,16,17],[0,1,2,3,4,5,6,7,8,9,10,11,12,13,14,15,16,17,18],[0,1,2,3,4,5,6,7,8,9,10,11,12,13,14,15,16,17,18,19],[0,1,2,3,4,5,6,7,8,9,10,11,12,13,14,15,16,17,18,19,20]] h (by kernel_rfl) (by kernel_rfl) (by kernel_rfl) ?_
         refine ao h (ai bC (h.ev rfl)) rfl ?_;intro f h
         refine aU (V:=vs) (am (aL.of_own s 0 rfl) 66 (bA _ _ _ _)) h bE rfl rfl ?_;intro f h
         refine ao h (a8 (hRs.keep s.ext) Tryz.underlying36 (h.ev rfl)) rfl ?_;intro f h
         refine ao h (aw (.bool true) (bU (h.ev rfl) (h.ev rfl)) (congrArg Value.bool (decide_eq_true (by have:=of_decide_eq_true t0;omega)))) rfl ?_;intro f h
         refine ao h (ag (h.ev rfl)) rfl ?_;intro f h
         refine aT h rfl rfl rfl ?_
         refine ao h (ai bC (h.ev rfl)) rfl ?_;intro f h
         refine aT h rfl rfl rfl ?_
         refine aU (V:=vs) (am (aL.of_own s 0 rfl) 66 (bA _ _ _ _)) h bE rfl rfl ?_;intro f h
         refine aT h rfl rfl rfl ?_
         have h19:=of_decide_eq_true t0
         refine ao h (cc (hRs.keep s.ext) (0) Tryz.underlying36 cD (h.ev rfl) (h.ev rfl) (by omega) (by omega)) rfl ?_;intro f h
         refine aT h rfl rfl rfl ?_
         refine bi ((hRs.keep s.ext).el (0) (by omega) (by decide) (D:=av (n.sc.getD 0 aZ)) (cI n.sc 0 (by omega))) h aC rfl (aj _) rfl ?_;intro f h
         refine aT h rfl rfl rfl ?_
         refine ao h (ai aK (h.ev rfl)) rfl ?_;intro f h
         refine aT h rfl rfl rfl ?_
         refine bi (aL.subL (aL.of_own s 0 rfl) 0 33 (D:=av n.me) (bj _ _ _ _)) h aC rfl (aj _) rfl ?_;intro f h
         refine aT h rfl rfl rfl ?_
         refine ao h (aw (.bool false) (bW (eo _ _) (by kernel_rfl) (by decide) (h.ev rfl) (h.ev rfl) (decide (n.sc.getD 0 aZ=n.me)) (cR _ _)) (congrArg Value.bool t1)) rfl ?_;intro f h
         refine ao h (aD (h.ev rfl) (h.ev rfl)) rfl ?_;intro f h
         refine ao h (ag (h.ev rfl)) rfl ?_;intro f h
         refine aT h rfl rfl rfl ?_
         refine ao h (ai bC (h.ev rfl)) rfl ?_;intro f h
         refine aT h rfl rfl rfl ?_
         refine aU (V:=vs) (am (aL.of_own s 0 rfl) 66 (bA _ _ _ _)) h bE rfl rfl ?_;intro f h
         refine aT h rfl rfl rfl ?_
         refine ao h (ai aK (h.ev rfl)) rfl ?_;intro f h
         refine aT h rfl rfl rfl ?_
         refine ao h (ai aH (h.ev rfl)) rfl ?_;intro f h
         refine aT h rfl rfl rfl ?_
         refine aU (am (aL.of_own s 0 rfl) 0 (bZ _ _ _ _)) h bw rfl rfl ?_;intro f h
         refine aT h rfl rfl rfl ?_
         refine cn h kC (fun w9 hE9=>ea n.sc vs n.me.1 w9 (hRs.keep (s.ext.trans hE9)) hns) rfl rfl ?_;intro f h
         refine ao h (aF (h.ev rfl) (h.ev rfl)) rfl ?_;intro f h
         refine ao h (ak (h.ev rfl)) rfl ?_;intro f h
         refine ck s fun w1 s=>?_
         refine ah ?_
         refine hK17 _ _ ?_
         refine wpIn_ret ?_
         exact bo rfl h s rfl (by show _=_;rw [iK h0 (se p0) (ki f0 f1),rh s0 s1 (by rintro ⟨h9,h8⟩;exact absurd h8 (of_decide_eq_false t1))])
        ·skip
         refine bH 22 [[],[0],[0,1],[0,1,2],[0,1,2,3],[0,1,2,3,4],[0,1,2,3,4,5],[0,1,2,3,4,5,6],[0,1,2,3,4,5,6,7],[0,1,2,3,4],[0,1,2,3,4,9],[0,1,2,3,4,5,6,7,8,9,10],[0,1,2,3,4,5,6,7,8,9,10,11],[0,1,2,3,4,5,6,7,8,9,10,11,12],[0,1,2,3,4,5,6,7,8,9,10,11,12,13],[0,1,2,3,4,5,6,7,8,9,10,11,12,13,14],[0,1,2,3,4,5,6,7,8,9,10,11,12,13],[0,1,2,3,4,5,6,7,8,9,10,11,12,13,16],[0,1,2,3,4,5,6,7,8,9,10,11,12,13,16,17],[0,1,2,3,4,5,6,7,8,9,10,11,12,13,14,15,16,17,18],[0,1,2,3,4,5,6,7,8,9,10,11,12,13,14,15,16,17,18,19],[0,1,2,3,4,5,6,7,8,9,10,11,12,13,14,15,16,17,18,19,20]] h (by kernel_rfl) (by kernel_rfl) (by kernel_rfl) ?_
         refine ao h (ai bC (h.ev rfl)) rfl ?_;intro f h
         refine aU (V:=vs) (am (aL.of_own s 0 rfl) 66 (bA _ _ _ _)) h bE rfl rfl ?_;intro f h
         refine ao h (a8 (hRs.keep s.ext) Tryz.underlying36 (h.ev rfl)) rfl ?_;intro f h
         refine ao h (aw (.bool true) (bU (h.ev rfl) (h.ev rfl)) (congrArg Value.bool (decide_eq_true (by have:=of_decide_eq_true t0;omega)))) rfl ?_;intro f h
         refine ao h (ag (h.ev rfl)) rfl ?_;intro f h
         refine aT h rfl rfl rfl ?_
         refine ao h (ai bC (h.ev rfl)) rfl ?_;intro f h
         refine aT h rfl rfl rfl ?_
         refine aU (V:=vs) (am (aL.of_own s 0 rfl) 66 (bA _ _ _ _)) h bE rfl rfl ?_;intro f h
         refine aT h rfl rfl rfl ?_
         have h19:=of_decide_eq_true t0
         refine ao h (cc (hRs.keep s.ext) (0) Tryz.underlying36 cD (h.ev rfl) (h.ev rfl) (by omega) (by omega)) rfl ?_;intro f h
         refine aT h rfl rfl rfl ?_
         refine bi ((hRs.keep s.ext).el (0) (by omega) (by decide) (D:=av (n.sc.getD 0 aZ)) (cI n.sc 0 (by omega))) h aC rfl (aj _) rfl ?_;intro f h
         refine aT h rfl rfl rfl ?_
         refine ao h (ai aK (h.ev rfl)) rfl ?_;intro f h
         refine aT h rfl rfl rfl ?_
         refine bi (aL.subL (aL.of_own s 0 rfl) 0 33 (D:=av n.me) (bj _ _ _ _)) h aC rfl (aj _) rfl ?_;intro f h
         refine aT h rfl rfl rfl ?_
         refine ao h (aw (.bool true) (bW (eo _ _) (by kernel_rfl) (by decide) (h.ev rfl) (h.ev rfl) (decide (n.sc.getD 0 aZ=n.me)) (cR _ _)) (congrArg Value.bool t1)) rfl ?_;intro f h
         refine ao h (aD (h.ev rfl) (h.ev rfl)) rfl ?_;intro f h
         refine ao h (ag (h.ev rfl)) rfl ?_;intro f h
         refine aX (b:=false) h rfl rfl rfl rfl ?_;intro f h
         refine aX (b:=false) h rfl rfl rfl rfl ?_;intro f h
         refine aX (b:=false) h rfl rfl rfl rfl ?_;intro f h
         refine aX (b:=false) h rfl rfl rfl rfl ?_;intro f h
         refine aX (b:=false) h rfl rfl rfl rfl ?_;intro f h
         refine aX (b:=false) h rfl rfl rfl rfl ?_;intro f h
         refine ao h (aD (h.ev rfl) (h.ev rfl)) rfl ?_;intro f h
         refine ao h (ak (h.ev rfl)) rfl ?_;intro f h
         refine ck s fun w1 s=>?_
         refine ah ?_
         refine hK17 _ _ ?_
         refine wpIn_ret ?_
         exact bo rfl h s rfl (by show _=_;rw [iK h0 (se p0) (ki f0 f1),uC t0 t1])
     ·skip
      refine ae ?_
      refine ac h (ai bC (h.ev rfl)) rfl ?_;intro f h
      refine aq (V:=vs) (am (aL.of_own s 0 rfl) 66 (bA _ _ _ _)) h bE rfl rfl ?_;intro f h
      refine ac h (a8 (hRs.keep s.ext) Tryz.underlying36 (h.ev rfl)) rfl ?_;intro f h
      refine ac h (aw (.bool false) (bS (h.ev rfl) (h.ev rfl)) (congrArg Value.bool (decide_eq_false (by have:=of_decide_eq_false s0;omega)))) rfl ?_;intro f h
      refine ac h (ag (h.ev rfl)) rfl ?_;intro f h
      refine aA h rfl rfl rfl ?_
      refine ac h (ai bC (h.ev rfl)) rfl ?_;intro f h
      refine aA h rfl rfl rfl ?_
      refine aq (V:=vs) (am (aL.of_own s 0 rfl) 66 (bA _ _ _ _)) h bE rfl rfl ?_;intro f h
      refine aA h rfl rfl rfl ?_
      refine ac h (a8 (hRs.keep s.ext) Tryz.underlying36 (h.ev rfl)) rfl ?_;intro f h
      refine aA h rfl rfl rfl ?_
      refine ac h (aw (.bool false) (cY (h.ev rfl) (h.ev rfl)) (congrArg Value.bool (decide_eq_false (by have:=of_decide_eq_false s1;omega)))) rfl ?_;intro f h
      refine ac h (aF (h.ev rfl) (h.ev rfl)) rfl ?_;intro f h
      refine ac h (ag (h.ev rfl)) rfl ?_;intro f h
      refine aA h rfl rfl rfl ?_
      refine ac h (ai cP (h.ev rfl)) rfl ?_;intro f h
      refine aA h rfl rfl rfl ?_
      refine aq (V:=vf) (am (aL.of_own s 0 rfl) 67 (cO _ _ _ _)) h bE rfl rfl ?_;intro f h
      refine aA h rfl rfl rfl ?_
      refine ac h (a8 (hRf.keep s.ext) Tryz.underlying36 (h.ev rfl)) rfl ?_;intro f h
      refine aA h rfl rfl rfl ?_
      refine ac h (aw (.bool true) (cY (h.ev rfl) (h.ev rfl)) (congrArg Value.bool (decide_eq_true (by have:=of_decide_eq_true f0;omega)))) rfl ?_;intro f h
      refine ac h (aF (h.ev rfl) (h.ev rfl)) rfl ?_;intro f h
      refine ac h (ag (h.ev rfl)) rfl ?_;intro f h
      refine aB (b:=false) h rfl rfl rfl rfl ?_;intro f h
      refine aB (b:=false) h rfl rfl rfl rfl ?_;intro f h
      refine aB (b:=false) h rfl rfl rfl rfl ?_;intro f h
      refine aB (b:=false) h rfl rfl rfl rfl ?_;intro f h
      refine aB (b:=false) h rfl rfl rfl rfl ?_;intro f h
      refine aB (b:=false) h rfl rfl rfl rfl ?_;intro f h
      refine aB (b:=false) h rfl rfl rfl rfl ?_;intro f h
      refine ac h (aD (h.ev rfl) (h.ev rfl)) rfl ?_;intro f h
      refine ah ?_
      refine hK15 _ _ ?_
      refine wpIn_cond_true (h.ev rfl) ?_
      refine al fun K18 hK18=>?_
      refine ae ?_
      refine ac h (ak (h.ev rfl)) rfl ?_;intro f h
      refine ah ?_
      refine hK18 _ _ ?_
      refine wpIn_ret ?_
      refine aY ?_
      exact bo rfl h s rfl (by show _=_;rw [lz (uP f0)])
    ·skip
     refine ae ?_
     refine ac h (ai bC (h.ev rfl)) rfl ?_;intro f h
     refine aq (V:=vs) (am (aL.of_own s 0 rfl) 66 (bA _ _ _ _)) h bE rfl rfl ?_;intro f h
     refine ac h (a8 (hRs.keep s.ext) Tryz.underlying36 (h.ev rfl)) rfl ?_;intro f h
     refine ac h (aw (.bool false) (bS (h.ev rfl) (h.ev rfl)) (congrArg Value.bool (decide_eq_false (by have:=of_decide_eq_false s0;omega)))) rfl ?_;intro f h
     refine ac h (ag (h.ev rfl)) rfl ?_;intro f h
     refine aA h rfl rfl rfl ?_
     refine ac h (ai bC (h.ev rfl)) rfl ?_;intro f h
     refine aA h rfl rfl rfl ?_
     refine aq (V:=vs) (am (aL.of_own s 0 rfl) 66 (bA _ _ _ _)) h bE rfl rfl ?_;intro f h
     refine aA h rfl rfl rfl ?_
     refine ac h (a8 (hRs.keep s.ext) Tryz.underlying36 (h.ev rfl)) rfl ?_;intro f h
     refine aA h rfl rfl rfl ?_
     refine ac h (aw (.bool true) (cY (h.ev rfl) (h.ev rfl)) (congrArg Value.bool (decide_eq_true (by have:=of_decide_eq_true s1;omega)))) rfl ?_;intro f h
     refine ac h (aF (h.ev rfl) (h.ev rfl)) rfl ?_;intro f h
     refine ac h (ag (h.ev rfl)) rfl ?_;intro f h
     refine aB (b:=false) h rfl rfl rfl rfl ?_;intro f h
     refine aB (b:=false) h rfl rfl rfl rfl ?_;intro f h
     refine aB (b:=false) h rfl rfl rfl rfl ?_;intro f h
     refine aB (b:=false) h rfl rfl rfl rfl ?_;intro f h
     refine ac h (aD (h.ev rfl) (h.ev rfl)) rfl ?_;intro f h
     refine ac h (ag (h.ev rfl)) rfl ?_;intro f h
     refine aB (b:=false) h rfl rfl rfl rfl ?_;intro f h
     refine aB (b:=false) h rfl rfl rfl rfl ?_;intro f h
     refine aB (b:=false) h rfl rfl rfl rfl ?_;intro f h
     refine aB (b:=false) h rfl rfl rfl rfl ?_;intro f h
     refine aB (b:=false) h rfl rfl rfl rfl ?_;intro f h
     refine aB (b:=false) h rfl rfl rfl rfl ?_;intro f h
     refine aB (b:=false) h rfl rfl rfl rfl ?_;intro f h
     refine ac h (aD (h.ev rfl) (h.ev rfl)) rfl ?_;intro f h
     refine ah ?_
     refine hK15 _ _ ?_
     refine wpIn_cond_true (h.ev rfl) ?_
     refine al fun K19 hK19=>?_
     refine ae ?_
     refine ac h (ak (h.ev rfl)) rfl ?_;intro f h
     refine ah ?_
     refine hK19 _ _ ?_
     refine wpIn_ret ?_
     refine aY ?_
     exact bo rfl h s rfl (by show _=_;rw [jO (uE s1)])
   ·skip
    refine ae ?_
    refine ac h (ai bC (h.ev rfl)) rfl ?_;intro f h
    refine aq (V:=vs) (am (aL.of_own s 0 rfl) 66 (bA _ _ _ _)) h bE rfl rfl ?_;intro f h
    refine ac h (a8 (hRs.keep s.ext) Tryz.underlying36 (h.ev rfl)) rfl ?_;intro f h
    refine ac h (aw (.bool true) (bS (h.ev rfl) (h.ev rfl)) (congrArg Value.bool (decide_eq_true (by have:=of_decide_eq_true s0;omega)))) rfl ?_;intro f h
    refine ac h (ag (h.ev rfl)) rfl ?_;intro f h
    refine aB (b:=false) h rfl rfl rfl rfl ?_;intro f h
    refine aB (b:=false) h rfl rfl rfl rfl ?_;intro f h
    refine aB (b:=false) h rfl rfl rfl rfl ?_;intro f h
    refine aB (b:=false) h rfl rfl rfl rfl ?_;intro f h
    refine ac h (aD (h.ev rfl) (h.ev rfl)) rfl ?_;intro f h
    refine ac h (ag (h.ev rfl)) rfl ?_;intro f h
    refine aB (b:=false) h rfl rfl rfl rfl ?_;intro f h
    refine aB (b:=false) h rfl rfl rfl rfl ?_;intro f h
    refine aB (b:=false) h rfl rfl rfl rfl ?_;intro f h
    refine aB (b:=false) h rfl rfl rfl rfl ?_;intro f h
    refine ac h (aD (h.ev rfl) (h.ev rfl)) rfl ?_;intro f h
    refine ac h (ag (h.ev rfl)) rfl ?_;intro f h
    refine aB (b:=false) h rfl rfl rfl rfl ?_;intro f h
    refine aB (b:=false) h rfl rfl rfl rfl ?_;intro f h
    refine aB (b:=false) h rfl rfl rfl rfl ?_;intro f h
    refine aB (b:=false) h rfl rfl rfl rfl ?_;intro f h
    refine aB (b:=false) h rfl rfl rfl rfl ?_;intro f h
    refine aB (b:=false) h rfl rfl rfl rfl ?_;intro f h
    refine aB (b:=false) h rfl rfl rfl rfl ?_;intro f h
    refine ac h (aD (h.ev rfl) (h.ev rfl)) rfl ?_;intro f h
    refine ah ?_
    refine hK15 _ _ ?_
    refine wpIn_cond_true (h.ev rfl) ?_
    refine al fun K20 hK20=>?_
    refine ae ?_
    refine ac h (ak (h.ev rfl)) rfl ?_;intro f h
    refine ah ?_
    refine hK20 _ _ ?_
    refine wpIn_ret ?_
    refine aY ?_
    exact bo rfl h s rfl (by show _=_;rw [jO (u7 s0)])
set_option maxHeartbeats 1000000 in
theorem mC (L:List N3) (vo:Value) (w:World) (hO:eN w vo L) (hL:L.length≤40) (hb:RwB L):Calls Tryz.prog 10 [.agg #[vo]].toArray w (cU w (is (.bool (hQ L)))):=by
 refine bq Tryz.func10 rfl Tryz.ntmps10 rfl [(0,.agg #[vo])] (by simp) fun f h=>?_
 have s:=St.start w
 refine al fun K1 hK1=>?_
 refine ae ?_
 refine bV (#[vo]) h s rfl rfl rfl ?_;intro f w1 b1 h s
 refine ac h (ak (h.ev rfl)) rfl ?_;intro f h
 refine ah ?_
 refine hK1 _ _ ?_
 refine al fun K2 hK2=>?_
 refine ae ?_
 refine au 0 h s bk rfl rfl (rfl) rfl ?_;intro f h
 refine aI h s uz (ik L vo _ (hO.keep s.ext) hL) rfl rfl ?_;intro f w1 v10 hT hE h sq;replace s:=s.sl_new hE hT
 refine ac h (ak (h.ev rfl)) rfl ?_;intro f h
 refine ah ?_
 refine hK2 _ _ ?_
 refine al fun K3 hK3=>?_
 refine al fun K4 hK4=>?_
 refine ae ?_
 refine ac h (ai cp (h.ev rfl)) rfl ?_;intro f h
 refine aq (V:=vo) (am (aL.of_own s 1 rfl) 0 rfl) h da rfl rfl ?_;intro f h
 refine ac h (a8 (hO.1.keep s.ext) Tryz.underlying22 (h.ev rfl)) rfl ?_;intro f h
 refine ac h (ag (h.ev rfl)) rfl ?_;intro f h
 refine ah ?_
 refine hK4 _ _ ?_
 refine wpIn_block ?_
 refine wpIn_loop_ghost (fun nn aa ww=>∃ k:Nat,Sl 63 aa [(0,.agg #[vo]),(1,.pointer (some ⟨b1,0,none⟩)),(10,v10),(3,v10),(12,vo),(13,.int .i64 (L.length:Int)),(14,.int .i64 (k:Int))]∧St w [.sl v10 28 33 (aR L).length (ar (aR L)),.blk b1 (.cells (#[vo]) 24)] ww∧nn=L.length - k∧k≤L.length∧∀ j,j<k→gc L j=false) (L.length - (0)) ⟨0,h.only ⟨rfl,rfl,rfl,rfl,rfl,rfl,aO rfl (by omega),trivial⟩,s.as ⟨rfl,rfl,trivial⟩,rfl,Nat.zero_le _,fun j hj=>absurd hj (Nat.not_lt_zero _)⟩ ?_
 rintro _ f w1 ⟨k,h,s,hnn,hp0,hp1⟩
 refine al fun K5 hK5=>?_
 refine ae ?_
 refine ac h (bS (h.ev rfl) (h.ev rfl)) rfl ?_;intro f h
 refine ah ?_
 refine hK5 _ _ ?_
 refine al fun K6 hK6=>?_
 refine bK h rfl (fun hc=>?_) (fun hc=>?_)
 ·replace hc:=of_decide_eq_true hc
  refine wpIn_skip ?_
  refine hK6 _ _ ?_
  refine al fun K7 hK7=>?_
  refine wpIn_block ?_
  refine al fun K8 hK8=>?_
  refine ae ?_
  have hkl:k<L.length:=by omega
  have hx9:=hb.each _ (bu hkl)
  refine ac h (ag (h.ev rfl)) rfl ?_;intro f h
  refine ac h (cc (hO.1.keep s.ext) (k) Tryz.underlying22 eA (h.ev rfl) (h.ev rfl) (by omega) (by omega)) rfl ?_;intro f h
  refine ax ((hO.1.keep s.ext).el (k) (by omega) (by decide) (D:=ay (L.getD k z3).1.me (L.getD k z3).1.pr (L.getD k z3).2.1 (L.getD k z3).2.2) (df L k hkl)) h aW rfl (ap _ _ _ _) rfl ?_;intro f h
  refine bf (ay aZ aZ bp bp) h s dL rfl rfl ?_;intro f w1 b5 h s
  refine ac h (ak (h.ev rfl)) rfl ?_;intro f h
  refine az 0 h s aW rfl rfl rfl (ap _ _ _ _) (ap _ _ _ _) (a7 (dc ((hO.2 _ (bu hkl)).1.keep s.ext)) (dc ((hO.2 _ (bu hkl)).2.keep s.ext))) ?_;intro w1 s
  refine ah ?_
  refine hK8 _ _ ?_
  refine al fun K9 hK9=>?_
  refine al fun K10 hK10=>?_
  cases r0:(cr (L.getD k z3).1:Bool)
  ·skip
   refine bH 21 [[],[0],[0,1],[0,1,2],[0,1,2,3],[0,1,2,3,4],[0,1,2,3,4,5],[0,1,2,3,4,5,6],[0,1,2,3,4,5,6,7],[0,1,2,3,4,5,6],[0,1,2,3,4,5,6,9],[0,1,2,3,4,5,6,7,8,9,10],[0,1,2,3,4,5,6,7,8,9,10,11],[0,1,2,3,4,5,6,7,8,9,10,11,12],[0,1,2,3,4,5,6,7,8,9,10,11,12,13],[0,1,2,3,4,5,6],[0,1,2,3,4,5,6,15],[0,1,2,3,4,5,6,15,16],[0,1,2,3,4,5,6,7,8,9,10,11,12,13,14,15,16,17],[0,1,2,3,4,5,6,7,8,9,10,11,12,13,14,15,16,17,18],[0,1,2,3,4,5,6,7,8,9,10,11,12,13,14,15,16,17,18,19]] h (by kernel_rfl) (by kernel_rfl) (by kernel_rfl) ?_
   refine bM 0 h s aW rfl rfl (ap _ _ _ _) rfl ?_;intro f h
   refine cn h r2 (fun w9 hE9=>aM (.bool false) (fV (L.getD k z3).1 (L.getD k z3).2.1 (L.getD k z3).2.2 w9 ((hO.2 _ (bu hkl)).1.keep (s.ext.trans hE9)) ((hO.2 _ (bu hkl)).2.keep (s.ext.trans hE9)) (by omega) (by omega)) (congrArg Value.bool r0)) rfl rfl ?_;intro f h
   refine ao h (aw (.bool true) (bB (h.ev rfl)) rfl) rfl ?_;intro f h
   refine ao h (ag (h.ev rfl)) rfl ?_;intro f h
   refine aX (b:=false) h rfl rfl rfl rfl ?_;intro f h
   refine aX (b:=false) h rfl rfl rfl rfl ?_;intro f h
   refine aX (b:=false) h rfl rfl rfl rfl ?_;intro f h
   refine cN h rfl rfl rfl rfl ?_;intro f h
   refine cN h rfl rfl rfl rfl ?_;intro f h
   refine cN h rfl rfl rfl rfl ?_;intro f h
   refine cN h rfl rfl rfl rfl ?_;intro f h
   refine cN h rfl rfl rfl rfl ?_;intro f h
   refine cN h rfl rfl rfl rfl ?_;intro f h
   refine cN h rfl rfl rfl rfl ?_;intro f h
   refine cN h rfl rfl rfl rfl ?_;intro f h
   refine cN h rfl rfl rfl rfl ?_;intro f h
   refine cN h rfl rfl rfl rfl ?_;intro f h
   refine cN h rfl rfl rfl rfl ?_;intro f h
   refine cN h rfl rfl rfl rfl ?_;intro f h
   refine aX (b:=false) h rfl rfl rfl rfl ?_;intro f h
   refine ao h (aD (h.ev rfl) (h.ev rfl)) rfl ?_;intro f h
   refine ck s fun w1 s=>?_
   refine ah ?_
   refine hK10 _ _ ?_
   refine wpIn_cond_true (h.ev rfl) ?_
   refine al fun K11 hK11=>?_
   refine ae ?_
   refine ac h (ak (h.ev rfl)) rfl ?_;intro f h
   refine ah ?_
   refine hK11 _ _ ?_
   refine wpIn_ret ?_
   refine aY ?_
   refine bQ ?_
   refine aY ?_
   refine aY ?_
   refine bQ ?_
   refine aY ?_
   exact bo rfl h s rfl (by show _=_;rw [jG hkl (DS r0)])
  ·skip
   cases k0:(decide (0<k):Bool)
   ·skip
    refine bH 21 [[],[0],[0,1],[0,1,2],[0,1,2,3],[0,1,2,3,4],[0,1,2,3,4,5],[0,1,2,3,4,5,6],[0,1,2,3,4,5,6,7],[0,1,2,3,4,5,6],[0,1,2,3,4,5,6,9],[0,1,2,3,4,5,6,7,8,9,10],[0,1,2,3,4,5,6,7,8,9,10,11],[0,1,2,3,4,5,6,7,8,9,10,11,12],[0,1,2,3,4,5,6,7,8,9,10,11,12,13],[0,1,2,3,4,5,6],[0,1,2,3,4,5,6,15],[0,1,2,3,4,5,6,15,16],[0,1,2,3,4,5,6,7,8,9,10,11,12,13,14,15,16,17],[0,1,2,3,4,5,6,7,8,9,10,11,12,13,14,15,16,17,18],[0,1,2,3,4,5,6,7,8,9,10,11,12,13,14,15,16,17,18,19]] h (by kernel_rfl) (by kernel_rfl) (by kernel_rfl) ?_
    refine bM 0 h s aW rfl rfl (ap _ _ _ _) rfl ?_;intro f h
    refine cn h r2 (fun w9 hE9=>aM (.bool true) (fV (L.getD k z3).1 (L.getD k z3).2.1 (L.getD k z3).2.2 w9 ((hO.2 _ (bu hkl)).1.keep (s.ext.trans hE9)) ((hO.2 _ (bu hkl)).2.keep (s.ext.trans hE9)) (by omega) (by omega)) (congrArg Value.bool r0)) rfl rfl ?_;intro f h
    refine ao h (aw (.bool false) (bB (h.ev rfl)) rfl) rfl ?_;intro f h
    refine ao h (ag (h.ev rfl)) rfl ?_;intro f h
    refine aT h rfl rfl rfl ?_
    refine ao h (ag (h.ev rfl)) rfl ?_;intro f h
    refine aT h rfl rfl rfl ?_
    refine ao h (aw (.bool false) (cY (h.ev rfl) (h.ev rfl)) (congrArg Value.bool (decide_eq_false (by have:=of_decide_eq_false k0;omega)))) rfl ?_;intro f h
    refine aT h rfl rfl rfl ?_
    refine ao h (ag (h.ev rfl)) rfl ?_;intro f h
    refine aX (b:=true) h rfl rfl rfl rfl ?_;intro f h
    refine aX (b:=true) h rfl rfl rfl rfl ?_;intro f h
    refine aX (b:=true) h rfl rfl rfl rfl ?_;intro f h
    refine aX (b:=true) h rfl rfl rfl rfl ?_;intro f h
    refine aX (b:=true) h rfl rfl rfl rfl ?_;intro f h
    refine aX (b:=true) h rfl rfl rfl rfl ?_;intro f h
    refine aX (b:=true) h rfl rfl rfl rfl ?_;intro f h
    refine aX (b:=true) h rfl rfl rfl rfl ?_;intro f h
    refine aX (b:=true) h rfl rfl rfl rfl ?_;intro f h
    refine aX (b:=true) h rfl rfl rfl rfl ?_;intro f h
    refine aX (b:=true) h rfl rfl rfl rfl ?_;intro f h
    refine aX (b:=true) h rfl rfl rfl rfl ?_;intro f h
    refine aT h rfl rfl rfl ?_
    refine ao h (aF (h.ev rfl) (h.ev rfl)) rfl ?_;intro f h
    refine ao h (aF (h.ev rfl) (h.ev rfl)) rfl ?_;intro f h
    refine ck s fun w1 s=>?_
    refine ah ?_
    refine hK10 _ _ ?_
    refine wpIn_cond_false (h.ev rfl) ?_
    refine wpIn_skip ?_
    refine hK9 _ _ ?_
    refine al fun K12 hK12=>?_
    refine ae ?_
    have hq1:=hp1
    have hr9:=r0
    have hk9:decide (0<k)=false∨decide ((L.getD k z3).1.me.1≤(L.getD (k - 1) z3).1.me.1)=false:=.inl k0
    have hkl2:(aJ (L.getD k z3).1).length≤700:=by simp only [aJ,List.length_append,List.length_cons];omega
    refine au 0 h s aW rfl rfl (ap _ _ _ _) rfl ?_;intro f h
    refine aI h s zF (mV (L.getD k z3).1 (L.getD k z3).2.1 (L.getD k z3).2.2 _ ((hO.2 _ (bu hkl)).1.keep s.ext) ((hO.2 _ (bu hkl)).2.keep s.ext) (by omega) (by omega)) rfl rfl ?_;intro f w1 v41 hT hE h sq;replace s:=s.sl_new hE hT
    refine cT 0 h s Tryz.underlying36 rfl rfl rfl ?_;intro f h
    refine ac h (ag (h.ev rfl)) rfl ?_;intro f h
    refine ah ?_
    refine hK12 _ _ ?_
    refine wpIn_block ?_
    refine wpIn_loop_ghost (fun nn aa ww=>∃ j:Nat,Sl 63 aa [(0,.agg #[vo]),(1,.pointer (some ⟨b1,0,none⟩)),(5,.pointer (some ⟨b5,0,none⟩)),(10,v10),(3,v10),(12,vo),(13,.int .i64 (L.length:Int)),(14,.int .i64 (k:Int)),(41,v41),(42,.int .i64 ((aJ (L.getD k z3).1).length:Int)),(43,.int .i64 (j:Int))]∧St w [.sl v41 28 33 (aJ (L.getD k z3).1).length (ar (aJ (L.getD k z3).1)),.blk b5 (.cells (ay (L.getD k z3).1.me (L.getD k z3).1.pr (L.getD k z3).2.1 (L.getD k z3).2.2) 42),.sl v10 28 33 (aR L).length (ar (aR L)),.blk b1 (.cells (#[vo]) 24)] ww∧nn=(aJ (L.getD k z3).1).length - j∧j≤(aJ (L.getD k z3).1).length∧∀ i,i<j→iX (aR L) ((aJ (L.getD k z3).1).getD i aZ)=false) ((aJ (L.getD k z3).1).length - (0)) ⟨0,h.only ⟨rfl,rfl,rfl,rfl,rfl,rfl,rfl,rfl,rfl,rfl,aO rfl (by omega),trivial⟩,s.as ⟨rfl,rfl,rfl,rfl,trivial⟩,rfl,Nat.zero_le _,fun j hj=>absurd hj (Nat.not_lt_zero _)⟩ ?_
    rintro _ f w1 ⟨j,h,s,hnn,hp0,hp1⟩
    refine al fun K13 hK13=>?_
    refine ae ?_
    refine ac h (bS (h.ev rfl) (h.ev rfl)) rfl ?_;intro f h
    refine ah ?_
    refine hK13 _ _ ?_
    refine al fun K14 hK14=>?_
    refine bK h rfl (fun hc=>?_) (fun hc=>?_)
    ·replace hc:=of_decide_eq_true hc
     refine wpIn_skip ?_
     refine hK14 _ _ ?_
     refine al fun K15 hK15=>?_
     refine wpIn_block ?_
     refine al fun K16 hK16=>?_
     refine ae ?_
     have hjl:j<(aJ (L.getD k z3).1).length:=by omega
     refine ac h (cc (bX.of_own (s.getSl 0 rfl)) (j) Tryz.underlying36 cD (h.ev rfl) (h.ev rfl) (by omega) (by omega)) rfl ?_;intro f h
     refine ax ((bX.of_own (s.getSl 0 rfl)).el (j) (by omega) (by decide) (D:=av ((aJ (L.getD k z3).1).getD j aZ)) (cI (aJ (L.getD k z3).1) j hjl)) h aC rfl (aj _) rfl ?_;intro f h
     refine bf (av aZ) h s cB rfl rfl ?_;intro f w1 b7 h s
     refine az 0 h s aC rfl rfl rfl (aj _) (aj _) (aS _) ?_;intro w1 s
     refine ah ?_
     refine hK16 _ _ ?_
     refine al fun K17 hK17=>?_
     refine ae ?_
     refine ac h (ag (h.ev rfl)) rfl ?_;intro f h
     refine ac h (ai aH (h.ev rfl)) rfl ?_;intro f h
     refine aq (am (aL.of_own s 0 rfl) 0 (aP _)) h bw rfl rfl ?_;intro f h
     refine aI h s rF (iQ (aR L) v10 ((aJ (L.getD k z3).1).getD j aZ).1 _ (bX.of_own (s.getSl 3 rfl)) (by rw [List.length_map];omega)) rfl rfl ?_;intro f w1 v9 hT hE h s;obtain rfl:=hT
     refine bf (av aZ) h s cB rfl rfl ?_;intro f w1 b8 h s
     refine az 0 h s aC rfl rfl rfl (aj _) (aj _) (aS _) ?_;intro w1 s
     refine ah ?_
     refine hK17 _ _ ?_
     refine al fun K18 hK18=>?_
     cases f0:(decide (0≤(ft (aR L) ((aJ (L.getD k z3).1).getD j aZ).1).1):Bool)
     ·skip
      refine ae ?_
      refine ac h (ai aH (h.ev rfl)) rfl ?_;intro f h
      refine aq (am (aL.of_own s 0 rfl) 0 (aP _)) h bw rfl rfl ?_;intro f h
      refine ac h (aw (.bool false) (dm (h.ev rfl) (h.ev rfl)) (congrArg Value.bool f0)) rfl ?_;intro f h
      refine ac h (ag (h.ev rfl)) rfl ?_;intro f h
      refine aB (b:=true) h rfl rfl rfl rfl ?_;intro f h
      refine aB (b:=true) h rfl rfl rfl rfl ?_;intro f h
      refine aB (b:=true) h rfl rfl rfl rfl ?_;intro f h
      refine ac h (aF (h.ev rfl) (h.ev rfl)) rfl ?_;intro f h
      refine ah ?_
      refine hK18 _ _ ?_
      refine wpIn_cond_false (h.ev rfl) ?_
      refine wpIn_skip ?_
      refine bF ?_
      refine hK15 _ _ ?_
      refine ae ?_
      refine ac h (ce (h.ev rfl) (h.ev rfl) (by omega)) rfl ?_;intro f h
      refine ac h (ag (h.ev rfl)) rfl ?_;intro f h
      refine ah ?_
      refine bT ?_
      exact ⟨_,by omega,⟨j+1,h.only ⟨rfl,rfl,rfl,rfl,rfl,rfl,rfl,rfl,rfl,rfl,aO rfl (by omega),trivial⟩,St.as (s.pick _ (List.sublist_append_right [_,_] _)) ⟨rfl,rfl,rfl,rfl,trivial⟩,rfl,by omega,de hp1 (CA f0)⟩⟩
     ·skip
      cases f1:(decide ((ft (aR L) ((aJ (L.getD k z3).1).getD j aZ).1)=((aJ (L.getD k z3).1).getD j aZ)):Bool)
      ·skip
       refine ae ?_
       refine ac h (ai aH (h.ev rfl)) rfl ?_;intro f h
       refine aq (am (aL.of_own s 0 rfl) 0 (aP _)) h bw rfl rfl ?_;intro f h
       refine ac h (aw (.bool true) (dm (h.ev rfl) (h.ev rfl)) (congrArg Value.bool f0)) rfl ?_;intro f h
       refine ac h (ag (h.ev rfl)) rfl ?_;intro f h
       refine aA h rfl rfl rfl ?_
       refine au 0 h s aC rfl rfl (aj _) rfl ?_;intro f h
       refine aA h rfl rfl rfl ?_
       refine au 1 h s aC rfl rfl (aj _) rfl ?_;intro f h
       refine aA h rfl rfl rfl ?_
       refine ac h (aw (.bool true) (eh (eo _ _) (by kernel_rfl) (by decide) (h.ev rfl) (h.ev rfl) (decide ((ft (aR L) ((aJ (L.getD k z3).1).getD j aZ).1)=((aJ (L.getD k z3).1).getD j aZ))) (cR _ _)) (by rw [f1];rfl)) rfl ?_;intro f h
       refine ac h (aD (h.ev rfl) (h.ev rfl)) rfl ?_;intro f h
       refine ah ?_
       refine hK18 _ _ ?_
       refine wpIn_cond_true (h.ev rfl) ?_
       refine al fun K19 hK19=>?_
       refine ae ?_
       refine ac h (ak (h.ev rfl)) rfl ?_;intro f h
       refine ah ?_
       refine hK19 _ _ ?_
       refine wpIn_ret ?_
       refine bQ ?_
       refine aY ?_
       refine aY ?_
       refine bQ ?_
       refine bQ ?_
       refine aY ?_
       refine aY ?_
       refine bQ ?_
       refine aY ?_
       exact bo rfl h s rfl (by show _=_;rw [jG hkl (Db hjl (by rw [yn f0,f1];rfl))])
      ·skip
       refine ae ?_
       refine ac h (ai aH (h.ev rfl)) rfl ?_;intro f h
       refine aq (am (aL.of_own s 0 rfl) 0 (aP _)) h bw rfl rfl ?_;intro f h
       refine ac h (aw (.bool true) (dm (h.ev rfl) (h.ev rfl)) (congrArg Value.bool f0)) rfl ?_;intro f h
       refine ac h (ag (h.ev rfl)) rfl ?_;intro f h
       refine aA h rfl rfl rfl ?_
       refine au 0 h s aC rfl rfl (aj _) rfl ?_;intro f h
       refine aA h rfl rfl rfl ?_
       refine au 1 h s aC rfl rfl (aj _) rfl ?_;intro f h
       refine aA h rfl rfl rfl ?_
       refine ac h (aw (.bool false) (eh (eo _ _) (by kernel_rfl) (by decide) (h.ev rfl) (h.ev rfl) (decide ((ft (aR L) ((aJ (L.getD k z3).1).getD j aZ).1)=((aJ (L.getD k z3).1).getD j aZ))) (cR _ _)) (by rw [f1];rfl)) rfl ?_;intro f h
       refine ac h (aD (h.ev rfl) (h.ev rfl)) rfl ?_;intro f h
       refine ah ?_
       refine hK18 _ _ ?_
       refine wpIn_cond_false (h.ev rfl) ?_
       refine wpIn_skip ?_
       refine bF ?_
       refine hK15 _ _ ?_
       refine ae ?_
       refine ac h (ce (h.ev rfl) (h.ev rfl) (by omega)) rfl ?_;intro f h
       refine ac h (ag (h.ev rfl)) rfl ?_;intro f h
       refine ah ?_
       refine bT ?_
       exact ⟨_,by omega,⟨j+1,h.only ⟨rfl,rfl,rfl,rfl,rfl,rfl,rfl,rfl,rfl,rfl,aO rfl (by omega),trivial⟩,St.as (s.pick _ (List.sublist_append_right [_,_] _)) ⟨rfl,rfl,rfl,rfl,trivial⟩,rfl,by omega,de hp1 (by rw [yn f0,f1];rfl)⟩⟩
    ·replace hc:=of_decide_eq_false hc
     refine wpIn_exit ?_
     refine bJ ?_
     refine bJ ?_
     refine cC ?_
     refine bF ?_
     refine hK7 _ _ ?_
     refine ae ?_
     refine ac h (ce (h.ev rfl) (h.ev rfl) (by omega)) rfl ?_;intro f h
     refine ac h (ag (h.ev rfl)) rfl ?_;intro f h
     refine ah ?_
     refine bT ?_
     have hb9:gc L k=false:=CF (j:=j) hr9 hk9 (by omega) hp1
     exact ⟨_,by omega,⟨k+1,h.only ⟨rfl,rfl,rfl,rfl,rfl,rfl,aO rfl (by omega),trivial⟩,St.as (s.pick _ (List.sublist_append_right [_,_] _)) ⟨rfl,rfl,trivial⟩,rfl,by omega,de hq1 hb9⟩⟩
   ·skip
    cases k1:(decide ((L.getD k z3).1.me.1≤(L.getD (k - 1) z3).1.me.1):Bool)
    ·skip
     refine bH 21 [[],[0],[0,1],[0,1,2],[0,1,2,3],[0,1,2,3,4],[0,1,2,3,4,5],[0,1,2,3,4,5,6],[0,1,2,3,4,5,6,7],[0,1,2,3,4,5,6],[0,1,2,3,4,5,6,9],[0,1,2,3,4,5,6,7,8,9,10],[0,1,2,3,4,5,6,7,8,9,10,11],[0,1,2,3,4,5,6,7,8,9,10,11,12],[0,1,2,3,4,5,6,7,8,9,10,11,12,13],[0,1,2,3,4,5,6],[0,1,2,3,4,5,6,15],[0,1,2,3,4,5,6,15,16],[0,1,2,3,4,5,6,7,8,9,10,11,12,13,14,15,16,17],[0,1,2,3,4,5,6,7,8,9,10,11,12,13,14,15,16,17,18],[0,1,2,3,4,5,6,7,8,9,10,11,12,13,14,15,16,17,18,19]] h (by kernel_rfl) (by kernel_rfl) (by kernel_rfl) ?_
     refine bM 0 h s aW rfl rfl (ap _ _ _ _) rfl ?_;intro f h
     refine cn h r2 (fun w9 hE9=>aM (.bool true) (fV (L.getD k z3).1 (L.getD k z3).2.1 (L.getD k z3).2.2 w9 ((hO.2 _ (bu hkl)).1.keep (s.ext.trans hE9)) ((hO.2 _ (bu hkl)).2.keep (s.ext.trans hE9)) (by omega) (by omega)) (congrArg Value.bool r0)) rfl rfl ?_;intro f h
     refine ao h (aw (.bool false) (bB (h.ev rfl)) rfl) rfl ?_;intro f h
     refine ao h (ag (h.ev rfl)) rfl ?_;intro f h
     refine aT h rfl rfl rfl ?_
     refine ao h (ag (h.ev rfl)) rfl ?_;intro f h
     refine aT h rfl rfl rfl ?_
     refine ao h (aw (.bool true) (cY (h.ev rfl) (h.ev rfl)) (congrArg Value.bool (decide_eq_true (by have:=of_decide_eq_true k0;omega)))) rfl ?_;intro f h
     refine aT h rfl rfl rfl ?_
     refine ao h (ag (h.ev rfl)) rfl ?_;intro f h
     refine aT h rfl rfl rfl ?_
     refine ao h (ai cp (h.ev rfl)) rfl ?_;intro f h
     refine aT h rfl rfl rfl ?_
     refine aU (V:=vo) (am (aL.of_own s 2 rfl) 0 rfl) h da rfl rfl ?_;intro f h
     refine aT h rfl rfl rfl ?_
     refine ao h (ag (h.ev rfl)) rfl ?_;intro f h
     refine aT h rfl rfl rfl ?_
     have hk0:=of_decide_eq_true k0
     refine ao h (eS (h.ev rfl) (h.ev rfl) (by omega)) rfl ?_;intro f h
     refine aT h rfl rfl rfl ?_
     refine ao h (cc (hO.1.keep s.ext) ((k - 1)) Tryz.underlying22 eA (h.ev rfl) (h.ev rfl) (by omega) (by omega)) rfl ?_;intro f h
     refine aT h rfl rfl rfl ?_
     refine ao h (bL aK (h.ev rfl) ((hO.1.keep s.ext).some (by omega))) rfl ?_;intro f h
     refine aT h rfl rfl rfl ?_
     refine ao h (bL aH (h.ev rfl) ((hO.1.keep s.ext).some (by omega))) rfl ?_;intro f h
     refine aT h rfl rfl rfl ?_
     refine aU (V:=.int .i64 (L.getD (k - 1) z3).1.me.1) (ez (hO.1.keep s.ext) ((k - 1)*68+0) (ie L (k - 1) (by omega))) h bw rfl rfl ?_;intro f h
     refine aT h rfl rfl rfl ?_
     refine ao h (ai aK (h.ev rfl)) rfl ?_;intro f h
     refine aT h rfl rfl rfl ?_
     refine ao h (ai aH (h.ev rfl)) rfl ?_;intro f h
     refine aT h rfl rfl rfl ?_
     refine aU (am (aL.of_own s 0 rfl) 0 (bZ _ _ _ _)) h bw rfl rfl ?_;intro f h
     refine aT h rfl rfl rfl ?_
     refine ao h (aw (.bool false) (dm (h.ev rfl) (h.ev rfl)) (congrArg Value.bool k1)) rfl ?_;intro f h
     refine aT h rfl rfl rfl ?_
     refine ao h (aD (h.ev rfl) (h.ev rfl)) rfl ?_;intro f h
     refine ao h (aF (h.ev rfl) (h.ev rfl)) rfl ?_;intro f h
     refine ck s fun w1 s=>?_
     refine ah ?_
     refine hK10 _ _ ?_
     refine wpIn_cond_false (h.ev rfl) ?_
     refine wpIn_skip ?_
     refine hK9 _ _ ?_
     refine al fun K20 hK20=>?_
     refine ae ?_
     have hq1:=hp1
     have hr9:=r0
     have hk9:decide (0<k)=false∨decide ((L.getD k z3).1.me.1≤(L.getD (k - 1) z3).1.me.1)=false:=.inr k1
     have hkl2:(aJ (L.getD k z3).1).length≤700:=by simp only [aJ,List.length_append,List.length_cons];omega
     refine au 0 h s aW rfl rfl (ap _ _ _ _) rfl ?_;intro f h
     refine aI h s zF (mV (L.getD k z3).1 (L.getD k z3).2.1 (L.getD k z3).2.2 _ ((hO.2 _ (bu hkl)).1.keep s.ext) ((hO.2 _ (bu hkl)).2.keep s.ext) (by omega) (by omega)) rfl rfl ?_;intro f w1 v41 hT hE h sq;replace s:=s.sl_new hE hT
     refine cT 0 h s Tryz.underlying36 rfl rfl rfl ?_;intro f h
     refine ac h (ag (h.ev rfl)) rfl ?_;intro f h
     refine ah ?_
     refine hK20 _ _ ?_
     refine wpIn_block ?_
     refine wpIn_loop_ghost (fun nn aa ww=>∃ j:Nat,Sl 63 aa [(0,.agg #[vo]),(1,.pointer (some ⟨b1,0,none⟩)),(5,.pointer (some ⟨b5,0,none⟩)),(10,v10),(3,v10),(12,vo),(13,.int .i64 (L.length:Int)),(14,.int .i64 (k:Int)),(41,v41),(42,.int .i64 ((aJ (L.getD k z3).1).length:Int)),(43,.int .i64 (j:Int))]∧St w [.sl v41 28 33 (aJ (L.getD k z3).1).length (ar (aJ (L.getD k z3).1)),.blk b5 (.cells (ay (L.getD k z3).1.me (L.getD k z3).1.pr (L.getD k z3).2.1 (L.getD k z3).2.2) 42),.sl v10 28 33 (aR L).length (ar (aR L)),.blk b1 (.cells (#[vo]) 24)] ww∧nn=(aJ (L.getD k z3).1).length - j∧j≤(aJ (L.getD k z3).1).length∧∀ i,i<j→iX (aR L) ((aJ (L.getD k z3).1).getD i aZ)=false) ((aJ (L.getD k z3).1).length - (0)) ⟨0,h.only ⟨rfl,rfl,rfl,rfl,rfl,rfl,rfl,rfl,rfl,rfl,aO rfl (by omega),trivial⟩,s.as ⟨rfl,rfl,rfl,rfl,trivial⟩,rfl,Nat.zero_le _,fun j hj=>absurd hj (Nat.not_lt_zero _)⟩ ?_
     rintro _ f w1 ⟨j,h,s,hnn,hp0,hp1⟩
     refine al fun K21 hK21=>?_
     refine ae ?_
     refine ac h (bS (h.ev rfl) (h.ev rfl)) rfl ?_;intro f h
     refine ah ?_
     refine hK21 _ _ ?_
     refine al fun K22 hK22=>?_
     refine bK h rfl (fun hc=>?_) (fun hc=>?_)
     ·replace hc:=of_decide_eq_true hc
      refine wpIn_skip ?_
      refine hK22 _ _ ?_
      refine al fun K23 hK23=>?_
      refine wpIn_block ?_
      refine al fun K24 hK24=>?_
      refine ae ?_
      have hjl:j<(aJ (L.getD k z3).1).length:=by omega
      refine ac h (cc (bX.of_own (s.getSl 0 rfl)) (j) Tryz.underlying36 cD (h.ev rfl) (h.ev rfl) (by omega) (by omega)) rfl ?_;intro f h
      refine ax ((bX.of_own (s.getSl 0 rfl)).el (j) (by omega) (by decide) (D:=av ((aJ (L.getD k z3).1).getD j aZ)) (cI (aJ (L.getD k z3).1) j hjl)) h aC rfl (aj _) rfl ?_;intro f h
      refine bf (av aZ) h s cB rfl rfl ?_;intro f w1 b7 h s
      refine az 0 h s aC rfl rfl rfl (aj _) (aj _) (aS _) ?_;intro w1 s
      refine ah ?_
      refine hK24 _ _ ?_
      refine al fun K25 hK25=>?_
      refine ae ?_
      refine ac h (ag (h.ev rfl)) rfl ?_;intro f h
      refine ac h (ai aH (h.ev rfl)) rfl ?_;intro f h
      refine aq (am (aL.of_own s 0 rfl) 0 (aP _)) h bw rfl rfl ?_;intro f h
      refine aI h s rF (iQ (aR L) v10 ((aJ (L.getD k z3).1).getD j aZ).1 _ (bX.of_own (s.getSl 3 rfl)) (by rw [List.length_map];omega)) rfl rfl ?_;intro f w1 v9 hT hE h s;obtain rfl:=hT
      refine bf (av aZ) h s cB rfl rfl ?_;intro f w1 b8 h s
      refine az 0 h s aC rfl rfl rfl (aj _) (aj _) (aS _) ?_;intro w1 s
      refine ah ?_
      refine hK25 _ _ ?_
      refine al fun K26 hK26=>?_
      cases f0:(decide (0≤(ft (aR L) ((aJ (L.getD k z3).1).getD j aZ).1).1):Bool)
      ·skip
       refine ae ?_
       refine ac h (ai aH (h.ev rfl)) rfl ?_;intro f h
       refine aq (am (aL.of_own s 0 rfl) 0 (aP _)) h bw rfl rfl ?_;intro f h
       refine ac h (aw (.bool false) (dm (h.ev rfl) (h.ev rfl)) (congrArg Value.bool f0)) rfl ?_;intro f h
       refine ac h (ag (h.ev rfl)) rfl ?_;intro f h
       refine aB (b:=true) h rfl rfl rfl rfl ?_;intro f h
       refine aB (b:=true) h rfl rfl rfl rfl ?_;intro f h
       refine aB (b:=true) h rfl rfl rfl rfl ?_;intro f h
       refine ac h (aF (h.ev rfl) (h.ev rfl)) rfl ?_;intro f h
       refine ah ?_
       refine hK26 _ _ ?_
       refine wpIn_cond_false (h.ev rfl) ?_
       refine wpIn_skip ?_
       refine bF ?_
       refine hK23 _ _ ?_
       refine ae ?_
       refine ac h (ce (h.ev rfl) (h.ev rfl) (by omega)) rfl ?_;intro f h
       refine ac h (ag (h.ev rfl)) rfl ?_;intro f h
       refine ah ?_
       refine bT ?_
       exact ⟨_,by omega,⟨j+1,h.only ⟨rfl,rfl,rfl,rfl,rfl,rfl,rfl,rfl,rfl,rfl,aO rfl (by omega),trivial⟩,St.as (s.pick _ (List.sublist_append_right [_,_] _)) ⟨rfl,rfl,rfl,rfl,trivial⟩,rfl,by omega,de hp1 (CA f0)⟩⟩
      ·skip
       cases f1:(decide ((ft (aR L) ((aJ (L.getD k z3).1).getD j aZ).1)=((aJ (L.getD k z3).1).getD j aZ)):Bool)
       ·skip
        refine ae ?_
        refine ac h (ai aH (h.ev rfl)) rfl ?_;intro f h
        refine aq (am (aL.of_own s 0 rfl) 0 (aP _)) h bw rfl rfl ?_;intro f h
        refine ac h (aw (.bool true) (dm (h.ev rfl) (h.ev rfl)) (congrArg Value.bool f0)) rfl ?_;intro f h
        refine ac h (ag (h.ev rfl)) rfl ?_;intro f h
        refine aA h rfl rfl rfl ?_
        refine au 0 h s aC rfl rfl (aj _) rfl ?_;intro f h
        refine aA h rfl rfl rfl ?_
        refine au 1 h s aC rfl rfl (aj _) rfl ?_;intro f h
        refine aA h rfl rfl rfl ?_
        refine ac h (aw (.bool true) (eh (eo _ _) (by kernel_rfl) (by decide) (h.ev rfl) (h.ev rfl) (decide ((ft (aR L) ((aJ (L.getD k z3).1).getD j aZ).1)=((aJ (L.getD k z3).1).getD j aZ))) (cR _ _)) (by rw [f1];rfl)) rfl ?_;intro f h
        refine ac h (aD (h.ev rfl) (h.ev rfl)) rfl ?_;intro f h
        refine ah ?_
        refine hK26 _ _ ?_
        refine wpIn_cond_true (h.ev rfl) ?_
        refine al fun K27 hK27=>?_
        refine ae ?_
        refine ac h (ak (h.ev rfl)) rfl ?_;intro f h
        refine ah ?_
        refine hK27 _ _ ?_
        refine wpIn_ret ?_
        refine bQ ?_
        refine aY ?_
        refine aY ?_
        refine bQ ?_
        refine bQ ?_
        refine aY ?_
        refine aY ?_
        refine bQ ?_
        refine aY ?_
        exact bo rfl h s rfl (by show _=_;rw [jG hkl (Db hjl (by rw [yn f0,f1];rfl))])
       ·skip
        refine ae ?_
        refine ac h (ai aH (h.ev rfl)) rfl ?_;intro f h
        refine aq (am (aL.of_own s 0 rfl) 0 (aP _)) h bw rfl rfl ?_;intro f h
        refine ac h (aw (.bool true) (dm (h.ev rfl) (h.ev rfl)) (congrArg Value.bool f0)) rfl ?_;intro f h
        refine ac h (ag (h.ev rfl)) rfl ?_;intro f h
        refine aA h rfl rfl rfl ?_
        refine au 0 h s aC rfl rfl (aj _) rfl ?_;intro f h
        refine aA h rfl rfl rfl ?_
        refine au 1 h s aC rfl rfl (aj _) rfl ?_;intro f h
        refine aA h rfl rfl rfl ?_
        refine ac h (aw (.bool false) (eh (eo _ _) (by kernel_rfl) (by decide) (h.ev rfl) (h.ev rfl) (decide ((ft (aR L) ((aJ (L.getD k z3).1).getD j aZ).1)=((aJ (L.getD k z3).1).getD j aZ))) (cR _ _)) (by rw [f1];rfl)) rfl ?_;intro f h
        refine ac h (aD (h.ev rfl) (h.ev rfl)) rfl ?_;intro f h
        refine ah ?_
        refine hK26 _ _ ?_
        refine wpIn_cond_false (h.ev rfl) ?_
        refine wpIn_skip ?_
        refine bF ?_
        refine hK23 _ _ ?_
        refine ae ?_
        refine ac h (ce (h.ev rfl) (h.ev rfl) (by omega)) rfl ?_;intro f h
        refine ac h (ag (h.ev rfl)) rfl ?_;intro f h
        refine ah ?_
        refine bT ?_
        exact ⟨_,by omega,⟨j+1,h.only ⟨rfl,rfl,rfl,rfl,rfl,rfl,rfl,rfl,rfl,rfl,aO rfl (by omega),trivial⟩,St.as (s.pick _ (List.sublist_append_right [_,_] _)) ⟨rfl,rfl,rfl,rfl,trivial⟩,rfl,by omega,de hp1 (by rw [yn f0,f1];rfl)⟩⟩
     ·replace hc:=of_decide_eq_false hc
      refine wpIn_exit ?_
      refine bJ ?_
      refine bJ ?_
      refine cC ?_
      refine bF ?_
      refine hK7 _ _ ?_
      refine ae ?_
      refine ac h (ce (h.ev rfl) (h.ev rfl) (by omega)) rfl ?_;intro f h
      refine ac h (ag (h.ev rfl)) rfl ?_;intro f h
      refine ah ?_
      refine bT ?_
      have hb9:gc L k=false:=CF (j:=j) hr9 hk9 (by omega) hp1
      exact ⟨_,by omega,⟨k+1,h.only ⟨rfl,rfl,rfl,rfl,rfl,rfl,aO rfl (by omega),trivial⟩,St.as (s.pick _ (List.sublist_append_right [_,_] _)) ⟨rfl,rfl,trivial⟩,rfl,by omega,de hq1 hb9⟩⟩
    ·skip
     refine bH 21 [[],[0],[0,1],[0,1,2],[0,1,2,3],[0,1,2,3,4],[0,1,2,3,4,5],[0,1,2,3,4,5,6],[0,1,2,3,4,5,6,7],[0,1,2,3,4,5,6],[0,1,2,3,4,5,6,9],[0,1,2,3,4,5,6,7,8,9,10],[0,1,2,3,4,5,6,7,8,9,10,11],[0,1,2,3,4,5,6,7,8,9,10,11,12],[0,1,2,3,4,5,6,7,8,9,10,11,12,13],[0,1,2,3,4,5,6],[0,1,2,3,4,5,6,15],[0,1,2,3,4,5,6,15,16],[0,1,2,3,4,5,6,7,8,9,10,11,12,13,14,15,16,17],[0,1,2,3,4,5,6,7,8,9,10,11,12,13,14,15,16,17,18],[0,1,2,3,4,5,6,7,8,9,10,11,12,13,14,15,16,17,18,19]] h (by kernel_rfl) (by kernel_rfl) (by kernel_rfl) ?_
     refine bM 0 h s aW rfl rfl (ap _ _ _ _) rfl ?_;intro f h
     refine cn h r2 (fun w9 hE9=>aM (.bool true) (fV (L.getD k z3).1 (L.getD k z3).2.1 (L.getD k z3).2.2 w9 ((hO.2 _ (bu hkl)).1.keep (s.ext.trans hE9)) ((hO.2 _ (bu hkl)).2.keep (s.ext.trans hE9)) (by omega) (by omega)) (congrArg Value.bool r0)) rfl rfl ?_;intro f h
     refine ao h (aw (.bool false) (bB (h.ev rfl)) rfl) rfl ?_;intro f h
     refine ao h (ag (h.ev rfl)) rfl ?_;intro f h
     refine aT h rfl rfl rfl ?_
     refine ao h (ag (h.ev rfl)) rfl ?_;intro f h
     refine aT h rfl rfl rfl ?_
     refine ao h (aw (.bool true) (cY (h.ev rfl) (h.ev rfl)) (congrArg Value.bool (decide_eq_true (by have:=of_decide_eq_true k0;omega)))) rfl ?_;intro f h
     refine aT h rfl rfl rfl ?_
     refine ao h (ag (h.ev rfl)) rfl ?_;intro f h
     refine aT h rfl rfl rfl ?_
     refine ao h (ai cp (h.ev rfl)) rfl ?_;intro f h
     refine aT h rfl rfl rfl ?_
     refine aU (V:=vo) (am (aL.of_own s 2 rfl) 0 rfl) h da rfl rfl ?_;intro f h
     refine aT h rfl rfl rfl ?_
     refine ao h (ag (h.ev rfl)) rfl ?_;intro f h
     refine aT h rfl rfl rfl ?_
     have hk0:=of_decide_eq_true k0
     refine ao h (eS (h.ev rfl) (h.ev rfl) (by omega)) rfl ?_;intro f h
     refine aT h rfl rfl rfl ?_
     refine ao h (cc (hO.1.keep s.ext) ((k - 1)) Tryz.underlying22 eA (h.ev rfl) (h.ev rfl) (by omega) (by omega)) rfl ?_;intro f h
     refine aT h rfl rfl rfl ?_
     refine ao h (bL aK (h.ev rfl) ((hO.1.keep s.ext).some (by omega))) rfl ?_;intro f h
     refine aT h rfl rfl rfl ?_
     refine ao h (bL aH (h.ev rfl) ((hO.1.keep s.ext).some (by omega))) rfl ?_;intro f h
     refine aT h rfl rfl rfl ?_
     refine aU (V:=.int .i64 (L.getD (k - 1) z3).1.me.1) (ez (hO.1.keep s.ext) ((k - 1)*68+0) (ie L (k - 1) (by omega))) h bw rfl rfl ?_;intro f h
     refine aT h rfl rfl rfl ?_
     refine ao h (ai aK (h.ev rfl)) rfl ?_;intro f h
     refine aT h rfl rfl rfl ?_
     refine ao h (ai aH (h.ev rfl)) rfl ?_;intro f h
     refine aT h rfl rfl rfl ?_
     refine aU (am (aL.of_own s 0 rfl) 0 (bZ _ _ _ _)) h bw rfl rfl ?_;intro f h
     refine aT h rfl rfl rfl ?_
     refine ao h (aw (.bool true) (dm (h.ev rfl) (h.ev rfl)) (congrArg Value.bool k1)) rfl ?_;intro f h
     refine aT h rfl rfl rfl ?_
     refine ao h (aD (h.ev rfl) (h.ev rfl)) rfl ?_;intro f h
     refine ao h (aF (h.ev rfl) (h.ev rfl)) rfl ?_;intro f h
     refine ck s fun w1 s=>?_
     refine ah ?_
     refine hK10 _ _ ?_
     refine wpIn_cond_true (h.ev rfl) ?_
     refine al fun K28 hK28=>?_
     refine ae ?_
     refine ac h (ak (h.ev rfl)) rfl ?_;intro f h
     refine ah ?_
     refine hK28 _ _ ?_
     refine wpIn_ret ?_
     refine aY ?_
     refine bQ ?_
     refine aY ?_
     refine aY ?_
     refine bQ ?_
     refine aY ?_
     exact bo rfl h s rfl (by show _=_;rw [jG hkl (Dd k0 k1)])
 ·replace hc:=of_decide_eq_false hc
  refine wpIn_exit ?_
  refine bJ ?_
  refine bJ ?_
  refine cC ?_
  refine hK3 _ _ ?_
  refine al fun K29 hK29=>?_
  refine ae ?_
  refine ac h (ag (h.ev rfl)) rfl ?_;intro f h
  refine aI h s Cx (qY (aR L) v10 _ (bX.of_own (s.getSl 0 rfl)) (by rw [List.length_map];omega)) rfl rfl ?_;intro f w1 v9 hT hE h s;obtain rfl:=hT
  refine ac h (ak (h.ev rfl)) rfl ?_;intro f h
  refine ah ?_
  refine hK29 _ _ ?_
  refine wpIn_ret ?_
  exact bo rfl h s rfl (by show _=_;rw [xH (by omega) hp1])
end Go.Proofs.YthggibfkgofncaaGreat
