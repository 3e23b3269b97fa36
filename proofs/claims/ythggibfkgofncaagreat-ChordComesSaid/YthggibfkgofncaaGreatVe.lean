/- Which overlays may be, by the reference. -/
import Derived.Test.YthggibfkgofncaaGreatVb
import Derived.Test.YthggibfkgofncaaGreatVd
set_option linter.unusedVariables false
set_option linter.unusedSimpArgs false
set_option linter.unusedSectionVars false
namespace Go.Proofs.YthggibfkgofncaaGreat
open Go.RowKit
theorem qj (l:List Mb) (vh:Value) (w:World) (hR:bK w vh 33 l.length (av l)) (hln:l.length≤1000):Calls Tryz.prog 44 [vh].toArray w (cT w (is (.bool (cY l)))):=by
 refine bj Tryz.func44 rfl Tryz.ntmps44 rfl [(0,vh)] (by simp) fun f h=>?_
 have s:=St.start w
 refine aj fun K1 hK1=>?_
 refine ae ?_
 refine ac h (ai (h.ev rfl)) rfl ?_;intro f h
 refine ah ?_
 refine hK1 _ _ ?_
 refine aj fun K2 hK2=>?_
 refine aj fun K3 hK3=>?_
 refine ae ?_
 refine ac h (ag (h.ev rfl)) rfl ?_;intro f h
 refine ac h (aY (hR.keep s.ext) Tryz.underlying36 (h.ev rfl)) rfl ?_;intro f h
 refine ac h (ag (h.ev rfl)) rfl ?_;intro f h
 refine ah ?_
 refine hK3 _ _ ?_
 refine wpIn_block ?_
 refine wpIn_loop_ghost (fun nn aa ww=>∃ k:Nat,Sl 47 aa [(0,vh),(7,vh),(8,.int .i64 (l.length:Int)),(9,.int .i64 (k:Int))]∧St w [] ww∧nn=l.length - k∧k≤l.length∧∀ j,j<k→ie l j=false) (l.length - (0)) ⟨0,h.only ⟨rfl,rfl,rfl,aR rfl (by omega),trivial⟩,s.as trivial,rfl,Nat.zero_le _,fun j hj=>absurd hj (Nat.not_lt_zero _)⟩ ?_
 rintro _ f w1 ⟨k,h,s,hnn,hp0,hp1⟩
 refine aj fun K4 hK4=>?_
 refine ae ?_
 refine ac h (bD (h.ev rfl) (h.ev rfl)) rfl ?_;intro f h
 refine ah ?_
 refine hK4 _ _ ?_
 refine aj fun K5 hK5=>?_
 refine bA h rfl (fun hc=>?_) (fun hc=>?_)
 ·replace hc:=of_decide_eq_true hc
  refine wpIn_skip ?_
  refine hK5 _ _ ?_
  refine aj fun K6 hK6=>?_
  refine wpIn_block ?_
  refine aj fun K7 hK7=>?_
  refine ae ?_
  refine ac h (ag (h.ev rfl)) rfl ?_;intro f h
  have hkl:k<l.length:=by omega
  refine ac h (ce (hR.keep s.ext) (k) Tryz.underlying36 cG (h.ev rfl) (h.ev rfl) (by omega) (by omega)) rfl ?_;intro f h
  refine aM ((hR.keep s.ext).el (k) (by omega) (by decide) (D:=au (l.getD k a8)) (cK l k hkl)) h aL rfl (ak _) rfl ?_;intro f h
  refine ba (au a8) h s cz rfl rfl ?_;intro f w1 b4 h s
  refine ac h (ai (h.ev rfl)) rfl ?_;intro f h
  refine ay 0 h s aL rfl rfl rfl (ak _) (ak _) (bf _) ?_;intro w1 s
  refine ah ?_
  refine hK7 _ _ ?_
  refine aj fun K8 hK8=>?_
  refine aj fun K9 hK9=>?_
  cases k0:(decide ((l.getD k a8).1<0):Bool)
  ·skip
   cases k1:(decide (16≤(l.getD k a8).1):Bool)
   ·skip
    refine ae ?_
    refine ac h (al aP (h.ev rfl)) rfl ?_;intro f h
    refine ar (am (bc.of_own s 0 rfl) 0 (aV _)) h bO rfl rfl ?_;intro f h
    refine ac h (aw (.bool false) (bD (h.ev rfl) (h.ev rfl)) (congrArg Value.bool k0)) rfl ?_;intro f h
    refine ac h (ag (h.ev rfl)) rfl ?_;intro f h
    refine aB h rfl rfl rfl ?_
    refine ac h (al aP (h.ev rfl)) rfl ?_;intro f h
    refine aB h rfl rfl rfl ?_
    refine ar (am (bc.of_own s 0 rfl) 0 (aV _)) h bO rfl rfl ?_;intro f h
    refine aB h rfl rfl rfl ?_
    refine ac h (aw (.bool false) (cL (h.ev rfl) (h.ev rfl)) (congrArg Value.bool ((decide_eq_decide.2 (by omega)).trans k1))) rfl ?_;intro f h
    refine ac h (aE (h.ev rfl) (h.ev rfl)) rfl ?_;intro f h
    refine ah ?_
    refine hK9 _ _ ?_
    refine wpIn_cond_false (h.ev rfl) ?_
    refine wpIn_skip ?_
    refine hK8 _ _ ?_
    refine aj fun K10 hK10=>?_
    refine ae ?_
    have hq1:=hp1
    have hlt9:(l.take k).length=k:=by rw [List.length_take];omega
    refine ac h (ag (h.ev rfl)) rfl ?_;intro f h
    refine ac h (ag (h.ev rfl)) rfl ?_;intro f h
    refine ac h (dl (hR.keep s.ext) (k) Tryz.underlying36 cG (h.ev rfl) (h.ev rfl) (rfl) (by omega)) rfl ?_;intro f h
    refine ac h (aY ((eO hR k (by omega)).keep s.ext) Tryz.underlying36 (h.ev rfl)) rfl ?_;intro f h
    refine ac h (ag (h.ev rfl)) rfl ?_;intro f h
    refine ah ?_
    refine hK10 _ _ ?_
    refine wpIn_block ?_
    refine wpIn_loop_ghost (fun nn aa ww=>∃ j:Nat,Sl 47 aa [(0,vh),(4,.pointer (some ⟨b4,0,none⟩)),(7,vh),(8,.int .i64 (l.length:Int)),(9,.int .i64 (k:Int)),(24,gb vh k),(25,.int .i64 ((l.take k).length:Int)),(26,.int .i64 (j:Int))]∧St w [.blk b4 (.cells (au (l.getD k a8)) 28)] ww∧nn=k - j∧j≤k∧∀ i,i<j→gN (l.getD k a8) (l.getD i a8)=false) (k - (0)) ⟨0,h.only ⟨rfl,rfl,rfl,rfl,rfl,rfl,rfl,aR rfl (by omega),trivial⟩,s.as ⟨rfl,trivial⟩,rfl,Nat.zero_le _,fun j hj=>absurd hj (Nat.not_lt_zero _)⟩ ?_
    rintro _ f w1 ⟨j,h,s,hnn,hp0,hp1⟩
    refine aj fun K11 hK11=>?_
    refine ae ?_
    refine ac h (bD (h.ev rfl) (h.ev rfl)) rfl ?_;intro f h
    refine ah ?_
    refine hK11 _ _ ?_
    refine aj fun K12 hK12=>?_
    refine bA h rfl (fun hc=>?_) (fun hc=>?_)
    ·replace hc:=of_decide_eq_true hc
     refine wpIn_skip ?_
     refine hK12 _ _ ?_
     refine aj fun K13 hK13=>?_
     refine wpIn_block ?_
     refine aj fun K14 hK14=>?_
     refine ae ?_
     have hjk:j<k:=by omega
     refine ac h (ce ((eO hR k (by omega)).keep s.ext) (j) Tryz.underlying36 cG (h.ev rfl) (h.ev rfl) (by omega) (by omega)) rfl ?_;intro f h
     refine aM (((eO hR k (by omega)).keep s.ext).el (j) (by omega) (by decide) (D:=au (l.getD j a8)) (tH l hjk (by omega))) h aL rfl (ak _) rfl ?_;intro f h
     refine ba (au a8) h s cz rfl rfl ?_;intro f w1 b6 h s
     refine ay 0 h s aL rfl rfl rfl (ak _) (ak _) (bf _) ?_;intro w1 s
     refine ah ?_
     refine hK14 _ _ ?_
     refine aj fun K15 hK15=>?_
     cases h0:(decide ((l.getD j a8).1=(l.getD k a8).1):Bool)
     ·skip
      refine ae ?_
      refine ac h (al aP (h.ev rfl)) rfl ?_;intro f h
      refine ar (am (bc.of_own s 0 rfl) 0 (aV _)) h bO rfl rfl ?_;intro f h
      refine ac h (al aP (h.ev rfl)) rfl ?_;intro f h
      refine ar (am (bc.of_own s 1 rfl) 0 (aV _)) h bO rfl rfl ?_;intro f h
      refine ac h (aw (.bool false) (cc (h.ev rfl) (h.ev rfl)) (congrArg Value.bool h0)) rfl ?_;intro f h
      refine ac h (ag (h.ev rfl)) rfl ?_;intro f h
      refine aB h rfl rfl rfl ?_
      refine ac h (al c3 (h.ev rfl)) rfl ?_;intro f h
      refine aB h rfl rfl rfl ?_
      refine aM (bc.subL (bc.of_own s 0 rfl) 1 32 (D:=bq (_)) (cW _)) h bV rfl (by first|exact aI _|exact aG _ _) rfl ?_;intro f h
      refine aB h rfl rfl rfl ?_
      refine ac h (al c3 (h.ev rfl)) rfl ?_;intro f h
      refine aB h rfl rfl rfl ?_
      refine aM (bc.subL (bc.of_own s 1 rfl) 1 32 (D:=bq (_)) (cW _)) h bV rfl (by first|exact aI _|exact aG _ _) rfl ?_;intro f h
      refine aB h rfl rfl rfl ?_
      refine ac h (dU fv (h.ev rfl) (h.ev rfl)) rfl ?_;intro f h
      refine ac h (aE (h.ev rfl) (h.ev rfl)) rfl ?_;intro f h
      refine ah ?_
      refine hK15 _ _ ?_
      refine bA h rfl (fun hc=>?_) (fun hc=>?_)
      ·refine aj fun K16 hK16=>?_
       refine ae ?_
       refine ac h (ai (h.ev rfl)) rfl ?_;intro f h
       refine ah ?_
       refine hK16 _ _ ?_
       refine wpIn_ret ?_
       refine bu ?_
       refine aQ ?_
       refine aQ ?_
       refine bu ?_
       refine bu ?_
       refine aQ ?_
       refine aQ ?_
       refine bu ?_
       refine aQ ?_
       exact aX rfl h s rfl (by show _=_;rw [dQ hkl ((lD k0 k1).trans (km (by omega) hjk ((nN h0).trans hc)))]<;>rfl)
      ·refine wpIn_skip ?_
       refine bF ?_
       refine hK13 _ _ ?_
       refine ae ?_
       refine ac h (cg (h.ev rfl) (h.ev rfl) (by omega)) rfl ?_;intro f h
       refine ac h (ag (h.ev rfl)) rfl ?_;intro f h
       refine ah ?_
       refine bQ ?_
       have hb8:gN (l.getD k a8) (l.getD j a8)=false:=(nN h0).trans hc
       exact ⟨_,by omega,⟨j+1,h.only ⟨rfl,rfl,rfl,rfl,rfl,rfl,rfl,aR rfl (by omega),trivial⟩,St.as (s.pick _ (List.sublist_append_right [_] _)) ⟨rfl,trivial⟩,rfl,by omega,cV hp1 hb8⟩⟩
     ·skip
      refine ae ?_
      refine ac h (al aP (h.ev rfl)) rfl ?_;intro f h
      refine ar (am (bc.of_own s 0 rfl) 0 (aV _)) h bO rfl rfl ?_;intro f h
      refine ac h (al aP (h.ev rfl)) rfl ?_;intro f h
      refine ar (am (bc.of_own s 1 rfl) 0 (aV _)) h bO rfl rfl ?_;intro f h
      refine ac h (aw (.bool true) (cc (h.ev rfl) (h.ev rfl)) (congrArg Value.bool h0)) rfl ?_;intro f h
      refine ac h (ag (h.ev rfl)) rfl ?_;intro f h
      refine aC (b:=false) h rfl rfl rfl rfl ?_;intro f h
      refine aC (b:=false) h rfl rfl rfl rfl ?_;intro f h
      refine aC (b:=false) h rfl rfl rfl rfl ?_;intro f h
      refine aC (b:=false) h rfl rfl rfl rfl ?_;intro f h
      refine aC (b:=false) h rfl rfl rfl rfl ?_;intro f h
      refine ac h (aJ (h.ev rfl) (h.ev rfl)) rfl ?_;intro f h
      refine ah ?_
      refine hK15 _ _ ?_
      refine wpIn_cond_true (h.ev rfl) ?_
      refine aj fun K17 hK17=>?_
      refine ae ?_
      refine ac h (ai (h.ev rfl)) rfl ?_;intro f h
      refine ah ?_
      refine hK17 _ _ ?_
      refine wpIn_ret ?_
      refine bu ?_
      refine aQ ?_
      refine aQ ?_
      refine bu ?_
      refine bu ?_
      refine aQ ?_
      refine aQ ?_
      refine bu ?_
      refine aQ ?_
      exact aX rfl h s rfl (by show _=_;rw [dQ hkl ((lD k0 k1).trans (km (by omega) hjk (qU h0)))]<;>rfl)
    ·replace hc:=of_decide_eq_false hc
     refine wpIn_exit ?_
     refine bw ?_
     refine bw ?_
     refine cq ?_
     refine bF ?_
     refine hK6 _ _ ?_
     refine ae ?_
     refine ac h (cg (h.ev rfl) (h.ev rfl) (by omega)) rfl ?_;intro f h
     refine ac h (ag (h.ev rfl)) rfl ?_;intro f h
     refine ah ?_
     refine bQ ?_
     have hb9:ie l k=false:=(lD k0 k1).trans (pi (by omega) (fun i hi=>hp1 i (by omega)))
     exact ⟨_,by omega,⟨k+1,h.only ⟨rfl,rfl,rfl,aR rfl (by omega),trivial⟩,St.as (s.pick _ (List.sublist_append_right [_] _)) trivial,rfl,by omega,cV hq1 hb9⟩⟩
   ·skip
    refine ae ?_
    refine ac h (al aP (h.ev rfl)) rfl ?_;intro f h
    refine ar (am (bc.of_own s 0 rfl) 0 (aV _)) h bO rfl rfl ?_;intro f h
    refine ac h (aw (.bool false) (bD (h.ev rfl) (h.ev rfl)) (congrArg Value.bool k0)) rfl ?_;intro f h
    refine ac h (ag (h.ev rfl)) rfl ?_;intro f h
    refine aB h rfl rfl rfl ?_
    refine ac h (al aP (h.ev rfl)) rfl ?_;intro f h
    refine aB h rfl rfl rfl ?_
    refine ar (am (bc.of_own s 0 rfl) 0 (aV _)) h bO rfl rfl ?_;intro f h
    refine aB h rfl rfl rfl ?_
    refine ac h (aw (.bool true) (cL (h.ev rfl) (h.ev rfl)) (congrArg Value.bool ((decide_eq_decide.2 (by omega)).trans k1))) rfl ?_;intro f h
    refine ac h (aE (h.ev rfl) (h.ev rfl)) rfl ?_;intro f h
    refine ah ?_
    refine hK9 _ _ ?_
    refine wpIn_cond_true (h.ev rfl) ?_
    refine aj fun K18 hK18=>?_
    refine ae ?_
    refine ac h (ai (h.ev rfl)) rfl ?_;intro f h
    refine ah ?_
    refine hK18 _ _ ?_
    refine wpIn_ret ?_
    refine aQ ?_
    refine bu ?_
    refine aQ ?_
    refine aQ ?_
    refine bu ?_
    refine aQ ?_
    exact aX rfl h s rfl (by show _=_;rw [dQ hkl (vD k1)]<;>rfl)
  ·skip
   refine ae ?_
   refine ac h (al aP (h.ev rfl)) rfl ?_;intro f h
   refine ar (am (bc.of_own s 0 rfl) 0 (aV _)) h bO rfl rfl ?_;intro f h
   refine ac h (aw (.bool true) (bD (h.ev rfl) (h.ev rfl)) (congrArg Value.bool k0)) rfl ?_;intro f h
   refine ac h (ag (h.ev rfl)) rfl ?_;intro f h
   refine aC (b:=false) h rfl rfl rfl rfl ?_;intro f h
   refine aC (b:=false) h rfl rfl rfl rfl ?_;intro f h
   refine aC (b:=false) h rfl rfl rfl rfl ?_;intro f h
   refine ac h (aJ (h.ev rfl) (h.ev rfl)) rfl ?_;intro f h
   refine ah ?_
   refine hK9 _ _ ?_
   refine wpIn_cond_true (h.ev rfl) ?_
   refine aj fun K19 hK19=>?_
   refine ae ?_
   refine ac h (ai (h.ev rfl)) rfl ?_;intro f h
   refine ah ?_
   refine hK19 _ _ ?_
   refine wpIn_ret ?_
   refine aQ ?_
   refine bu ?_
   refine aQ ?_
   refine aQ ?_
   refine bu ?_
   refine aQ ?_
   exact aX rfl h s rfl (by show _=_;rw [dQ hkl (tA k0)]<;>rfl)
 ·replace hc:=of_decide_eq_false hc
  refine wpIn_exit ?_
  refine bw ?_
  refine bw ?_
  refine cq ?_
  refine hK2 _ _ ?_
  refine aj fun K20 hK20=>?_
  refine ae ?_
  refine ac h (ag (h.ev rfl)) rfl ?_;intro f h
  refine ac h (aY (hR.keep s.ext) Tryz.underlying36 (h.ev rfl)) rfl ?_;intro f h
  refine ac h (fH (h.ev rfl) (h.ev rfl)) rfl ?_;intro f h
  refine ac h (ai (h.ev rfl)) rfl ?_;intro f h
  refine ah ?_
  refine hK20 _ _ ?_
  refine wpIn_ret ?_
  exact aX rfl h s rfl (by show _=_;rw [qp (fun j hj=>hp1 j (by omega))];exact congrArg Value.bool (decide_eq_decide.2 (by omega)))
set_option maxHeartbeats 1000000 in
theorem fT (n:Nd) (vs vf:Value) (w:World) (hRs:bK w vs 33 n.sc.length (av n.sc)) (hRf:bK w vf 33 n.fg.length (av n.fg)) (hns:n.sc.length≤1000) (hnf:n.fg.length≤1000):Calls Tryz.prog 41 [.agg (aD n.me n.pr vs vf)].toArray w (cT w (is (.bool (cM n)))):=by
 refine bj Tryz.func41 rfl Tryz.ntmps41 rfl [(0,.agg (aD n.me n.pr vs vf))] (by simp) fun f h=>?_
 have s:=St.start w
 refine aj fun K1 hK1=>?_
 refine ae ?_
 refine bT (aD n.me n.pr vs vf) h s rfl rfl rfl ?_;intro f w1 b1 h s
 refine ac h (ai (h.ev rfl)) rfl ?_;intro f h
 refine ah ?_
 refine hK1 _ _ ?_
 refine aj fun K2 hK2=>?_
 refine aj fun K3 hK3=>?_
 cases h0:(dd n.me:Bool)
 ·skip
  refine ae ?_
  refine ac h (al a6 (h.ev rfl)) rfl ?_;intro f h
  refine aM (bc.subL (bc.of_own s 0 rfl) 0 33 (D:=au n.me) (bU _ _ _ _)) h aL rfl (ak _) rfl ?_;intro f h
  refine aF h s g4 (aO (.bool false) (dK n.me _) (congrArg Value.bool h0)) rfl rfl ?_;intro f w1 v9 hT hE h s;obtain rfl:=hT
  refine ac h (aw (.bool true) (bg (h.ev rfl)) rfl) rfl ?_;intro f h
  refine ac h (ag (h.ev rfl)) rfl ?_;intro f h
  refine aC (b:=false) h rfl rfl rfl rfl ?_;intro f h
  refine aC (b:=false) h rfl rfl rfl rfl ?_;intro f h
  refine aC (b:=false) h rfl rfl rfl rfl ?_;intro f h
  refine aC (b:=false) h rfl rfl rfl rfl ?_;intro f h
  refine aC (b:=false) h rfl rfl rfl rfl ?_;intro f h
  refine dw h rfl rfl rfl rfl ?_;intro f h
  refine dw h rfl rfl rfl rfl ?_;intro f h
  refine dw h rfl rfl rfl rfl ?_;intro f h
  refine dw h rfl rfl rfl rfl ?_;intro f h
  refine dw h rfl rfl rfl rfl ?_;intro f h
  refine dw h rfl rfl rfl rfl ?_;intro f h
  refine dw h rfl rfl rfl rfl ?_;intro f h
  refine dw h rfl rfl rfl rfl ?_;intro f h
  refine dw h rfl rfl rfl rfl ?_;intro f h
  refine dw h rfl rfl rfl rfl ?_;intro f h
  refine dw h rfl rfl rfl rfl ?_;intro f h
  refine dw h rfl rfl rfl rfl ?_;intro f h
  refine dw h rfl rfl rfl rfl ?_;intro f h
  refine aC (b:=false) h rfl rfl rfl rfl ?_;intro f h
  refine ac h (aJ (h.ev rfl) (h.ev rfl)) rfl ?_;intro f h
  refine ah ?_
  refine hK3 _ _ ?_
  refine wpIn_cond_true (h.ev rfl) ?_
  refine aj fun K4 hK4=>?_
  refine ae ?_
  refine ac h (ai (h.ev rfl)) rfl ?_;intro f h
  refine ah ?_
  refine hK4 _ _ ?_
  refine wpIn_ret ?_
  refine aQ ?_
  exact aX rfl h s rfl (by show _=_;rw [rH h0])
 ·skip
  cases p0:(decide (n.pr=d5):Bool)
  ·skip
   cases p1:(dd n.pr:Bool)
   ·skip
    refine ae ?_
    refine ac h (al a6 (h.ev rfl)) rfl ?_;intro f h
    refine aM (bc.subL (bc.of_own s 0 rfl) 0 33 (D:=au n.me) (bU _ _ _ _)) h aL rfl (ak _) rfl ?_;intro f h
    refine aF h s g4 (aO (.bool true) (dK n.me _) (congrArg Value.bool h0)) rfl rfl ?_;intro f w1 v9 hT hE h s;obtain rfl:=hT
    refine ac h (aw (.bool false) (bg (h.ev rfl)) rfl) rfl ?_;intro f h
    refine ac h (ag (h.ev rfl)) rfl ?_;intro f h
    refine aB h rfl rfl rfl ?_
    refine ac h (al cy (h.ev rfl)) rfl ?_;intro f h
    refine aB h rfl rfl rfl ?_
    refine aM (bc.subL (bc.of_own s 0 rfl) 33 33 (D:=au n.pr) (co _ _ _ _)) h aL rfl (ak _) rfl ?_;intro f h
    refine aB h rfl rfl rfl ?_
    refine aF h s kA (aO (.bool false) (ep n.pr _) (congrArg Value.bool p0)) rfl rfl ?_;intro f w1 v9 hT hE h s;obtain rfl:=hT
    refine aB h rfl rfl rfl ?_
    refine ac h (aw (.bool true) (bg (h.ev rfl)) rfl) rfl ?_;intro f h
    refine aB h rfl rfl rfl ?_
    refine ac h (ag (h.ev rfl)) rfl ?_;intro f h
    refine aB h rfl rfl rfl ?_
    refine ac h (al cy (h.ev rfl)) rfl ?_;intro f h
    refine aB h rfl rfl rfl ?_
    refine aM (bc.subL (bc.of_own s 0 rfl) 33 33 (D:=au n.pr) (co _ _ _ _)) h aL rfl (ak _) rfl ?_;intro f h
    refine aB h rfl rfl rfl ?_
    refine aF h s g4 (aO (.bool false) (dK n.pr _) (congrArg Value.bool p1)) rfl rfl ?_;intro f w1 v9 hT hE h s;obtain rfl:=hT
    refine aB h rfl rfl rfl ?_
    refine ac h (aw (.bool true) (bg (h.ev rfl)) rfl) rfl ?_;intro f h
    refine aB h rfl rfl rfl ?_
    refine ac h (ag (h.ev rfl)) rfl ?_;intro f h
    refine aC (b:=false) h rfl rfl rfl rfl ?_;intro f h
    refine aC (b:=false) h rfl rfl rfl rfl ?_;intro f h
    refine aC (b:=false) h rfl rfl rfl rfl ?_;intro f h
    refine aC (b:=false) h rfl rfl rfl rfl ?_;intro f h
    refine aC (b:=false) h rfl rfl rfl rfl ?_;intro f h
    refine aC (b:=false) h rfl rfl rfl rfl ?_;intro f h
    refine aC (b:=false) h rfl rfl rfl rfl ?_;intro f h
    refine aB h rfl rfl rfl ?_
    refine ac h (aJ (h.ev rfl) (h.ev rfl)) rfl ?_;intro f h
    refine aB h rfl rfl rfl ?_
    refine ac h (aJ (h.ev rfl) (h.ev rfl)) rfl ?_;intro f h
    refine ac h (aE (h.ev rfl) (h.ev rfl)) rfl ?_;intro f h
    refine ah ?_
    refine hK3 _ _ ?_
    refine wpIn_cond_true (h.ev rfl) ?_
    refine aj fun K5 hK5=>?_
    refine ae ?_
    refine ac h (ai (h.ev rfl)) rfl ?_;intro f h
    refine ah ?_
    refine hK5 _ _ ?_
    refine wpIn_ret ?_
    refine aQ ?_
    exact aX rfl h s rfl (by show _=_;rw [nt (x1 p0 p1)])
   ·skip
    cases p2:(decide (n.pr.1=n.me.1):Bool)
    ·skip
     refine ae ?_
     refine ac h (al a6 (h.ev rfl)) rfl ?_;intro f h
     refine aM (bc.subL (bc.of_own s 0 rfl) 0 33 (D:=au n.me) (bU _ _ _ _)) h aL rfl (ak _) rfl ?_;intro f h
     refine aF h s g4 (aO (.bool true) (dK n.me _) (congrArg Value.bool h0)) rfl rfl ?_;intro f w1 v9 hT hE h s;obtain rfl:=hT
     refine ac h (aw (.bool false) (bg (h.ev rfl)) rfl) rfl ?_;intro f h
     refine ac h (ag (h.ev rfl)) rfl ?_;intro f h
     refine aB h rfl rfl rfl ?_
     refine ac h (al cy (h.ev rfl)) rfl ?_;intro f h
     refine aB h rfl rfl rfl ?_
     refine aM (bc.subL (bc.of_own s 0 rfl) 33 33 (D:=au n.pr) (co _ _ _ _)) h aL rfl (ak _) rfl ?_;intro f h
     refine aB h rfl rfl rfl ?_
     refine aF h s kA (aO (.bool false) (ep n.pr _) (congrArg Value.bool p0)) rfl rfl ?_;intro f w1 v9 hT hE h s;obtain rfl:=hT
     refine aB h rfl rfl rfl ?_
     refine ac h (aw (.bool true) (bg (h.ev rfl)) rfl) rfl ?_;intro f h
     refine aB h rfl rfl rfl ?_
     refine ac h (ag (h.ev rfl)) rfl ?_;intro f h
     refine aB h rfl rfl rfl ?_
     refine ac h (al cy (h.ev rfl)) rfl ?_;intro f h
     refine aB h rfl rfl rfl ?_
     refine aM (bc.subL (bc.of_own s 0 rfl) 33 33 (D:=au n.pr) (co _ _ _ _)) h aL rfl (ak _) rfl ?_;intro f h
     refine aB h rfl rfl rfl ?_
     refine aF h s g4 (aO (.bool true) (dK n.pr _) (congrArg Value.bool p1)) rfl rfl ?_;intro f w1 v9 hT hE h s;obtain rfl:=hT
     refine aB h rfl rfl rfl ?_
     refine ac h (aw (.bool false) (bg (h.ev rfl)) rfl) rfl ?_;intro f h
     refine aB h rfl rfl rfl ?_
     refine ac h (ag (h.ev rfl)) rfl ?_;intro f h
     refine aB h rfl rfl rfl ?_
     refine ac h (al cy (h.ev rfl)) rfl ?_;intro f h
     refine aB h rfl rfl rfl ?_
     refine ac h (al aP (h.ev rfl)) rfl ?_;intro f h
     refine aB h rfl rfl rfl ?_
     refine ar (am (bc.of_own s 0 rfl) 33 (nf _ _ _ _)) h bO rfl rfl ?_;intro f h
     refine aB h rfl rfl rfl ?_
     refine ac h (al a6 (h.ev rfl)) rfl ?_;intro f h
     refine aB h rfl rfl rfl ?_
     refine ac h (al aP (h.ev rfl)) rfl ?_;intro f h
     refine aB h rfl rfl rfl ?_
     refine ar (am (bc.of_own s 0 rfl) 0 (bY _ _ _ _)) h bO rfl rfl ?_;intro f h
     refine aB h rfl rfl rfl ?_
     refine ac h (aw (.bool false) (cc (h.ev rfl) (h.ev rfl)) (congrArg Value.bool p2)) rfl ?_;intro f h
     refine aB h rfl rfl rfl ?_
     refine ac h (aE (h.ev rfl) (h.ev rfl)) rfl ?_;intro f h
     refine aB h rfl rfl rfl ?_
     refine ac h (aJ (h.ev rfl) (h.ev rfl)) rfl ?_;intro f h
     refine ac h (aE (h.ev rfl) (h.ev rfl)) rfl ?_;intro f h
     refine ah ?_
     refine hK3 _ _ ?_
     refine wpIn_cond_false (h.ev rfl) ?_
     refine wpIn_skip ?_
     refine hK2 _ _ ?_
     refine aj fun K6 hK6=>?_
     refine aj fun K7 hK7=>?_
     cases s0:(decide (n.sc.length<1):Bool)
     ·skip
      cases s1:(decide (4<n.sc.length):Bool)
      ·skip
       cases f0:(decide (16<n.fg.length):Bool)
       ·skip
        cases f1:(gP n.fg n.me.1:Bool)
        ·skip
         refine ae ?_
         refine ac h (al bI (h.ev rfl)) rfl ?_;intro f h
         refine ar (V:=vs) (am (bc.of_own s 0 rfl) 66 (bC _ _ _ _)) h bH rfl rfl ?_;intro f h
         refine ac h (aY (hRs.keep s.ext) Tryz.underlying36 (h.ev rfl)) rfl ?_;intro f h
         refine ac h (aw (.bool false) (bD (h.ev rfl) (h.ev rfl)) (congrArg Value.bool (decide_eq_false (by have:=of_decide_eq_false s0;omega)))) rfl ?_;intro f h
         refine ac h (ag (h.ev rfl)) rfl ?_;intro f h
         refine aB h rfl rfl rfl ?_
         refine ac h (al bI (h.ev rfl)) rfl ?_;intro f h
         refine aB h rfl rfl rfl ?_
         refine ar (V:=vs) (am (bc.of_own s 0 rfl) 66 (bC _ _ _ _)) h bH rfl rfl ?_;intro f h
         refine aB h rfl rfl rfl ?_
         refine ac h (aY (hRs.keep s.ext) Tryz.underlying36 (h.ev rfl)) rfl ?_;intro f h
         refine aB h rfl rfl rfl ?_
         refine ac h (aw (.bool false) (cL (h.ev rfl) (h.ev rfl)) (congrArg Value.bool (decide_eq_false (by have:=of_decide_eq_false s1;omega)))) rfl ?_;intro f h
         refine ac h (aE (h.ev rfl) (h.ev rfl)) rfl ?_;intro f h
         refine ac h (ag (h.ev rfl)) rfl ?_;intro f h
         refine aB h rfl rfl rfl ?_
         refine ac h (al cC (h.ev rfl)) rfl ?_;intro f h
         refine aB h rfl rfl rfl ?_
         refine ar (V:=vf) (am (bc.of_own s 0 rfl) 67 (cB _ _ _ _)) h bH rfl rfl ?_;intro f h
         refine aB h rfl rfl rfl ?_
         refine ac h (aY (hRf.keep s.ext) Tryz.underlying36 (h.ev rfl)) rfl ?_;intro f h
         refine aB h rfl rfl rfl ?_
         refine ac h (aw (.bool false) (cL (h.ev rfl) (h.ev rfl)) (congrArg Value.bool (decide_eq_false (by have:=of_decide_eq_false f0;omega)))) rfl ?_;intro f h
         refine ac h (aE (h.ev rfl) (h.ev rfl)) rfl ?_;intro f h
         refine ac h (ag (h.ev rfl)) rfl ?_;intro f h
         refine aB h rfl rfl rfl ?_
         refine ac h (al cC (h.ev rfl)) rfl ?_;intro f h
         refine aB h rfl rfl rfl ?_
         refine ar (V:=vf) (am (bc.of_own s 0 rfl) 67 (cB _ _ _ _)) h bH rfl rfl ?_;intro f h
         refine aB h rfl rfl rfl ?_
         refine ac h (al a6 (h.ev rfl)) rfl ?_;intro f h
         refine aB h rfl rfl rfl ?_
         refine ac h (al aP (h.ev rfl)) rfl ?_;intro f h
         refine aB h rfl rfl rfl ?_
         refine ar (am (bc.of_own s 0 rfl) 0 (bY _ _ _ _)) h bO rfl rfl ?_;intro f h
         refine aB h rfl rfl rfl ?_
         refine aF h s kO (aO (.bool false) (dL n.fg vf n.me.1 _ (hRf.keep s.ext) hnf) (congrArg Value.bool f1)) rfl rfl ?_;intro f w1 v9 hT hE h s;obtain rfl:=hT
         refine aB h rfl rfl rfl ?_
         refine ac h (aw (.bool true) (bg (h.ev rfl)) rfl) rfl ?_;intro f h
         refine ac h (aE (h.ev rfl) (h.ev rfl)) rfl ?_;intro f h
         refine ah ?_
         refine hK7 _ _ ?_
         refine wpIn_cond_true (h.ev rfl) ?_
         refine aj fun K8 hK8=>?_
         refine ae ?_
         refine ac h (ai (h.ev rfl)) rfl ?_;intro f h
         refine ah ?_
         refine hK8 _ _ ?_
         refine wpIn_ret ?_
         refine aQ ?_
         exact aX rfl h s rfl (by show _=_;rw [k9 (uQ f1)])
        ·skip
         refine ae ?_
         refine ac h (al bI (h.ev rfl)) rfl ?_;intro f h
         refine ar (V:=vs) (am (bc.of_own s 0 rfl) 66 (bC _ _ _ _)) h bH rfl rfl ?_;intro f h
         refine ac h (aY (hRs.keep s.ext) Tryz.underlying36 (h.ev rfl)) rfl ?_;intro f h
         refine ac h (aw (.bool false) (bD (h.ev rfl) (h.ev rfl)) (congrArg Value.bool (decide_eq_false (by have:=of_decide_eq_false s0;omega)))) rfl ?_;intro f h
         refine ac h (ag (h.ev rfl)) rfl ?_;intro f h
         refine aB h rfl rfl rfl ?_
         refine ac h (al bI (h.ev rfl)) rfl ?_;intro f h
         refine aB h rfl rfl rfl ?_
         refine ar (V:=vs) (am (bc.of_own s 0 rfl) 66 (bC _ _ _ _)) h bH rfl rfl ?_;intro f h
         refine aB h rfl rfl rfl ?_
         refine ac h (aY (hRs.keep s.ext) Tryz.underlying36 (h.ev rfl)) rfl ?_;intro f h
         refine aB h rfl rfl rfl ?_
         refine ac h (aw (.bool false) (cL (h.ev rfl) (h.ev rfl)) (congrArg Value.bool (decide_eq_false (by have:=of_decide_eq_false s1;omega)))) rfl ?_;intro f h
         refine ac h (aE (h.ev rfl) (h.ev rfl)) rfl ?_;intro f h
         refine ac h (ag (h.ev rfl)) rfl ?_;intro f h
         refine aB h rfl rfl rfl ?_
         refine ac h (al cC (h.ev rfl)) rfl ?_;intro f h
         refine aB h rfl rfl rfl ?_
         refine ar (V:=vf) (am (bc.of_own s 0 rfl) 67 (cB _ _ _ _)) h bH rfl rfl ?_;intro f h
         refine aB h rfl rfl rfl ?_
         refine ac h (aY (hRf.keep s.ext) Tryz.underlying36 (h.ev rfl)) rfl ?_;intro f h
         refine aB h rfl rfl rfl ?_
         refine ac h (aw (.bool false) (cL (h.ev rfl) (h.ev rfl)) (congrArg Value.bool (decide_eq_false (by have:=of_decide_eq_false f0;omega)))) rfl ?_;intro f h
         refine ac h (aE (h.ev rfl) (h.ev rfl)) rfl ?_;intro f h
         refine ac h (ag (h.ev rfl)) rfl ?_;intro f h
         refine aB h rfl rfl rfl ?_
         refine ac h (al cC (h.ev rfl)) rfl ?_;intro f h
         refine aB h rfl rfl rfl ?_
         refine ar (V:=vf) (am (bc.of_own s 0 rfl) 67 (cB _ _ _ _)) h bH rfl rfl ?_;intro f h
         refine aB h rfl rfl rfl ?_
         refine ac h (al a6 (h.ev rfl)) rfl ?_;intro f h
         refine aB h rfl rfl rfl ?_
         refine ac h (al aP (h.ev rfl)) rfl ?_;intro f h
         refine aB h rfl rfl rfl ?_
         refine ar (am (bc.of_own s 0 rfl) 0 (bY _ _ _ _)) h bO rfl rfl ?_;intro f h
         refine aB h rfl rfl rfl ?_
         refine aF h s kO (aO (.bool true) (dL n.fg vf n.me.1 _ (hRf.keep s.ext) hnf) (congrArg Value.bool f1)) rfl rfl ?_;intro f w1 v9 hT hE h s;obtain rfl:=hT
         refine aB h rfl rfl rfl ?_
         refine ac h (aw (.bool false) (bg (h.ev rfl)) rfl) rfl ?_;intro f h
         refine ac h (aE (h.ev rfl) (h.ev rfl)) rfl ?_;intro f h
         refine ah ?_
         refine hK7 _ _ ?_
         refine wpIn_cond_false (h.ev rfl) ?_
         refine wpIn_skip ?_
         refine hK6 _ _ ?_
         refine aj fun K9 hK9=>?_
         cases t0:(decide (n.sc.length=1):Bool)
         ·skip
          refine bJ 22 [[],[0],[0,1],[0,1,2],[0,1,2,3],[0,1,2,3,4],[0,1,2,3,4,5],[0,1,2,3,4,5,6],[0,1,2,3,4,5,6,7],[0,1,2,3,4],[0,1,2,3,4,9],[0,1,2,3,4,5,6,7,8,9,10],[0,1,2,3,4,5,6,7,8,9,10,11],[0,1,2,3,4,5,6,7,8,9,10,11,12],[0,1,2,3,4,5,6,7,8,9,10,11,12,13],[0,1,2,3,4,5,6,7,8,9,10,11,12,13,14],[0,1,2,3,4,5,6,7,8,9,10,11,12,13],[0,1,2,3,4,5,6,7,8,9,10,11,12,13,16],[0,1,2,3,4,5,6,7,8,9,10,11,12,13,16,17],[0,1,2,3,4,5,6,7,8,9,10,11,12,13,14,15,16,17,18],[0,1,2,3,4,5,6,7,8,9,10,11,12,13,14,15,16,17,18,19],[0,1,2,3,4,5,6,7,8,9,10,11,12,13,14,15,16,17,18,19,20]] h (by kernel_rfl) (by kernel_rfl) (by kernel_rfl) ?_
          refine ap h (al bI (h.ev rfl)) rfl ?_;intro f h
          refine bk (V:=vs) (am (bc.of_own s 0 rfl) 66 (bC _ _ _ _)) h bH rfl rfl ?_;intro f h
          refine ap h (aY (hRs.keep s.ext) Tryz.underlying36 (h.ev rfl)) rfl ?_;intro f h
          refine ap h (aw (.bool false) (cc (h.ev rfl) (h.ev rfl)) (congrArg Value.bool (decide_eq_false (by have:=of_decide_eq_false t0;omega)))) rfl ?_;intro f h
          refine ap h (ag (h.ev rfl)) rfl ?_;intro f h
          refine bm (b:=true) h rfl rfl rfl rfl ?_;intro f h
          refine bm (b:=true) h rfl rfl rfl rfl ?_;intro f h
          refine bm (b:=true) h rfl rfl rfl rfl ?_;intro f h
          refine bm (b:=true) h rfl rfl rfl rfl ?_;intro f h
          refine bm (b:=true) h rfl rfl rfl rfl ?_;intro f h
          refine bm (b:=true) h rfl rfl rfl rfl ?_;intro f h
          refine bm (b:=true) h rfl rfl rfl rfl ?_;intro f h
          refine ap h (aE (h.ev rfl) (h.ev rfl)) rfl ?_;intro f h
          refine ap h (ag (h.ev rfl)) rfl ?_;intro f h
          refine bi h rfl rfl rfl ?_
          refine ap h (al bI (h.ev rfl)) rfl ?_;intro f h
          refine bi h rfl rfl rfl ?_
          refine bk (V:=vs) (am (bc.of_own s 0 rfl) 66 (bC _ _ _ _)) h bH rfl rfl ?_;intro f h
          refine bi h rfl rfl rfl ?_
          refine ap h (al a6 (h.ev rfl)) rfl ?_;intro f h
          refine bi h rfl rfl rfl ?_
          refine ap h (al aP (h.ev rfl)) rfl ?_;intro f h
          refine bi h rfl rfl rfl ?_
          refine bk (am (bc.of_own s 0 rfl) 0 (bY _ _ _ _)) h bO rfl rfl ?_;intro f h
          refine bi h rfl rfl rfl ?_
          refine cm h kO (fun w9 hE9=>dL n.sc vs n.me.1 w9 (hRs.keep (s.ext.trans hE9)) hns) rfl rfl ?_;intro f h
          refine ap h (aE (h.ev rfl) (h.ev rfl)) rfl ?_;intro f h
          refine ap h (ai (h.ev rfl)) rfl ?_;intro f h
          refine cn s fun w1 s=>?_
          refine ah ?_
          refine hK9 _ _ ?_
          refine wpIn_ret ?_
          exact aX rfl h s rfl (by show _=_;rw [iv h0 (vy p0 p1 p2) (j5 f0 f1),ry s0 s1 (by rintro ⟨h9,h8⟩;exact absurd h9 (of_decide_eq_false t0))])
         ·skip
          cases t1:(decide (n.sc.getD 0 a8=n.me):Bool)
          ·skip
           refine bJ 22 [[],[0],[0,1],[0,1,2],[0,1,2,3],[0,1,2,3,4],[0,1,2,3,4,5],[0,1,2,3,4,5,6],[0,1,2,3,4,5,6,7],[0,1,2,3,4],[0,1,2,3,4,9],[0,1,2,3,4,5,6,7,8,9,10],[0,1,2,3,4,5,6,7,8,9,10,11],[0,1,2,3,4,5,6,7,8,9,10,11,12],[0,1,2,3,4,5,6,7,8,9,10,11,12,13],[0,1,2,3,4,5,6,7,8,9,10,11,12,13,14],[0,1,2,3,4,5,6,7,8,9,10,11,12,13],[0,1,2,3,4,5,6,7,8,9,10,11,12,13,16],[0,1,2,3,4,5,6,7,8,9,10,11,12,13,16,17],[0,1,2,3,4,5,6,7,8,9,10,11,12,13,14,15,16,17,18],[0,1,2,3,4,5,6,7,8,9,10,11,12,13,14,15,16,17,18,19],[0,1,2,3,4,5,6,7,8,9,10,11,12,13,14,15,16,17,18,19,20]] h (by kernel_rfl) (by kernel_rfl) (by kernel_rfl) ?_
           refine ap h (al bI (h.ev rfl)) rfl ?_;intro f h
           refine bk (V:=vs) (am (bc.of_own s 0 rfl) 66 (bC _ _ _ _)) h bH rfl rfl ?_;intro f h
           refine ap h (aY (hRs.keep s.ext) Tryz.underlying36 (h.ev rfl)) rfl ?_;intro f h
           refine ap h (aw (.bool true) (cc (h.ev rfl) (h.ev rfl)) (congrArg Value.bool (decide_eq_true (by have:=of_decide_eq_true t0;omega)))) rfl ?_;intro f h
           refine ap h (ag (h.ev rfl)) rfl ?_;intro f h
           refine bi h rfl rfl rfl ?_
           refine ap h (al bI (h.ev rfl)) rfl ?_;intro f h
           refine bi h rfl rfl rfl ?_
           refine bk (V:=vs) (am (bc.of_own s 0 rfl) 66 (bC _ _ _ _)) h bH rfl rfl ?_;intro f h
           refine bi h rfl rfl rfl ?_
           have h19:=of_decide_eq_true t0
           refine ap h (ce (hRs.keep s.ext) (0) Tryz.underlying36 cG (h.ev rfl) (h.ev rfl) (by omega) (by omega)) rfl ?_;intro f h
           refine bi h rfl rfl rfl ?_
           refine bz ((hRs.keep s.ext).el (0) (by omega) (by decide) (D:=au (n.sc.getD 0 a8)) (cK n.sc 0 (by omega))) h aL rfl (ak _) rfl ?_;intro f h
           refine bi h rfl rfl rfl ?_
           refine ap h (al a6 (h.ev rfl)) rfl ?_;intro f h
           refine bi h rfl rfl rfl ?_
           refine bz (bc.subL (bc.of_own s 0 rfl) 0 33 (D:=au n.me) (bU _ _ _ _)) h aL rfl (ak _) rfl ?_;intro f h
           refine bi h rfl rfl rfl ?_
           refine ap h (aw (.bool false) (c4 (gM _ _) (by kernel_rfl) (by decide) (h.ev rfl) (h.ev rfl) (decide (n.sc.getD 0 a8=n.me)) (dE _ _)) (congrArg Value.bool t1)) rfl ?_;intro f h
           refine ap h (aJ (h.ev rfl) (h.ev rfl)) rfl ?_;intro f h
           refine ap h (ag (h.ev rfl)) rfl ?_;intro f h
           refine bi h rfl rfl rfl ?_
           refine ap h (al bI (h.ev rfl)) rfl ?_;intro f h
           refine bi h rfl rfl rfl ?_
           refine bk (V:=vs) (am (bc.of_own s 0 rfl) 66 (bC _ _ _ _)) h bH rfl rfl ?_;intro f h
           refine bi h rfl rfl rfl ?_
           refine ap h (al a6 (h.ev rfl)) rfl ?_;intro f h
           refine bi h rfl rfl rfl ?_
           refine ap h (al aP (h.ev rfl)) rfl ?_;intro f h
           refine bi h rfl rfl rfl ?_
           refine bk (am (bc.of_own s 0 rfl) 0 (bY _ _ _ _)) h bO rfl rfl ?_;intro f h
           refine bi h rfl rfl rfl ?_
           refine cm h kO (fun w9 hE9=>dL n.sc vs n.me.1 w9 (hRs.keep (s.ext.trans hE9)) hns) rfl rfl ?_;intro f h
           refine ap h (aE (h.ev rfl) (h.ev rfl)) rfl ?_;intro f h
           refine ap h (ai (h.ev rfl)) rfl ?_;intro f h
           refine cn s fun w1 s=>?_
           refine ah ?_
           refine hK9 _ _ ?_
           refine wpIn_ret ?_
           exact aX rfl h s rfl (by show _=_;rw [iv h0 (vy p0 p1 p2) (j5 f0 f1),ry s0 s1 (by rintro ⟨h9,h8⟩;exact absurd h8 (of_decide_eq_false t1))])
          ·skip
           refine bJ 22 [[],[0],[0,1],[0,1,2],[0,1,2,3],[0,1,2,3,4],[0,1,2,3,4,5],[0,1,2,3,4,5,6],[0,1,2,3,4,5,6,7],[0,1,2,3,4],[0,1,2,3,4,9],[0,1,2,3,4,5,6,7,8,9,10],[0,1,2,3,4,5,6,7,8,9,10,11],[0,1,2,3,4,5,6,7,8,9,10,11,12],[0,1,2,3,4,5,6,7,8,9,10,11,12,13],[0,1,2,3,4,5,6,7,8,9,10,11,12,13,14],[0,1,2,3,4,5,6,7,8,9,10,11,12,13],[0,1,2,3,4,5,6,7,8,9,10,11,12,13,16],[0,1,2,3,4,5,6,7,8,9,10,11,12,13,16,17],[0,1,2,3,4,5,6,7,8,9,10,11,12,13,14,15,16,17,18],[0,1,2,3,4,5,6,7,8,9,10,11,12,13,14,15,16,17,18,19],[0,1,2,3,4,5,6,7,8,9,10,11,12,13,14,15,16,17,18,19,20]] h (by kernel_rfl) (by kernel_rfl) (by kernel_rfl) ?_
           refine ap h (al bI (h.ev rfl)) rfl ?_;intro f h
           refine bk (V:=vs) (am (bc.of_own s 0 rfl) 66 (bC _ _ _ _)) h bH rfl rfl ?_;intro f h
           refine ap h (aY (hRs.keep s.ext) Tryz.underlying36 (h.ev rfl)) rfl ?_;intro f h
           refine ap h (aw (.bool true) (cc (h.ev rfl) (h.ev rfl)) (congrArg Value.bool (decide_eq_true (by have:=of_decide_eq_true t0;omega)))) rfl ?_;intro f h
           refine ap h (ag (h.ev rfl)) rfl ?_;intro f h
           refine bi h rfl rfl rfl ?_
           refine ap h (al bI (h.ev rfl)) rfl ?_;intro f h
           refine bi h rfl rfl rfl ?_
           refine bk (V:=vs) (am (bc.of_own s 0 rfl) 66 (bC _ _ _ _)) h bH rfl rfl ?_;intro f h
           refine bi h rfl rfl rfl ?_
           have h19:=of_decide_eq_true t0
           refine ap h (ce (hRs.keep s.ext) (0) Tryz.underlying36 cG (h.ev rfl) (h.ev rfl) (by omega) (by omega)) rfl ?_;intro f h
           refine bi h rfl rfl rfl ?_
           refine bz ((hRs.keep s.ext).el (0) (by omega) (by decide) (D:=au (n.sc.getD 0 a8)) (cK n.sc 0 (by omega))) h aL rfl (ak _) rfl ?_;intro f h
           refine bi h rfl rfl rfl ?_
           refine ap h (al a6 (h.ev rfl)) rfl ?_;intro f h
           refine bi h rfl rfl rfl ?_
           refine bz (bc.subL (bc.of_own s 0 rfl) 0 33 (D:=au n.me) (bU _ _ _ _)) h aL rfl (ak _) rfl ?_;intro f h
           refine bi h rfl rfl rfl ?_
           refine ap h (aw (.bool true) (c4 (gM _ _) (by kernel_rfl) (by decide) (h.ev rfl) (h.ev rfl) (decide (n.sc.getD 0 a8=n.me)) (dE _ _)) (congrArg Value.bool t1)) rfl ?_;intro f h
           refine ap h (aJ (h.ev rfl) (h.ev rfl)) rfl ?_;intro f h
           refine ap h (ag (h.ev rfl)) rfl ?_;intro f h
           refine bm (b:=false) h rfl rfl rfl rfl ?_;intro f h
           refine bm (b:=false) h rfl rfl rfl rfl ?_;intro f h
           refine bm (b:=false) h rfl rfl rfl rfl ?_;intro f h
           refine bm (b:=false) h rfl rfl rfl rfl ?_;intro f h
           refine bm (b:=false) h rfl rfl rfl rfl ?_;intro f h
           refine bm (b:=false) h rfl rfl rfl rfl ?_;intro f h
           refine ap h (aJ (h.ev rfl) (h.ev rfl)) rfl ?_;intro f h
           refine ap h (ai (h.ev rfl)) rfl ?_;intro f h
           refine cn s fun w1 s=>?_
           refine ah ?_
           refine hK9 _ _ ?_
           refine wpIn_ret ?_
           exact aX rfl h s rfl (by show _=_;rw [iv h0 (vy p0 p1 p2) (j5 f0 f1),tD t0 t1])
       ·skip
        refine ae ?_
        refine ac h (al bI (h.ev rfl)) rfl ?_;intro f h
        refine ar (V:=vs) (am (bc.of_own s 0 rfl) 66 (bC _ _ _ _)) h bH rfl rfl ?_;intro f h
        refine ac h (aY (hRs.keep s.ext) Tryz.underlying36 (h.ev rfl)) rfl ?_;intro f h
        refine ac h (aw (.bool false) (bD (h.ev rfl) (h.ev rfl)) (congrArg Value.bool (decide_eq_false (by have:=of_decide_eq_false s0;omega)))) rfl ?_;intro f h
        refine ac h (ag (h.ev rfl)) rfl ?_;intro f h
        refine aB h rfl rfl rfl ?_
        refine ac h (al bI (h.ev rfl)) rfl ?_;intro f h
        refine aB h rfl rfl rfl ?_
        refine ar (V:=vs) (am (bc.of_own s 0 rfl) 66 (bC _ _ _ _)) h bH rfl rfl ?_;intro f h
        refine aB h rfl rfl rfl ?_
        refine ac h (aY (hRs.keep s.ext) Tryz.underlying36 (h.ev rfl)) rfl ?_;intro f h
        refine aB h rfl rfl rfl ?_
        refine ac h (aw (.bool false) (cL (h.ev rfl) (h.ev rfl)) (congrArg Value.bool (decide_eq_false (by have:=of_decide_eq_false s1;omega)))) rfl ?_;intro f h
        refine ac h (aE (h.ev rfl) (h.ev rfl)) rfl ?_;intro f h
        refine ac h (ag (h.ev rfl)) rfl ?_;intro f h
        refine aB h rfl rfl rfl ?_
        refine ac h (al cC (h.ev rfl)) rfl ?_;intro f h
        refine aB h rfl rfl rfl ?_
        refine ar (V:=vf) (am (bc.of_own s 0 rfl) 67 (cB _ _ _ _)) h bH rfl rfl ?_;intro f h
        refine aB h rfl rfl rfl ?_
        refine ac h (aY (hRf.keep s.ext) Tryz.underlying36 (h.ev rfl)) rfl ?_;intro f h
        refine aB h rfl rfl rfl ?_
        refine ac h (aw (.bool true) (cL (h.ev rfl) (h.ev rfl)) (congrArg Value.bool (decide_eq_true (by have:=of_decide_eq_true f0;omega)))) rfl ?_;intro f h
        refine ac h (aE (h.ev rfl) (h.ev rfl)) rfl ?_;intro f h
        refine ac h (ag (h.ev rfl)) rfl ?_;intro f h
        refine aC (b:=false) h rfl rfl rfl rfl ?_;intro f h
        refine aC (b:=false) h rfl rfl rfl rfl ?_;intro f h
        refine aC (b:=false) h rfl rfl rfl rfl ?_;intro f h
        refine aC (b:=false) h rfl rfl rfl rfl ?_;intro f h
        refine aC (b:=false) h rfl rfl rfl rfl ?_;intro f h
        refine aC (b:=false) h rfl rfl rfl rfl ?_;intro f h
        refine aC (b:=false) h rfl rfl rfl rfl ?_;intro f h
        refine ac h (aJ (h.ev rfl) (h.ev rfl)) rfl ?_;intro f h
        refine ah ?_
        refine hK7 _ _ ?_
        refine wpIn_cond_true (h.ev rfl) ?_
        refine aj fun K10 hK10=>?_
        refine ae ?_
        refine ac h (ai (h.ev rfl)) rfl ?_;intro f h
        refine ah ?_
        refine hK10 _ _ ?_
        refine wpIn_ret ?_
        refine aQ ?_
        exact aX rfl h s rfl (by show _=_;rw [k9 (uD f0)])
      ·skip
       refine ae ?_
       refine ac h (al bI (h.ev rfl)) rfl ?_;intro f h
       refine ar (V:=vs) (am (bc.of_own s 0 rfl) 66 (bC _ _ _ _)) h bH rfl rfl ?_;intro f h
       refine ac h (aY (hRs.keep s.ext) Tryz.underlying36 (h.ev rfl)) rfl ?_;intro f h
       refine ac h (aw (.bool false) (bD (h.ev rfl) (h.ev rfl)) (congrArg Value.bool (decide_eq_false (by have:=of_decide_eq_false s0;omega)))) rfl ?_;intro f h
       refine ac h (ag (h.ev rfl)) rfl ?_;intro f h
       refine aB h rfl rfl rfl ?_
       refine ac h (al bI (h.ev rfl)) rfl ?_;intro f h
       refine aB h rfl rfl rfl ?_
       refine ar (V:=vs) (am (bc.of_own s 0 rfl) 66 (bC _ _ _ _)) h bH rfl rfl ?_;intro f h
       refine aB h rfl rfl rfl ?_
       refine ac h (aY (hRs.keep s.ext) Tryz.underlying36 (h.ev rfl)) rfl ?_;intro f h
       refine aB h rfl rfl rfl ?_
       refine ac h (aw (.bool true) (cL (h.ev rfl) (h.ev rfl)) (congrArg Value.bool (decide_eq_true (by have:=of_decide_eq_true s1;omega)))) rfl ?_;intro f h
       refine ac h (aE (h.ev rfl) (h.ev rfl)) rfl ?_;intro f h
       refine ac h (ag (h.ev rfl)) rfl ?_;intro f h
       refine aC (b:=false) h rfl rfl rfl rfl ?_;intro f h
       refine aC (b:=false) h rfl rfl rfl rfl ?_;intro f h
       refine aC (b:=false) h rfl rfl rfl rfl ?_;intro f h
       refine aC (b:=false) h rfl rfl rfl rfl ?_;intro f h
       refine ac h (aJ (h.ev rfl) (h.ev rfl)) rfl ?_;intro f h
       refine ac h (ag (h.ev rfl)) rfl ?_;intro f h
       refine aC (b:=false) h rfl rfl rfl rfl ?_;intro f h
       refine aC (b:=false) h rfl rfl rfl rfl ?_;intro f h
       refine aC (b:=false) h rfl rfl rfl rfl ?_;intro f h
       refine aC (b:=false) h rfl rfl rfl rfl ?_;intro f h
       refine aC (b:=false) h rfl rfl rfl rfl ?_;intro f h
       refine aC (b:=false) h rfl rfl rfl rfl ?_;intro f h
       refine aC (b:=false) h rfl rfl rfl rfl ?_;intro f h
       refine ac h (aJ (h.ev rfl) (h.ev rfl)) rfl ?_;intro f h
       refine ah ?_
       refine hK7 _ _ ?_
       refine wpIn_cond_true (h.ev rfl) ?_
       refine aj fun K11 hK11=>?_
       refine ae ?_
       refine ac h (ai (h.ev rfl)) rfl ?_;intro f h
       refine ah ?_
       refine hK11 _ _ ?_
       refine wpIn_ret ?_
       refine aQ ?_
       exact aX rfl h s rfl (by show _=_;rw [jQ (uC s1)])
     ·skip
      refine ae ?_
      refine ac h (al bI (h.ev rfl)) rfl ?_;intro f h
      refine ar (V:=vs) (am (bc.of_own s 0 rfl) 66 (bC _ _ _ _)) h bH rfl rfl ?_;intro f h
      refine ac h (aY (hRs.keep s.ext) Tryz.underlying36 (h.ev rfl)) rfl ?_;intro f h
      refine ac h (aw (.bool true) (bD (h.ev rfl) (h.ev rfl)) (congrArg Value.bool (decide_eq_true (by have:=of_decide_eq_true s0;omega)))) rfl ?_;intro f h
      refine ac h (ag (h.ev rfl)) rfl ?_;intro f h
      refine aC (b:=false) h rfl rfl rfl rfl ?_;intro f h
      refine aC (b:=false) h rfl rfl rfl rfl ?_;intro f h
      refine aC (b:=false) h rfl rfl rfl rfl ?_;intro f h
      refine aC (b:=false) h rfl rfl rfl rfl ?_;intro f h
      refine ac h (aJ (h.ev rfl) (h.ev rfl)) rfl ?_;intro f h
      refine ac h (ag (h.ev rfl)) rfl ?_;intro f h
      refine aC (b:=false) h rfl rfl rfl rfl ?_;intro f h
      refine aC (b:=false) h rfl rfl rfl rfl ?_;intro f h
      refine aC (b:=false) h rfl rfl rfl rfl ?_;intro f h
      refine aC (b:=false) h rfl rfl rfl rfl ?_;intro f h
      refine ac h (aJ (h.ev rfl) (h.ev rfl)) rfl ?_;intro f h
      refine ac h (ag (h.ev rfl)) rfl ?_;intro f h
      refine aC (b:=false) h rfl rfl rfl rfl ?_;intro f h
      refine aC (b:=false) h rfl rfl rfl rfl ?_;intro f h
      refine aC (b:=false) h rfl rfl rfl rfl ?_;intro f h
      refine aC (b:=false) h rfl rfl rfl rfl ?_;intro f h
      refine aC (b:=false) h rfl rfl rfl rfl ?_;intro f h
      refine aC (b:=false) h rfl rfl rfl rfl ?_;intro f h
      refine aC (b:=false) h rfl rfl rfl rfl ?_;intro f h
      refine ac h (aJ (h.ev rfl) (h.ev rfl)) rfl ?_;intro f h
      refine ah ?_
      refine hK7 _ _ ?_
      refine wpIn_cond_true (h.ev rfl) ?_
      refine aj fun K12 hK12=>?_
      refine ae ?_
      refine ac h (ai (h.ev rfl)) rfl ?_;intro f h
      refine ah ?_
      refine hK12 _ _ ?_
      refine wpIn_ret ?_
      refine aQ ?_
      exact aX rfl h s rfl (by show _=_;rw [jQ (vA s0)])
    ·skip
     refine ae ?_
     refine ac h (al a6 (h.ev rfl)) rfl ?_;intro f h
     refine aM (bc.subL (bc.of_own s 0 rfl) 0 33 (D:=au n.me) (bU _ _ _ _)) h aL rfl (ak _) rfl ?_;intro f h
     refine aF h s g4 (aO (.bool true) (dK n.me _) (congrArg Value.bool h0)) rfl rfl ?_;intro f w1 v9 hT hE h s;obtain rfl:=hT
     refine ac h (aw (.bool false) (bg (h.ev rfl)) rfl) rfl ?_;intro f h
     refine ac h (ag (h.ev rfl)) rfl ?_;intro f h
     refine aB h rfl rfl rfl ?_
     refine ac h (al cy (h.ev rfl)) rfl ?_;intro f h
     refine aB h rfl rfl rfl ?_
     refine aM (bc.subL (bc.of_own s 0 rfl) 33 33 (D:=au n.pr) (co _ _ _ _)) h aL rfl (ak _) rfl ?_;intro f h
     refine aB h rfl rfl rfl ?_
     refine aF h s kA (aO (.bool false) (ep n.pr _) (congrArg Value.bool p0)) rfl rfl ?_;intro f w1 v9 hT hE h s;obtain rfl:=hT
     refine aB h rfl rfl rfl ?_
     refine ac h (aw (.bool true) (bg (h.ev rfl)) rfl) rfl ?_;intro f h
     refine aB h rfl rfl rfl ?_
     refine ac h (ag (h.ev rfl)) rfl ?_;intro f h
     refine aB h rfl rfl rfl ?_
     refine ac h (al cy (h.ev rfl)) rfl ?_;intro f h
     refine aB h rfl rfl rfl ?_
     refine aM (bc.subL (bc.of_own s 0 rfl) 33 33 (D:=au n.pr) (co _ _ _ _)) h aL rfl (ak _) rfl ?_;intro f h
     refine aB h rfl rfl rfl ?_
     refine aF h s g4 (aO (.bool true) (dK n.pr _) (congrArg Value.bool p1)) rfl rfl ?_;intro f w1 v9 hT hE h s;obtain rfl:=hT
     refine aB h rfl rfl rfl ?_
     refine ac h (aw (.bool false) (bg (h.ev rfl)) rfl) rfl ?_;intro f h
     refine aB h rfl rfl rfl ?_
     refine ac h (ag (h.ev rfl)) rfl ?_;intro f h
     refine aB h rfl rfl rfl ?_
     refine ac h (al cy (h.ev rfl)) rfl ?_;intro f h
     refine aB h rfl rfl rfl ?_
     refine ac h (al aP (h.ev rfl)) rfl ?_;intro f h
     refine aB h rfl rfl rfl ?_
     refine ar (am (bc.of_own s 0 rfl) 33 (nf _ _ _ _)) h bO rfl rfl ?_;intro f h
     refine aB h rfl rfl rfl ?_
     refine ac h (al a6 (h.ev rfl)) rfl ?_;intro f h
     refine aB h rfl rfl rfl ?_
     refine ac h (al aP (h.ev rfl)) rfl ?_;intro f h
     refine aB h rfl rfl rfl ?_
     refine ar (am (bc.of_own s 0 rfl) 0 (bY _ _ _ _)) h bO rfl rfl ?_;intro f h
     refine aB h rfl rfl rfl ?_
     refine ac h (aw (.bool true) (cc (h.ev rfl) (h.ev rfl)) (congrArg Value.bool p2)) rfl ?_;intro f h
     refine aB h rfl rfl rfl ?_
     refine ac h (aE (h.ev rfl) (h.ev rfl)) rfl ?_;intro f h
     refine aB h rfl rfl rfl ?_
     refine ac h (aJ (h.ev rfl) (h.ev rfl)) rfl ?_;intro f h
     refine ac h (aE (h.ev rfl) (h.ev rfl)) rfl ?_;intro f h
     refine ah ?_
     refine hK3 _ _ ?_
     refine wpIn_cond_true (h.ev rfl) ?_
     refine aj fun K13 hK13=>?_
     refine ae ?_
     refine ac h (ai (h.ev rfl)) rfl ?_;intro f h
     refine ah ?_
     refine hK13 _ _ ?_
     refine wpIn_ret ?_
     refine aQ ?_
     exact aX rfl h s rfl (by show _=_;rw [nt (Ab p0 p1 p2)])
  ·skip
   refine ae ?_
   refine ac h (al a6 (h.ev rfl)) rfl ?_;intro f h
   refine aM (bc.subL (bc.of_own s 0 rfl) 0 33 (D:=au n.me) (bU _ _ _ _)) h aL rfl (ak _) rfl ?_;intro f h
   refine aF h s g4 (aO (.bool true) (dK n.me _) (congrArg Value.bool h0)) rfl rfl ?_;intro f w1 v9 hT hE h s;obtain rfl:=hT
   refine ac h (aw (.bool false) (bg (h.ev rfl)) rfl) rfl ?_;intro f h
   refine ac h (ag (h.ev rfl)) rfl ?_;intro f h
   refine aB h rfl rfl rfl ?_
   refine ac h (al cy (h.ev rfl)) rfl ?_;intro f h
   refine aB h rfl rfl rfl ?_
   refine aM (bc.subL (bc.of_own s 0 rfl) 33 33 (D:=au n.pr) (co _ _ _ _)) h aL rfl (ak _) rfl ?_;intro f h
   refine aB h rfl rfl rfl ?_
   refine aF h s kA (aO (.bool true) (ep n.pr _) (congrArg Value.bool p0)) rfl rfl ?_;intro f w1 v9 hT hE h s;obtain rfl:=hT
   refine aB h rfl rfl rfl ?_
   refine ac h (aw (.bool false) (bg (h.ev rfl)) rfl) rfl ?_;intro f h
   refine aB h rfl rfl rfl ?_
   refine ac h (ag (h.ev rfl)) rfl ?_;intro f h
   refine aC (b:=true) h rfl rfl rfl rfl ?_;intro f h
   refine aC (b:=true) h rfl rfl rfl rfl ?_;intro f h
   refine aC (b:=true) h rfl rfl rfl rfl ?_;intro f h
   refine aC (b:=true) h rfl rfl rfl rfl ?_;intro f h
   refine aC (b:=true) h rfl rfl rfl rfl ?_;intro f h
   refine dw h rfl rfl rfl rfl ?_;intro f h
   refine dw h rfl rfl rfl rfl ?_;intro f h
   refine dw h rfl rfl rfl rfl ?_;intro f h
   refine dw h rfl rfl rfl rfl ?_;intro f h
   refine dw h rfl rfl rfl rfl ?_;intro f h
   refine dw h rfl rfl rfl rfl ?_;intro f h
   refine dw h rfl rfl rfl rfl ?_;intro f h
   refine aC (b:=true) h rfl rfl rfl rfl ?_;intro f h
   refine aB h rfl rfl rfl ?_
   refine ac h (aE (h.ev rfl) (h.ev rfl)) rfl ?_;intro f h
   refine ac h (aE (h.ev rfl) (h.ev rfl)) rfl ?_;intro f h
   refine ah ?_
   refine hK3 _ _ ?_
   refine wpIn_cond_false (h.ev rfl) ?_
   refine wpIn_skip ?_
   refine hK2 _ _ ?_
   refine aj fun K14 hK14=>?_
   refine aj fun K15 hK15=>?_
   cases s0:(decide (n.sc.length<1):Bool)
   ·skip
    cases s1:(decide (4<n.sc.length):Bool)
    ·skip
     cases f0:(decide (16<n.fg.length):Bool)
     ·skip
      cases f1:(gP n.fg n.me.1:Bool)
      ·skip
       refine ae ?_
       refine ac h (al bI (h.ev rfl)) rfl ?_;intro f h
       refine ar (V:=vs) (am (bc.of_own s 0 rfl) 66 (bC _ _ _ _)) h bH rfl rfl ?_;intro f h
       refine ac h (aY (hRs.keep s.ext) Tryz.underlying36 (h.ev rfl)) rfl ?_;intro f h
       refine ac h (aw (.bool false) (bD (h.ev rfl) (h.ev rfl)) (congrArg Value.bool (decide_eq_false (by have:=of_decide_eq_false s0;omega)))) rfl ?_;intro f h
       refine ac h (ag (h.ev rfl)) rfl ?_;intro f h
       refine aB h rfl rfl rfl ?_
       refine ac h (al bI (h.ev rfl)) rfl ?_;intro f h
       refine aB h rfl rfl rfl ?_
       refine ar (V:=vs) (am (bc.of_own s 0 rfl) 66 (bC _ _ _ _)) h bH rfl rfl ?_;intro f h
       refine aB h rfl rfl rfl ?_
       refine ac h (aY (hRs.keep s.ext) Tryz.underlying36 (h.ev rfl)) rfl ?_;intro f h
       refine aB h rfl rfl rfl ?_
       refine ac h (aw (.bool false) (cL (h.ev rfl) (h.ev rfl)) (congrArg Value.bool (decide_eq_false (by have:=of_decide_eq_false s1;omega)))) rfl ?_;intro f h
       refine ac h (aE (h.ev rfl) (h.ev rfl)) rfl ?_;intro f h
       refine ac h (ag (h.ev rfl)) rfl ?_;intro f h
       refine aB h rfl rfl rfl ?_
       refine ac h (al cC (h.ev rfl)) rfl ?_;intro f h
       refine aB h rfl rfl rfl ?_
       refine ar (V:=vf) (am (bc.of_own s 0 rfl) 67 (cB _ _ _ _)) h bH rfl rfl ?_;intro f h
       refine aB h rfl rfl rfl ?_
       refine ac h (aY (hRf.keep s.ext) Tryz.underlying36 (h.ev rfl)) rfl ?_;intro f h
       refine aB h rfl rfl rfl ?_
       refine ac h (aw (.bool false) (cL (h.ev rfl) (h.ev rfl)) (congrArg Value.bool (decide_eq_false (by have:=of_decide_eq_false f0;omega)))) rfl ?_;intro f h
       refine ac h (aE (h.ev rfl) (h.ev rfl)) rfl ?_;intro f h
       refine ac h (ag (h.ev rfl)) rfl ?_;intro f h
       refine aB h rfl rfl rfl ?_
       refine ac h (al cC (h.ev rfl)) rfl ?_;intro f h
       refine aB h rfl rfl rfl ?_
       refine ar (V:=vf) (am (bc.of_own s 0 rfl) 67 (cB _ _ _ _)) h bH rfl rfl ?_;intro f h
       refine aB h rfl rfl rfl ?_
       refine ac h (al a6 (h.ev rfl)) rfl ?_;intro f h
       refine aB h rfl rfl rfl ?_
       refine ac h (al aP (h.ev rfl)) rfl ?_;intro f h
       refine aB h rfl rfl rfl ?_
       refine ar (am (bc.of_own s 0 rfl) 0 (bY _ _ _ _)) h bO rfl rfl ?_;intro f h
       refine aB h rfl rfl rfl ?_
       refine aF h s kO (aO (.bool false) (dL n.fg vf n.me.1 _ (hRf.keep s.ext) hnf) (congrArg Value.bool f1)) rfl rfl ?_;intro f w1 v9 hT hE h s;obtain rfl:=hT
       refine aB h rfl rfl rfl ?_
       refine ac h (aw (.bool true) (bg (h.ev rfl)) rfl) rfl ?_;intro f h
       refine ac h (aE (h.ev rfl) (h.ev rfl)) rfl ?_;intro f h
       refine ah ?_
       refine hK15 _ _ ?_
       refine wpIn_cond_true (h.ev rfl) ?_
       refine aj fun K16 hK16=>?_
       refine ae ?_
       refine ac h (ai (h.ev rfl)) rfl ?_;intro f h
       refine ah ?_
       refine hK16 _ _ ?_
       refine wpIn_ret ?_
       refine aQ ?_
       exact aX rfl h s rfl (by show _=_;rw [k9 (uQ f1)])
      ·skip
       refine ae ?_
       refine ac h (al bI (h.ev rfl)) rfl ?_;intro f h
       refine ar (V:=vs) (am (bc.of_own s 0 rfl) 66 (bC _ _ _ _)) h bH rfl rfl ?_;intro f h
       refine ac h (aY (hRs.keep s.ext) Tryz.underlying36 (h.ev rfl)) rfl ?_;intro f h
       refine ac h (aw (.bool false) (bD (h.ev rfl) (h.ev rfl)) (congrArg Value.bool (decide_eq_false (by have:=of_decide_eq_false s0;omega)))) rfl ?_;intro f h
       refine ac h (ag (h.ev rfl)) rfl ?_;intro f h
       refine aB h rfl rfl rfl ?_
       refine ac h (al bI (h.ev rfl)) rfl ?_;intro f h
       refine aB h rfl rfl rfl ?_
       refine ar (V:=vs) (am (bc.of_own s 0 rfl) 66 (bC _ _ _ _)) h bH rfl rfl ?_;intro f h
       refine aB h rfl rfl rfl ?_
       refine ac h (aY (hRs.keep s.ext) Tryz.underlying36 (h.ev rfl)) rfl ?_;intro f h
       refine aB h rfl rfl rfl ?_
       refine ac h (aw (.bool false) (cL (h.ev rfl) (h.ev rfl)) (congrArg Value.bool (decide_eq_false (by have:=of_decide_eq_false s1;omega)))) rfl ?_;intro f h
       refine ac h (aE (h.ev rfl) (h.ev rfl)) rfl ?_;intro f h
       refine ac h (ag (h.ev rfl)) rfl ?_;intro f h
       refine aB h rfl rfl rfl ?_
       refine ac h (al cC (h.ev rfl)) rfl ?_;intro f h
       refine aB h rfl rfl rfl ?_
       refine ar (V:=vf) (am (bc.of_own s 0 rfl) 67 (cB _ _ _ _)) h bH rfl rfl ?_;intro f h
       refine aB h rfl rfl rfl ?_
       refine ac h (aY (hRf.keep s.ext) Tryz.underlying36 (h.ev rfl)) rfl ?_;intro f h
       refine aB h rfl rfl rfl ?_
       refine ac h (aw (.bool false) (cL (h.ev rfl) (h.ev rfl)) (congrArg Value.bool (decide_eq_false (by have:=of_decide_eq_false f0;omega)))) rfl ?_;intro f h
       refine ac h (aE (h.ev rfl) (h.ev rfl)) rfl ?_;intro f h
       refine ac h (ag (h.ev rfl)) rfl ?_;intro f h
       refine aB h rfl rfl rfl ?_
       refine ac h (al cC (h.ev rfl)) rfl ?_;intro f h
       refine aB h rfl rfl rfl ?_
       refine ar (V:=vf) (am (bc.of_own s 0 rfl) 67 (cB _ _ _ _)) h bH rfl rfl ?_;intro f h
       refine aB h rfl rfl rfl ?_
       refine ac h (al a6 (h.ev rfl)) rfl ?_;intro f h
       refine aB h rfl rfl rfl ?_
       refine ac h (al aP (h.ev rfl)) rfl ?_;intro f h
       refine aB h rfl rfl rfl ?_
       refine ar (am (bc.of_own s 0 rfl) 0 (bY _ _ _ _)) h bO rfl rfl ?_;intro f h
       refine aB h rfl rfl rfl ?_
       refine aF h s kO (aO (.bool true) (dL n.fg vf n.me.1 _ (hRf.keep s.ext) hnf) (congrArg Value.bool f1)) rfl rfl ?_;intro f w1 v9 hT hE h s;obtain rfl:=hT
       refine aB h rfl rfl rfl ?_
       refine ac h (aw (.bool false) (bg (h.ev rfl)) rfl) rfl ?_;intro f h
       refine ac h (aE (h.ev rfl) (h.ev rfl)) rfl ?_;intro f h
       refine ah ?_
       refine hK15 _ _ ?_
       refine wpIn_cond_false (h.ev rfl) ?_
       refine wpIn_skip ?_
       refine hK14 _ _ ?_
       refine aj fun K17 hK17=>?_
       cases t0:(decide (n.sc.length=1):Bool)
       ·skip
        refine bJ 22 [[],[0],[0,1],[0,1,2],[0,1,2,3],[0,1,2,3,4],[0,1,2,3,4,5],[0,1,2,3,4,5,6],[0,1,2,3,4,5,6,7],[0,1,2,3,4],[0,1,2,3,4,9],[0,1,2,3,4,5,6,7,8,9,10],[0,1,2,3,4,5,6,7,8,9,10,11],[0,1,2,3,4,5,6,7,8,9,10,11,12],[0,1,2,3,4,5,6,7,8,9,10,11,12,13],[0,1,2,3,4,5,6,7,8,9,10,11,12,13,14],[0,1,2,3,4,5,6,7,8,9,10,11,12,13],[0,1,2,3,4,5,6,7,8,9,10,11,12,13,16],[0,1,2,3,4,5,6,7,8,9,10,11,12,13,16,17],[0,1,2,3,4,5,6,7,8,9,10,11,12,13,14,15,16,17,18],[0,1,2,3,4,5,6,7,8,9,10,11,12,13,14,15,16,17,18,19],[0,1,2,3,4,5,6,7,8,9,10,11,12,13,14,15,16,17,18,19,20]] h (by kernel_rfl) (by kernel_rfl) (by kernel_rfl) ?_
        refine ap h (al bI (h.ev rfl)) rfl ?_;intro f h
        refine bk (V:=vs) (am (bc.of_own s 0 rfl) 66 (bC _ _ _ _)) h bH rfl rfl ?_;intro f h
        refine ap h (aY (hRs.keep s.ext) Tryz.underlying36 (h.ev rfl)) rfl ?_;intro f h
        refine ap h (aw (.bool false) (cc (h.ev rfl) (h.ev rfl)) (congrArg Value.bool (decide_eq_false (by have:=of_decide_eq_false t0;omega)))) rfl ?_;intro f h
        refine ap h (ag (h.ev rfl)) rfl ?_;intro f h
        refine bm (b:=true) h rfl rfl rfl rfl ?_;intro f h
        refine bm (b:=true) h rfl rfl rfl rfl ?_;intro f h
        refine bm (b:=true) h rfl rfl rfl rfl ?_;intro f h
        refine bm (b:=true) h rfl rfl rfl rfl ?_;intro f h
        refine bm (b:=true) h rfl rfl rfl rfl ?_;intro f h
        refine bm (b:=true) h rfl rfl rfl rfl ?_;intro f h
        refine bm (b:=true) h rfl rfl rfl rfl ?_;intro f h
        refine ap h (aE (h.ev rfl) (h.ev rfl)) rfl ?_;intro f h
        refine ap h (ag (h.ev rfl)) rfl ?_;intro f h
        refine bi h rfl rfl rfl ?_
        refine ap h (al bI (h.ev rfl)) rfl ?_;intro f h
        refine bi h rfl rfl rfl ?_
        refine bk (V:=vs) (am (bc.of_own s 0 rfl) 66 (bC _ _ _ _)) h bH rfl rfl ?_;intro f h
        refine bi h rfl rfl rfl ?_
        refine ap h (al a6 (h.ev rfl)) rfl ?_;intro f h
        refine bi h rfl rfl rfl ?_
        refine ap h (al aP (h.ev rfl)) rfl ?_;intro f h
        refine bi h rfl rfl rfl ?_
        refine bk (am (bc.of_own s 0 rfl) 0 (bY _ _ _ _)) h bO rfl rfl ?_;intro f h
        refine bi h rfl rfl rfl ?_
        refine cm h kO (fun w9 hE9=>dL n.sc vs n.me.1 w9 (hRs.keep (s.ext.trans hE9)) hns) rfl rfl ?_;intro f h
        refine ap h (aE (h.ev rfl) (h.ev rfl)) rfl ?_;intro f h
        refine ap h (ai (h.ev rfl)) rfl ?_;intro f h
        refine cn s fun w1 s=>?_
        refine ah ?_
        refine hK17 _ _ ?_
        refine wpIn_ret ?_
        exact aX rfl h s rfl (by show _=_;rw [iv h0 (q5 p0) (j5 f0 f1),ry s0 s1 (by rintro ⟨h9,h8⟩;exact absurd h9 (of_decide_eq_false t0))])
       ·skip
        cases t1:(decide (n.sc.getD 0 a8=n.me):Bool)
        ·skip
         refine bJ 22 [[],[0],[0,1],[0,1,2],[0,1,2,3],[0,1,2,3,4],[0,1,2,3,4,5],[0,1,2,3,4,5,6],[0,1,2,3,4,5,6,7],[0,1,2,3,4],[0,1,2,3,4,9],[0,1,2,3,4,5,6,7,8,9,10],[0,1,2,3,4,5,6,7,8,9,10,11],[0,1,2,3,4,5,6,7,8,9,10,11,12],[0,1,2,3,4,5,6,7,8,9,10,11,12,13],[0,1,2,3,4,5,6,7,8,9,10,11,12,13,14],[0,1,2,3,4,5,6,7,8,9,10,11,12,13],[0,1,2,3,4,5,6,7,8,9,10,11,12,13,16],[0,1,2,3,4,5,6,7,8,9,10,11,12,13,16,17],[0,1,2,3,4,5,6,7,8,9,10,11,12,13,14,15,16,17,18],[0,1,2,3,4,5,6,7,8,9,10,11,12,13,14,15,16,17,18,19],[0,1,2,3,4,5,6,7,8,9,10,11,12,13,14,15,16,17,18,19,20]] h (by kernel_rfl) (by kernel_rfl) (by kernel_rfl) ?_
         refine ap h (al bI (h.ev rfl)) rfl ?_;intro f h
         refine bk (V:=vs) (am (bc.of_own s 0 rfl) 66 (bC _ _ _ _)) h bH rfl rfl ?_;intro f h
         refine ap h (aY (hRs.keep s.ext) Tryz.underlying36 (h.ev rfl)) rfl ?_;intro f h
         refine ap h (aw (.bool true) (cc (h.ev rfl) (h.ev rfl)) (congrArg Value.bool (decide_eq_true (by have:=of_decide_eq_true t0;omega)))) rfl ?_;intro f h
         refine ap h (ag (h.ev rfl)) rfl ?_;intro f h
         refine bi h rfl rfl rfl ?_
         refine ap h (al bI (h.ev rfl)) rfl ?_;intro f h
         refine bi h rfl rfl rfl ?_
         refine bk (V:=vs) (am (bc.of_own s 0 rfl) 66 (bC _ _ _ _)) h bH rfl rfl ?_;intro f h
         refine bi h rfl rfl rfl ?_
         have h19:=of_decide_eq_true t0
         refine ap h (ce (hRs.keep s.ext) (0) Tryz.underlying36 cG (h.ev rfl) (h.ev rfl) (by omega) (by omega)) rfl ?_;intro f h
         refine bi h rfl rfl rfl ?_
         refine bz ((hRs.keep s.ext).el (0) (by omega) (by decide) (D:=au (n.sc.getD 0 a8)) (cK n.sc 0 (by omega))) h aL rfl (ak _) rfl ?_;intro f h
         refine bi h rfl rfl rfl ?_
         refine ap h (al a6 (h.ev rfl)) rfl ?_;intro f h
         refine bi h rfl rfl rfl ?_
         refine bz (bc.subL (bc.of_own s 0 rfl) 0 33 (D:=au n.me) (bU _ _ _ _)) h aL rfl (ak _) rfl ?_;intro f h
         refine bi h rfl rfl rfl ?_
         refine ap h (aw (.bool false) (c4 (gM _ _) (by kernel_rfl) (by decide) (h.ev rfl) (h.ev rfl) (decide (n.sc.getD 0 a8=n.me)) (dE _ _)) (congrArg Value.bool t1)) rfl ?_;intro f h
         refine ap h (aJ (h.ev rfl) (h.ev rfl)) rfl ?_;intro f h
         refine ap h (ag (h.ev rfl)) rfl ?_;intro f h
         refine bi h rfl rfl rfl ?_
         refine ap h (al bI (h.ev rfl)) rfl ?_;intro f h
         refine bi h rfl rfl rfl ?_
         refine bk (V:=vs) (am (bc.of_own s 0 rfl) 66 (bC _ _ _ _)) h bH rfl rfl ?_;intro f h
         refine bi h rfl rfl rfl ?_
         refine ap h (al a6 (h.ev rfl)) rfl ?_;intro f h
         refine bi h rfl rfl rfl ?_
         refine ap h (al aP (h.ev rfl)) rfl ?_;intro f h
         refine bi h rfl rfl rfl ?_
         refine bk (am (bc.of_own s 0 rfl) 0 (bY _ _ _ _)) h bO rfl rfl ?_;intro f h
         refine bi h rfl rfl rfl ?_
         refine cm h kO (fun w9 hE9=>dL n.sc vs n.me.1 w9 (hRs.keep (s.ext.trans hE9)) hns) rfl rfl ?_;intro f h
         refine ap h (aE (h.ev rfl) (h.ev rfl)) rfl ?_;intro f h
         refine ap h (ai (h.ev rfl)) rfl ?_;intro f h
         refine cn s fun w1 s=>?_
         refine ah ?_
         refine hK17 _ _ ?_
         refine wpIn_ret ?_
         exact aX rfl h s rfl (by show _=_;rw [iv h0 (q5 p0) (j5 f0 f1),ry s0 s1 (by rintro ⟨h9,h8⟩;exact absurd h8 (of_decide_eq_false t1))])
        ·skip
         refine bJ 22 [[],[0],[0,1],[0,1,2],[0,1,2,3],[0,1,2,3,4],[0,1,2,3,4,5],[0,1,2,3,4,5,6],[0,1,2,3,4,5,6,7],[0,1,2,3,4],[0,1,2,3,4,9],[0,1,2,3,4,5,6,7,8,9,10],[0,1,2,3,4,5,6,7,8,9,10,11],[0,1,2,3,4,5,6,7,8,9,10,11,12],[0,1,2,3,4,5,6,7,8,9,10,11,12,13],[0,1,2,3,4,5,6,7,8,9,10,11,12,13,14],[0,1,2,3,4,5,6,7,8,9,10,11,12,13],[0,1,2,3,4,5,6,7,8,9,10,11,12,13,16],[0,1,2,3,4,5,6,7,8,9,10,11,12,13,16,17],[0,1,2,3,4,5,6,7,8,9,10,11,12,13,14,15,16,17,18],[0,1,2,3,4,5,6,7,8,9,10,11,12,13,14,15,16,17,18,19],[0,1,2,3,4,5,6,7,8,9,10,11,12,13,14,15,16,17,18,19,20]] h (by kernel_rfl) (by kernel_rfl) (by kernel_rfl) ?_
         refine ap h (al bI (h.ev rfl)) rfl ?_;intro f h
         refine bk (V:=vs) (am (bc.of_own s 0 rfl) 66 (bC _ _ _ _)) h bH rfl rfl ?_;intro f h
         refine ap h (aY (hRs.keep s.ext) Tryz.underlying36 (h.ev rfl)) rfl ?_;intro f h
         refine ap h (aw (.bool true) (cc (h.ev rfl) (h.ev rfl)) (congrArg Value.bool (decide_eq_true (by have:=of_decide_eq_true t0;omega)))) rfl ?_;intro f h
         refine ap h (ag (h.ev rfl)) rfl ?_;intro f h
         refine bi h rfl rfl rfl ?_
         refine ap h (al bI (h.ev rfl)) rfl ?_;intro f h
         refine bi h rfl rfl rfl ?_
         refine bk (V:=vs) (am (bc.of_own s 0 rfl) 66 (bC _ _ _ _)) h bH rfl rfl ?_;intro f h
         refine bi h rfl rfl rfl ?_
         have h19:=of_decide_eq_true t0
         refine ap h (ce (hRs.keep s.ext) (0) Tryz.underlying36 cG (h.ev rfl) (h.ev rfl) (by omega) (by omega)) rfl ?_;intro f h
         refine bi h rfl rfl rfl ?_
         refine bz ((hRs.keep s.ext).el (0) (by omega) (by decide) (D:=au (n.sc.getD 0 a8)) (cK n.sc 0 (by omega))) h aL rfl (ak _) rfl ?_;intro f h
         refine bi h rfl rfl rfl ?_
         refine ap h (al a6 (h.ev rfl)) rfl ?_;intro f h
         refine bi h rfl rfl rfl ?_
         refine bz (bc.subL (bc.of_own s 0 rfl) 0 33 (D:=au n.me) (bU _ _ _ _)) h aL rfl (ak _) rfl ?_;intro f h
         refine bi h rfl rfl rfl ?_
         refine ap h (aw (.bool true) (c4 (gM _ _) (by kernel_rfl) (by decide) (h.ev rfl) (h.ev rfl) (decide (n.sc.getD 0 a8=n.me)) (dE _ _)) (congrArg Value.bool t1)) rfl ?_;intro f h
         refine ap h (aJ (h.ev rfl) (h.ev rfl)) rfl ?_;intro f h
         refine ap h (ag (h.ev rfl)) rfl ?_;intro f h
         refine bm (b:=false) h rfl rfl rfl rfl ?_;intro f h
         refine bm (b:=false) h rfl rfl rfl rfl ?_;intro f h
         refine bm (b:=false) h rfl rfl rfl rfl ?_;intro f h
         refine bm (b:=false) h rfl rfl rfl rfl ?_;intro f h
         refine bm (b:=false) h rfl rfl rfl rfl ?_;intro f h
         refine bm (b:=false) h rfl rfl rfl rfl ?_;intro f h
         refine ap h (aJ (h.ev rfl) (h.ev rfl)) rfl ?_;intro f h
         refine ap h (ai (h.ev rfl)) rfl ?_;intro f h
         refine cn s fun w1 s=>?_
         refine ah ?_
         refine hK17 _ _ ?_
         refine wpIn_ret ?_
         exact aX rfl h s rfl (by show _=_;rw [iv h0 (q5 p0) (j5 f0 f1),tD t0 t1])
     ·skip
      refine ae ?_
      refine ac h (al bI (h.ev rfl)) rfl ?_;intro f h
      refine ar (V:=vs) (am (bc.of_own s 0 rfl) 66 (bC _ _ _ _)) h bH rfl rfl ?_;intro f h
      refine ac h (aY (hRs.keep s.ext) Tryz.underlying36 (h.ev rfl)) rfl ?_;intro f h
      refine ac h (aw (.bool false) (bD (h.ev rfl) (h.ev rfl)) (congrArg Value.bool (decide_eq_false (by have:=of_decide_eq_false s0;omega)))) rfl ?_;intro f h
      refine ac h (ag (h.ev rfl)) rfl ?_;intro f h
      refine aB h rfl rfl rfl ?_
      refine ac h (al bI (h.ev rfl)) rfl ?_;intro f h
      refine aB h rfl rfl rfl ?_
      refine ar (V:=vs) (am (bc.of_own s 0 rfl) 66 (bC _ _ _ _)) h bH rfl rfl ?_;intro f h
      refine aB h rfl rfl rfl ?_
      refine ac h (aY (hRs.keep s.ext) Tryz.underlying36 (h.ev rfl)) rfl ?_;intro f h
      refine aB h rfl rfl rfl ?_
      refine ac h (aw (.bool false) (cL (h.ev rfl) (h.ev rfl)) (congrArg Value.bool (decide_eq_false (by have:=of_decide_eq_false s1;omega)))) rfl ?_;intro f h
      refine ac h (aE (h.ev rfl) (h.ev rfl)) rfl ?_;intro f h
      refine ac h (ag (h.ev rfl)) rfl ?_;intro f h
      refine aB h rfl rfl rfl ?_
      refine ac h (al cC (h.ev rfl)) rfl ?_;intro f h
      refine aB h rfl rfl rfl ?_
      refine ar (V:=vf) (am (bc.of_own s 0 rfl) 67 (cB _ _ _ _)) h bH rfl rfl ?_;intro f h
      refine aB h rfl rfl rfl ?_
      refine ac h (aY (hRf.keep s.ext) Tryz.underlying36 (h.ev rfl)) rfl ?_;intro f h
      refine aB h rfl rfl rfl ?_
      refine ac h (aw (.bool true) (cL (h.ev rfl) (h.ev rfl)) (congrArg Value.bool (decide_eq_true (by have:=of_decide_eq_true f0;omega)))) rfl ?_;intro f h
      refine ac h (aE (h.ev rfl) (h.ev rfl)) rfl ?_;intro f h
      refine ac h (ag (h.ev rfl)) rfl ?_;intro f h
      refine aC (b:=false) h rfl rfl rfl rfl ?_;intro f h
      refine aC (b:=false) h rfl rfl rfl rfl ?_;intro f h
      refine aC (b:=false) h rfl rfl rfl rfl ?_;intro f h
      refine aC (b:=false) h rfl rfl rfl rfl ?_;intro f h
      refine aC (b:=false) h rfl rfl rfl rfl ?_;intro f h
      refine aC (b:=false) h rfl rfl rfl rfl ?_;intro f h
      refine aC (b:=false) h rfl rfl rfl rfl ?_;intro f h
      refine ac h (aJ (h.ev rfl) (h.ev rfl)) rfl ?_;intro f h
      refine ah ?_
      refine hK15 _ _ ?_
      refine wpIn_cond_true (h.ev rfl) ?_
      refine aj fun K18 hK18=>?_
      refine ae ?_
      refine ac h (ai (h.ev rfl)) rfl ?_;intro f h
      refine ah ?_
      refine hK18 _ _ ?_
      refine wpIn_ret ?_
      refine aQ ?_
      exact aX rfl h s rfl (by show _=_;rw [k9 (uD f0)])
    ·skip
     refine ae ?_
     refine ac h (al bI (h.ev rfl)) rfl ?_;intro f h
     refine ar (V:=vs) (am (bc.of_own s 0 rfl) 66 (bC _ _ _ _)) h bH rfl rfl ?_;intro f h
     refine ac h (aY (hRs.keep s.ext) Tryz.underlying36 (h.ev rfl)) rfl ?_;intro f h
     refine ac h (aw (.bool false) (bD (h.ev rfl) (h.ev rfl)) (congrArg Value.bool (decide_eq_false (by have:=of_decide_eq_false s0;omega)))) rfl ?_;intro f h
     refine ac h (ag (h.ev rfl)) rfl ?_;intro f h
     refine aB h rfl rfl rfl ?_
     refine ac h (al bI (h.ev rfl)) rfl ?_;intro f h
     refine aB h rfl rfl rfl ?_
     refine ar (V:=vs) (am (bc.of_own s 0 rfl) 66 (bC _ _ _ _)) h bH rfl rfl ?_;intro f h
     refine aB h rfl rfl rfl ?_
     refine ac h (aY (hRs.keep s.ext) Tryz.underlying36 (h.ev rfl)) rfl ?_;intro f h
     refine aB h rfl rfl rfl ?_
     refine ac h (aw (.bool true) (cL (h.ev rfl) (h.ev rfl)) (congrArg Value.bool (decide_eq_true (by have:=of_decide_eq_true s1;omega)))) rfl ?_;intro f h
     refine ac h (aE (h.ev rfl) (h.ev rfl)) rfl ?_;intro f h
     refine ac h (ag (h.ev rfl)) rfl ?_;intro f h
     refine aC (b:=false) h rfl rfl rfl rfl ?_;intro f h
     refine aC (b:=false) h rfl rfl rfl rfl ?_;intro f h
     refine aC (b:=false) h rfl rfl rfl rfl ?_;intro f h
     refine aC (b:=false) h rfl rfl rfl rfl ?_;intro f h
     refine ac h (aJ (h.ev rfl) (h.ev rfl)) rfl ?_;intro f h
     refine ac h (ag (h.ev rfl)) rfl ?_;intro f h
     refine aC (b:=false) h rfl rfl rfl rfl ?_;intro f h
     refine aC (b:=false) h rfl rfl rfl rfl ?_;intro f h
     refine aC (b:=false) h rfl rfl rfl rfl ?_;intro f h
     refine aC (b:=false) h rfl rfl rfl rfl ?_;intro f h
     refine aC (b:=false) h rfl rfl rfl rfl ?_;intro f h
     refine aC (b:=false) h rfl rfl rfl rfl ?_;intro f h
     refine aC (b:=false) h rfl rfl rfl rfl ?_;intro f h
     refine ac h (aJ (h.ev rfl) (h.ev rfl)) rfl ?_;intro f h
     refine ah ?_
     refine hK15 _ _ ?_
     refine wpIn_cond_true (h.ev rfl) ?_
     refine aj fun K19 hK19=>?_
     refine ae ?_
     refine ac h (ai (h.ev rfl)) rfl ?_;intro f h
     refine ah ?_
     refine hK19 _ _ ?_
     refine wpIn_ret ?_
     refine aQ ?_
     exact aX rfl h s rfl (by show _=_;rw [jQ (uC s1)])
   ·skip
    refine ae ?_
    refine ac h (al bI (h.ev rfl)) rfl ?_;intro f h
    refine ar (V:=vs) (am (bc.of_own s 0 rfl) 66 (bC _ _ _ _)) h bH rfl rfl ?_;intro f h
    refine ac h (aY (hRs.keep s.ext) Tryz.underlying36 (h.ev rfl)) rfl ?_;intro f h
    refine ac h (aw (.bool true) (bD (h.ev rfl) (h.ev rfl)) (congrArg Value.bool (decide_eq_true (by have:=of_decide_eq_true s0;omega)))) rfl ?_;intro f h
    refine ac h (ag (h.ev rfl)) rfl ?_;intro f h
    refine aC (b:=false) h rfl rfl rfl rfl ?_;intro f h
    refine aC (b:=false) h rfl rfl rfl rfl ?_;intro f h
    refine aC (b:=false) h rfl rfl rfl rfl ?_;intro f h
    refine aC (b:=false) h rfl rfl rfl rfl ?_;intro f h
    refine ac h (aJ (h.ev rfl) (h.ev rfl)) rfl ?_;intro f h
    refine ac h (ag (h.ev rfl)) rfl ?_;intro f h
    refine aC (b:=false) h rfl rfl rfl rfl ?_;intro f h
    refine aC (b:=false) h rfl rfl rfl rfl ?_;intro f h
    refine aC (b:=false) h rfl rfl rfl rfl ?_;intro f h
    refine aC (b:=false) h rfl rfl rfl rfl ?_;intro f h
    refine ac h (aJ (h.ev rfl) (h.ev rfl)) rfl ?_;intro f h
    refine ac h (ag (h.ev rfl)) rfl ?_;intro f h
    refine aC (b:=false) h rfl rfl rfl rfl ?_;intro f h
    refine aC (b:=false) h rfl rfl rfl rfl ?_;intro f h
    refine aC (b:=false) h rfl rfl rfl rfl ?_;intro f h
    refine aC (b:=false) h rfl rfl rfl rfl ?_;intro f h
    refine aC (b:=false) h rfl rfl rfl rfl ?_;intro f h
    refine aC (b:=false) h rfl rfl rfl rfl ?_;intro f h
    refine aC (b:=false) h rfl rfl rfl rfl ?_;intro f h
    refine ac h (aJ (h.ev rfl) (h.ev rfl)) rfl ?_;intro f h
    refine ah ?_
    refine hK15 _ _ ?_
    refine wpIn_cond_true (h.ev rfl) ?_
    refine aj fun K20 hK20=>?_
    refine ae ?_
    refine ac h (ai (h.ev rfl)) rfl ?_;intro f h
    refine ah ?_
    refine hK20 _ _ ?_
    refine wpIn_ret ?_
    refine aQ ?_
    exact aX rfl h s rfl (by show _=_;rw [jQ (vA s0)])
set_option maxHeartbeats 1000000 in
theorem gI (L:List N3) (vo:Value) (w:World) (hO:cf w vo L) (hL:L.length≤40) (hb:RwB L):Calls Tryz.prog 10 [.agg #[vo]].toArray w (cT w (is (.bool (fQ L)))):=by
 refine bj Tryz.func10 rfl Tryz.ntmps10 rfl [(0,.agg #[vo])] (by simp) fun f h=>?_
 have s:=St.start w
 refine aj fun K1 hK1=>?_
 refine ae ?_
 refine bT (#[vo]) h s rfl rfl rfl ?_;intro f w1 b1 h s
 refine ac h (ai (h.ev rfl)) rfl ?_;intro f h
 refine ah ?_
 refine hK1 _ _ ?_
 refine aj fun K2 hK2=>?_
 refine ae ?_
 refine ao 0 h s aU rfl rfl (rfl) rfl ?_;intro f h
 refine aF h s mL (eo L vo _ (hO.keep s.ext) hL) rfl rfl ?_;intro f w1 v10 hT hE h sq;replace s:=s.sl_new hE hT
 refine ac h (ai (h.ev rfl)) rfl ?_;intro f h
 refine ah ?_
 refine hK2 _ _ ?_
 refine aj fun K3 hK3=>?_
 refine aj fun K4 hK4=>?_
 refine ae ?_
 refine ac h (al cb (h.ev rfl)) rfl ?_;intro f h
 refine ar (V:=vo) (am (bc.of_own s 1 rfl) 0 rfl) h cH rfl rfl ?_;intro f h
 refine ac h (aY (hO.1.keep s.ext) Tryz.underlying22 (h.ev rfl)) rfl ?_;intro f h
 refine ac h (ag (h.ev rfl)) rfl ?_;intro f h
 refine ah ?_
 refine hK4 _ _ ?_
 refine wpIn_block ?_
 refine wpIn_loop_ghost (fun nn aa ww=>∃ k:Nat,Sl 63 aa [(0,.agg #[vo]),(1,.pointer (some ⟨b1,0,none⟩)),(10,v10),(3,v10),(12,vo),(13,.int .i64 (L.length:Int)),(14,.int .i64 (k:Int))]∧St w [.sl v10 28 33 (aN L).length (av (aN L)),.blk b1 (.cells (#[vo]) 24)] ww∧nn=L.length - k∧k≤L.length∧∀ j,j<k→gi L j=false) (L.length - (0)) ⟨0,h.only ⟨rfl,rfl,rfl,rfl,rfl,rfl,aR rfl (by omega),trivial⟩,s.as ⟨rfl,rfl,trivial⟩,rfl,Nat.zero_le _,fun j hj=>absurd hj (Nat.not_lt_zero _)⟩ ?_
 rintro _ f w1 ⟨k,h,s,hnn,hp0,hp1⟩
 refine aj fun K5 hK5=>?_
 refine ae ?_
 refine ac h (bD (h.ev rfl) (h.ev rfl)) rfl ?_;intro f h
 refine ah ?_
 refine hK5 _ _ ?_
 refine aj fun K6 hK6=>?_
 refine bA h rfl (fun hc=>?_) (fun hc=>?_)
 ·replace hc:=of_decide_eq_true hc
  refine wpIn_skip ?_
  refine hK6 _ _ ?_
  refine aj fun K7 hK7=>?_
  refine wpIn_block ?_
  refine aj fun K8 hK8=>?_
  refine ae ?_
  have hkl:k<L.length:=by omega
  have hx9:=hb.each _ (bh hkl)
  refine ac h (ag (h.ev rfl)) rfl ?_;intro f h
  refine ac h (ce (hO.1.keep s.ext) (k) Tryz.underlying22 eX (h.ev rfl) (h.ev rfl) (by omega) (by omega)) rfl ?_;intro f h
  refine aM ((hO.1.keep s.ext).el (k) (by omega) (by decide) (D:=aD (L.getD k z3).1.me (L.getD k z3).1.pr (L.getD k z3).2.1 (L.getD k z3).2.2) (c6 L k hkl)) h bS rfl (aA _ _ _ _) rfl ?_;intro f h
  refine ba (aD a8 a8 bo bo) h s dH rfl rfl ?_;intro f w1 b5 h s
  refine ac h (ai (h.ev rfl)) rfl ?_;intro f h
  refine ay 0 h s bS rfl rfl rfl (aA _ _ _ _) (aA _ _ _ _) (bW (cx ((hO.2 _ (bh hkl)).1.keep s.ext)) (cx ((hO.2 _ (bh hkl)).2.keep s.ext))) ?_;intro w1 s
  refine ah ?_
  refine hK8 _ _ ?_
  refine aj fun K9 hK9=>?_
  refine aj fun K10 hK10=>?_
  cases r0:(cM (L.getD k z3).1:Bool)
  ·skip
   refine bJ 21 [[],[0],[0,1],[0,1,2],[0,1,2,3],[0,1,2,3,4],[0,1,2,3,4,5],[0,1,2,3,4,5,6],[0,1,2,3,4,5,6,7],[0,1,2,3,4,5,6],[0,1,2,3,4,5,6,9],[0,1,2,3,4,5,6,7,8,9,10],[0,1,2,3,4,5,6,7,8,9,10,11],[0,1,2,3,4,5,6,7,8,9,10,11,12],[0,1,2,3,4,5,6,7,8,9,10,11,12,13],[0,1,2,3,4,5,6],[0,1,2,3,4,5,6,15],[0,1,2,3,4,5,6,15,16],[0,1,2,3,4,5,6,7,8,9,10,11,12,13,14,15,16,17],[0,1,2,3,4,5,6,7,8,9,10,11,12,13,14,15,16,17,18],[0,1,2,3,4,5,6,7,8,9,10,11,12,13,14,15,16,17,18,19]] h (by kernel_rfl) (by kernel_rfl) (by kernel_rfl) ?_
   refine br 0 h s bS rfl rfl (aA _ _ _ _) rfl ?_;intro f h
   refine cm h q7 (fun w9 hE9=>aO (.bool false) (fT (L.getD k z3).1 (L.getD k z3).2.1 (L.getD k z3).2.2 w9 ((hO.2 _ (bh hkl)).1.keep (s.ext.trans hE9)) ((hO.2 _ (bh hkl)).2.keep (s.ext.trans hE9)) (by omega) (by omega)) (congrArg Value.bool r0)) rfl rfl ?_;intro f h
   refine ap h (aw (.bool true) (bg (h.ev rfl)) rfl) rfl ?_;intro f h
   refine ap h (ag (h.ev rfl)) rfl ?_;intro f h
   refine bm (b:=false) h rfl rfl rfl rfl ?_;intro f h
   refine bm (b:=false) h rfl rfl rfl rfl ?_;intro f h
   refine bm (b:=false) h rfl rfl rfl rfl ?_;intro f h
   refine dZ h rfl rfl rfl rfl ?_;intro f h
   refine dZ h rfl rfl rfl rfl ?_;intro f h
   refine dZ h rfl rfl rfl rfl ?_;intro f h
   refine dZ h rfl rfl rfl rfl ?_;intro f h
   refine dZ h rfl rfl rfl rfl ?_;intro f h
   refine dZ h rfl rfl rfl rfl ?_;intro f h
   refine dZ h rfl rfl rfl rfl ?_;intro f h
   refine dZ h rfl rfl rfl rfl ?_;intro f h
   refine dZ h rfl rfl rfl rfl ?_;intro f h
   refine dZ h rfl rfl rfl rfl ?_;intro f h
   refine dZ h rfl rfl rfl rfl ?_;intro f h
   refine dZ h rfl rfl rfl rfl ?_;intro f h
   refine bm (b:=false) h rfl rfl rfl rfl ?_;intro f h
   refine ap h (aJ (h.ev rfl) (h.ev rfl)) rfl ?_;intro f h
   refine cn s fun w1 s=>?_
   refine ah ?_
   refine hK10 _ _ ?_
   refine wpIn_cond_true (h.ev rfl) ?_
   refine aj fun K11 hK11=>?_
   refine ae ?_
   refine ac h (ai (h.ev rfl)) rfl ?_;intro f h
   refine ah ?_
   refine hK11 _ _ ?_
   refine wpIn_ret ?_
   refine aQ ?_
   refine bu ?_
   refine aQ ?_
   refine aQ ?_
   refine bu ?_
   refine aQ ?_
   exact aX rfl h s rfl (by show _=_;rw [jM hkl (BI r0)])
  ·skip
   cases k0:(decide (0<k):Bool)
   ·skip
    refine bJ 21 [[],[0],[0,1],[0,1,2],[0,1,2,3],[0,1,2,3,4],[0,1,2,3,4,5],[0,1,2,3,4,5,6],[0,1,2,3,4,5,6,7],[0,1,2,3,4,5,6],[0,1,2,3,4,5,6,9],[0,1,2,3,4,5,6,7,8,9,10],[0,1,2,3,4,5,6,7,8,9,10,11],[0,1,2,3,4,5,6,7,8,9,10,11,12],[0,1,2,3,4,5,6,7,8,9,10,11,12,13],[0,1,2,3,4,5,6],[0,1,2,3,4,5,6,15],[0,1,2,3,4,5,6,15,16],[0,1,2,3,4,5,6,7,8,9,10,11,12,13,14,15,16,17],[0,1,2,3,4,5,6,7,8,9,10,11,12,13,14,15,16,17,18],[0,1,2,3,4,5,6,7,8,9,10,11,12,13,14,15,16,17,18,19]] h (by kernel_rfl) (by kernel_rfl) (by kernel_rfl) ?_
    refine br 0 h s bS rfl rfl (aA _ _ _ _) rfl ?_;intro f h
    refine cm h q7 (fun w9 hE9=>aO (.bool true) (fT (L.getD k z3).1 (L.getD k z3).2.1 (L.getD k z3).2.2 w9 ((hO.2 _ (bh hkl)).1.keep (s.ext.trans hE9)) ((hO.2 _ (bh hkl)).2.keep (s.ext.trans hE9)) (by omega) (by omega)) (congrArg Value.bool r0)) rfl rfl ?_;intro f h
    refine ap h (aw (.bool false) (bg (h.ev rfl)) rfl) rfl ?_;intro f h
    refine ap h (ag (h.ev rfl)) rfl ?_;intro f h
    refine bi h rfl rfl rfl ?_
    refine ap h (ag (h.ev rfl)) rfl ?_;intro f h
    refine bi h rfl rfl rfl ?_
    refine ap h (aw (.bool false) (cL (h.ev rfl) (h.ev rfl)) (congrArg Value.bool (decide_eq_false (by have:=of_decide_eq_false k0;omega)))) rfl ?_;intro f h
    refine bi h rfl rfl rfl ?_
    refine ap h (ag (h.ev rfl)) rfl ?_;intro f h
    refine bm (b:=true) h rfl rfl rfl rfl ?_;intro f h
    refine bm (b:=true) h rfl rfl rfl rfl ?_;intro f h
    refine bm (b:=true) h rfl rfl rfl rfl ?_;intro f h
    refine bm (b:=true) h rfl rfl rfl rfl ?_;intro f h
    refine bm (b:=true) h rfl rfl rfl rfl ?_;intro f h
    refine bm (b:=true) h rfl rfl rfl rfl ?_;intro f h
    refine bm (b:=true) h rfl rfl rfl rfl ?_;intro f h
    refine bm (b:=true) h rfl rfl rfl rfl ?_;intro f h
    refine bm (b:=true) h rfl rfl rfl rfl ?_;intro f h
    refine bm (b:=true) h rfl rfl rfl rfl ?_;intro f h
    refine bm (b:=true) h rfl rfl rfl rfl ?_;intro f h
    refine bm (b:=true) h rfl rfl rfl rfl ?_;intro f h
    refine bi h rfl rfl rfl ?_
    refine ap h (aE (h.ev rfl) (h.ev rfl)) rfl ?_;intro f h
    refine ap h (aE (h.ev rfl) (h.ev rfl)) rfl ?_;intro f h
    refine cn s fun w1 s=>?_
    refine ah ?_
    refine hK10 _ _ ?_
    refine wpIn_cond_false (h.ev rfl) ?_
    refine wpIn_skip ?_
    refine hK9 _ _ ?_
    refine aj fun K12 hK12=>?_
    refine ae ?_
    have hq1:=hp1
    have hr9:=r0
    have hk9:decide (0<k)=false∨decide ((L.getD k z3).1.me.1≤(L.getD (k - 1) z3).1.me.1)=false:=.inl k0
    have hkl2:(aS (L.getD k z3).1).length≤700:=by simp only [aS,List.length_append,List.length_cons];omega
    refine ao 0 h s bS rfl rfl (aA _ _ _ _) rfl ?_;intro f h
    refine aF h s uz (kj (L.getD k z3).1 (L.getD k z3).2.1 (L.getD k z3).2.2 _ ((hO.2 _ (bh hkl)).1.keep s.ext) ((hO.2 _ (bh hkl)).2.keep s.ext) (by omega) (by omega)) rfl rfl ?_;intro f w1 v41 hT hE h sq;replace s:=s.sl_new hE hT
    refine ey 0 h s Tryz.underlying36 rfl rfl rfl ?_;intro f h
    refine ac h (ag (h.ev rfl)) rfl ?_;intro f h
    refine ah ?_
    refine hK12 _ _ ?_
    refine wpIn_block ?_
    refine wpIn_loop_ghost (fun nn aa ww=>∃ j:Nat,Sl 63 aa [(0,.agg #[vo]),(1,.pointer (some ⟨b1,0,none⟩)),(5,.pointer (some ⟨b5,0,none⟩)),(10,v10),(3,v10),(12,vo),(13,.int .i64 (L.length:Int)),(14,.int .i64 (k:Int)),(41,v41),(42,.int .i64 ((aS (L.getD k z3).1).length:Int)),(43,.int .i64 (j:Int))]∧St w [.sl v41 28 33 (aS (L.getD k z3).1).length (av (aS (L.getD k z3).1)),.blk b5 (.cells (aD (L.getD k z3).1.me (L.getD k z3).1.pr (L.getD k z3).2.1 (L.getD k z3).2.2) 42),.sl v10 28 33 (aN L).length (av (aN L)),.blk b1 (.cells (#[vo]) 24)] ww∧nn=(aS (L.getD k z3).1).length - j∧j≤(aS (L.getD k z3).1).length∧∀ i,i<j→iI (aN L) ((aS (L.getD k z3).1).getD i a8)=false) ((aS (L.getD k z3).1).length - (0)) ⟨0,h.only ⟨rfl,rfl,rfl,rfl,rfl,rfl,rfl,rfl,rfl,rfl,aR rfl (by omega),trivial⟩,s.as ⟨rfl,rfl,rfl,rfl,trivial⟩,rfl,Nat.zero_le _,fun j hj=>absurd hj (Nat.not_lt_zero _)⟩ ?_
    rintro _ f w1 ⟨j,h,s,hnn,hp0,hp1⟩
    refine aj fun K13 hK13=>?_
    refine ae ?_
    refine ac h (bD (h.ev rfl) (h.ev rfl)) rfl ?_;intro f h
    refine ah ?_
    refine hK13 _ _ ?_
    refine aj fun K14 hK14=>?_
    refine bA h rfl (fun hc=>?_) (fun hc=>?_)
    ·replace hc:=of_decide_eq_true hc
     refine wpIn_skip ?_
     refine hK14 _ _ ?_
     refine aj fun K15 hK15=>?_
     refine wpIn_block ?_
     refine aj fun K16 hK16=>?_
     refine ae ?_
     have hjl:j<(aS (L.getD k z3).1).length:=by omega
     refine ac h (ce (bK.of_own (s.getSl 0 rfl)) (j) Tryz.underlying36 cG (h.ev rfl) (h.ev rfl) (by omega) (by omega)) rfl ?_;intro f h
     refine aM ((bK.of_own (s.getSl 0 rfl)).el (j) (by omega) (by decide) (D:=au ((aS (L.getD k z3).1).getD j a8)) (cK (aS (L.getD k z3).1) j hjl)) h aL rfl (ak _) rfl ?_;intro f h
     refine ba (au a8) h s cz rfl rfl ?_;intro f w1 b7 h s
     refine ay 0 h s aL rfl rfl rfl (ak _) (ak _) (bf _) ?_;intro w1 s
     refine ah ?_
     refine hK16 _ _ ?_
     refine aj fun K17 hK17=>?_
     refine ae ?_
     refine ac h (ag (h.ev rfl)) rfl ?_;intro f h
     refine ac h (al aP (h.ev rfl)) rfl ?_;intro f h
     refine ar (am (bc.of_own s 0 rfl) 0 (aV _)) h bO rfl rfl ?_;intro f h
     refine aF h s rN (iE (aN L) v10 ((aS (L.getD k z3).1).getD j a8).1 _ (bK.of_own (s.getSl 3 rfl)) (by rw [List.length_map];omega)) rfl rfl ?_;intro f w1 v9 hT hE h s;obtain rfl:=hT
     refine ba (au a8) h s cz rfl rfl ?_;intro f w1 b8 h s
     refine ay 0 h s aL rfl rfl rfl (ak _) (ak _) (bf _) ?_;intro w1 s
     refine ah ?_
     refine hK17 _ _ ?_
     refine aj fun K18 hK18=>?_
     cases f0:(decide (0≤(fm (aN L) ((aS (L.getD k z3).1).getD j a8).1).1):Bool)
     ·skip
      refine ae ?_
      refine ac h (al aP (h.ev rfl)) rfl ?_;intro f h
      refine ar (am (bc.of_own s 0 rfl) 0 (aV _)) h bO rfl rfl ?_;intro f h
      refine ac h (aw (.bool false) (c0 (h.ev rfl) (h.ev rfl)) (congrArg Value.bool f0)) rfl ?_;intro f h
      refine ac h (ag (h.ev rfl)) rfl ?_;intro f h
      refine aC (b:=true) h rfl rfl rfl rfl ?_;intro f h
      refine aC (b:=true) h rfl rfl rfl rfl ?_;intro f h
      refine aC (b:=true) h rfl rfl rfl rfl ?_;intro f h
      refine ac h (aE (h.ev rfl) (h.ev rfl)) rfl ?_;intro f h
      refine ah ?_
      refine hK18 _ _ ?_
      refine wpIn_cond_false (h.ev rfl) ?_
      refine wpIn_skip ?_
      refine bF ?_
      refine hK15 _ _ ?_
      refine ae ?_
      refine ac h (cg (h.ev rfl) (h.ev rfl) (by omega)) rfl ?_;intro f h
      refine ac h (ag (h.ev rfl)) rfl ?_;intro f h
      refine ah ?_
      refine bQ ?_
      exact ⟨_,by omega,⟨j+1,h.only ⟨rfl,rfl,rfl,rfl,rfl,rfl,rfl,rfl,rfl,rfl,aR rfl (by omega),trivial⟩,St.as (s.pick _ (List.sublist_append_right [_,_] _)) ⟨rfl,rfl,rfl,rfl,trivial⟩,rfl,by omega,cV hp1 (Ae f0)⟩⟩
     ·skip
      cases f1:(decide ((fm (aN L) ((aS (L.getD k z3).1).getD j a8).1)=((aS (L.getD k z3).1).getD j a8)):Bool)
      ·skip
       refine ae ?_
       refine ac h (al aP (h.ev rfl)) rfl ?_;intro f h
       refine ar (am (bc.of_own s 0 rfl) 0 (aV _)) h bO rfl rfl ?_;intro f h
       refine ac h (aw (.bool true) (c0 (h.ev rfl) (h.ev rfl)) (congrArg Value.bool f0)) rfl ?_;intro f h
       refine ac h (ag (h.ev rfl)) rfl ?_;intro f h
       refine aB h rfl rfl rfl ?_
       refine ao 0 h s aL rfl rfl (ak _) rfl ?_;intro f h
       refine aB h rfl rfl rfl ?_
       refine ao 1 h s aL rfl rfl (ak _) rfl ?_;intro f h
       refine aB h rfl rfl rfl ?_
       refine ac h (aw (.bool true) (dc (gM _ _) (by kernel_rfl) (by decide) (h.ev rfl) (h.ev rfl) (decide ((fm (aN L) ((aS (L.getD k z3).1).getD j a8).1)=((aS (L.getD k z3).1).getD j a8))) (dE _ _)) (by rw [f1];rfl)) rfl ?_;intro f h
       refine ac h (aJ (h.ev rfl) (h.ev rfl)) rfl ?_;intro f h
       refine ah ?_
       refine hK18 _ _ ?_
       refine wpIn_cond_true (h.ev rfl) ?_
       refine aj fun K19 hK19=>?_
       refine ae ?_
       refine ac h (ai (h.ev rfl)) rfl ?_;intro f h
       refine ah ?_
       refine hK19 _ _ ?_
       refine wpIn_ret ?_
       refine bu ?_
       refine aQ ?_
       refine aQ ?_
       refine bu ?_
       refine bu ?_
       refine aQ ?_
       refine aQ ?_
       refine bu ?_
       refine aQ ?_
       exact aX rfl h s rfl (by show _=_;rw [jM hkl (Al hjl (by rw [wE f0,f1];rfl))])
      ·skip
       refine ae ?_
       refine ac h (al aP (h.ev rfl)) rfl ?_;intro f h
       refine ar (am (bc.of_own s 0 rfl) 0 (aV _)) h bO rfl rfl ?_;intro f h
       refine ac h (aw (.bool true) (c0 (h.ev rfl) (h.ev rfl)) (congrArg Value.bool f0)) rfl ?_;intro f h
       refine ac h (ag (h.ev rfl)) rfl ?_;intro f h
       refine aB h rfl rfl rfl ?_
       refine ao 0 h s aL rfl rfl (ak _) rfl ?_;intro f h
       refine aB h rfl rfl rfl ?_
       refine ao 1 h s aL rfl rfl (ak _) rfl ?_;intro f h
       refine aB h rfl rfl rfl ?_
       refine ac h (aw (.bool false) (dc (gM _ _) (by kernel_rfl) (by decide) (h.ev rfl) (h.ev rfl) (decide ((fm (aN L) ((aS (L.getD k z3).1).getD j a8).1)=((aS (L.getD k z3).1).getD j a8))) (dE _ _)) (by rw [f1];rfl)) rfl ?_;intro f h
       refine ac h (aJ (h.ev rfl) (h.ev rfl)) rfl ?_;intro f h
       refine ah ?_
       refine hK18 _ _ ?_
       refine wpIn_cond_false (h.ev rfl) ?_
       refine wpIn_skip ?_
       refine bF ?_
       refine hK15 _ _ ?_
       refine ae ?_
       refine ac h (cg (h.ev rfl) (h.ev rfl) (by omega)) rfl ?_;intro f h
       refine ac h (ag (h.ev rfl)) rfl ?_;intro f h
       refine ah ?_
       refine bQ ?_
       exact ⟨_,by omega,⟨j+1,h.only ⟨rfl,rfl,rfl,rfl,rfl,rfl,rfl,rfl,rfl,rfl,aR rfl (by omega),trivial⟩,St.as (s.pick _ (List.sublist_append_right [_,_] _)) ⟨rfl,rfl,rfl,rfl,trivial⟩,rfl,by omega,cV hp1 (by rw [wE f0,f1];rfl)⟩⟩
    ·replace hc:=of_decide_eq_false hc
     refine wpIn_exit ?_
     refine bw ?_
     refine bw ?_
     refine cq ?_
     refine bF ?_
     refine hK7 _ _ ?_
     refine ae ?_
     refine ac h (cg (h.ev rfl) (h.ev rfl) (by omega)) rfl ?_;intro f h
     refine ac h (ag (h.ev rfl)) rfl ?_;intro f h
     refine ah ?_
     refine bQ ?_
     have hb9:gi L k=false:=Au (j:=j) hr9 hk9 (by omega) hp1
     exact ⟨_,by omega,⟨k+1,h.only ⟨rfl,rfl,rfl,rfl,rfl,rfl,aR rfl (by omega),trivial⟩,St.as (s.pick _ (List.sublist_append_right [_,_] _)) ⟨rfl,rfl,trivial⟩,rfl,by omega,cV hq1 hb9⟩⟩
   ·skip
    cases k1:(decide ((L.getD k z3).1.me.1≤(L.getD (k - 1) z3).1.me.1):Bool)
    ·skip
     refine bJ 21 [[],[0],[0,1],[0,1,2],[0,1,2,3],[0,1,2,3,4],[0,1,2,3,4,5],[0,1,2,3,4,5,6],[0,1,2,3,4,5,6,7],[0,1,2,3,4,5,6],[0,1,2,3,4,5,6,9],[0,1,2,3,4,5,6,7,8,9,10],[0,1,2,3,4,5,6,7,8,9,10,11],[0,1,2,3,4,5,6,7,8,9,10,11,12],[0,1,2,3,4,5,6,7,8,9,10,11,12,13],[0,1,2,3,4,5,6],[0,1,2,3,4,5,6,15],[0,1,2,3,4,5,6,15,16],[0,1,2,3,4,5,6,7,8,9,10,11,12,13,14,15,16,17],[0,1,2,3,4,5,6,7,8,9,10,11,12,13,14,15,16,17,18],[0,1,2,3,4,5,6,7,8,9,10,11,12,13,14,15,16,17,18,19]] h (by kernel_rfl) (by kernel_rfl) (by kernel_rfl) ?_
     refine br 0 h s bS rfl rfl (aA _ _ _ _) rfl ?_;intro f h
     refine cm h q7 (fun w9 hE9=>aO (.bool true) (fT (L.getD k z3).1 (L.getD k z3).2.1 (L.getD k z3).2.2 w9 ((hO.2 _ (bh hkl)).1.keep (s.ext.trans hE9)) ((hO.2 _ (bh hkl)).2.keep (s.ext.trans hE9)) (by omega) (by omega)) (congrArg Value.bool r0)) rfl rfl ?_;intro f h
     refine ap h (aw (.bool false) (bg (h.ev rfl)) rfl) rfl ?_;intro f h
     refine ap h (ag (h.ev rfl)) rfl ?_;intro f h
     refine bi h rfl rfl rfl ?_
     refine ap h (ag (h.ev rfl)) rfl ?_;intro f h
     refine bi h rfl rfl rfl ?_
     refine ap h (aw (.bool true) (cL (h.ev rfl) (h.ev rfl)) (congrArg Value.bool (decide_eq_true (by have:=of_decide_eq_true k0;omega)))) rfl ?_;intro f h
     refine bi h rfl rfl rfl ?_
     refine ap h (ag (h.ev rfl)) rfl ?_;intro f h
     refine bi h rfl rfl rfl ?_
     refine ap h (al cb (h.ev rfl)) rfl ?_;intro f h
     refine bi h rfl rfl rfl ?_
     refine bk (V:=vo) (am (bc.of_own s 2 rfl) 0 rfl) h cH rfl rfl ?_;intro f h
     refine bi h rfl rfl rfl ?_
     refine ap h (ag (h.ev rfl)) rfl ?_;intro f h
     refine bi h rfl rfl rfl ?_
     have hk0:=of_decide_eq_true k0
     refine ap h (dP (h.ev rfl) (h.ev rfl) (by omega)) rfl ?_;intro f h
     refine bi h rfl rfl rfl ?_
     refine ap h (ce (hO.1.keep s.ext) ((k - 1)) Tryz.underlying22 eX (h.ev rfl) (h.ev rfl) (by omega) (by omega)) rfl ?_;intro f h
     refine bi h rfl rfl rfl ?_
     refine ap h (ca a6 (h.ev rfl) ((hO.1.keep s.ext).some (by omega))) rfl ?_;intro f h
     refine bi h rfl rfl rfl ?_
     refine ap h (ca aP (h.ev rfl) ((hO.1.keep s.ext).some (by omega))) rfl ?_;intro f h
     refine bi h rfl rfl rfl ?_
     refine bk (V:=.int .i64 (L.getD (k - 1) z3).1.me.1) (fx (hO.1.keep s.ext) ((k - 1)*68+0) (lS L (k - 1) (by omega))) h bO rfl rfl ?_;intro f h
     refine bi h rfl rfl rfl ?_
     refine ap h (al a6 (h.ev rfl)) rfl ?_;intro f h
     refine bi h rfl rfl rfl ?_
     refine ap h (al aP (h.ev rfl)) rfl ?_;intro f h
     refine bi h rfl rfl rfl ?_
     refine bk (am (bc.of_own s 0 rfl) 0 (bY _ _ _ _)) h bO rfl rfl ?_;intro f h
     refine bi h rfl rfl rfl ?_
     refine ap h (aw (.bool false) (c0 (h.ev rfl) (h.ev rfl)) (congrArg Value.bool k1)) rfl ?_;intro f h
     refine bi h rfl rfl rfl ?_
     refine ap h (aJ (h.ev rfl) (h.ev rfl)) rfl ?_;intro f h
     refine ap h (aE (h.ev rfl) (h.ev rfl)) rfl ?_;intro f h
     refine cn s fun w1 s=>?_
     refine ah ?_
     refine hK10 _ _ ?_
     refine wpIn_cond_false (h.ev rfl) ?_
     refine wpIn_skip ?_
     refine hK9 _ _ ?_
     refine aj fun K20 hK20=>?_
     refine ae ?_
     have hq1:=hp1
     have hr9:=r0
     have hk9:decide (0<k)=false∨decide ((L.getD k z3).1.me.1≤(L.getD (k - 1) z3).1.me.1)=false:=.inr k1
     have hkl2:(aS (L.getD k z3).1).length≤700:=by simp only [aS,List.length_append,List.length_cons];omega
     refine ao 0 h s bS rfl rfl (aA _ _ _ _) rfl ?_;intro f h
     refine aF h s uz (kj (L.getD k z3).1 (L.getD k z3).2.1 (L.getD k z3).2.2 _ ((hO.2 _ (bh hkl)).1.keep s.ext) ((hO.2 _ (bh hkl)).2.keep s.ext) (by omega) (by omega)) rfl rfl ?_;intro f w1 v41 hT hE h sq;replace s:=s.sl_new hE hT
     refine ey 0 h s Tryz.underlying36 rfl rfl rfl ?_;intro f h
     refine ac h (ag (h.ev rfl)) rfl ?_;intro f h
     refine ah ?_
     refine hK20 _ _ ?_
     refine wpIn_block ?_
     refine wpIn_loop_ghost (fun nn aa ww=>∃ j:Nat,Sl 63 aa [(0,.agg #[vo]),(1,.pointer (some ⟨b1,0,none⟩)),(5,.pointer (some ⟨b5,0,none⟩)),(10,v10),(3,v10),(12,vo),(13,.int .i64 (L.length:Int)),(14,.int .i64 (k:Int)),(41,v41),(42,.int .i64 ((aS (L.getD k z3).1).length:Int)),(43,.int .i64 (j:Int))]∧St w [.sl v41 28 33 (aS (L.getD k z3).1).length (av (aS (L.getD k z3).1)),.blk b5 (.cells (aD (L.getD k z3).1.me (L.getD k z3).1.pr (L.getD k z3).2.1 (L.getD k z3).2.2) 42),.sl v10 28 33 (aN L).length (av (aN L)),.blk b1 (.cells (#[vo]) 24)] ww∧nn=(aS (L.getD k z3).1).length - j∧j≤(aS (L.getD k z3).1).length∧∀ i,i<j→iI (aN L) ((aS (L.getD k z3).1).getD i a8)=false) ((aS (L.getD k z3).1).length - (0)) ⟨0,h.only ⟨rfl,rfl,rfl,rfl,rfl,rfl,rfl,rfl,rfl,rfl,aR rfl (by omega),trivial⟩,s.as ⟨rfl,rfl,rfl,rfl,trivial⟩,rfl,Nat.zero_le _,fun j hj=>absurd hj (Nat.not_lt_zero _)⟩ ?_
     rintro _ f w1 ⟨j,h,s,hnn,hp0,hp1⟩
     refine aj fun K21 hK21=>?_
     refine ae ?_
     refine ac h (bD (h.ev rfl) (h.ev rfl)) rfl ?_;intro f h
     refine ah ?_
     refine hK21 _ _ ?_
     refine aj fun K22 hK22=>?_
     refine bA h rfl (fun hc=>?_) (fun hc=>?_)
     ·replace hc:=of_decide_eq_true hc
      refine wpIn_skip ?_
      refine hK22 _ _ ?_
      refine aj fun K23 hK23=>?_
      refine wpIn_block ?_
      refine aj fun K24 hK24=>?_
      refine ae ?_
      have hjl:j<(aS (L.getD k z3).1).length:=by omega
      refine ac h (ce (bK.of_own (s.getSl 0 rfl)) (j) Tryz.underlying36 cG (h.ev rfl) (h.ev rfl) (by omega) (by omega)) rfl ?_;intro f h
      refine aM ((bK.of_own (s.getSl 0 rfl)).el (j) (by omega) (by decide) (D:=au ((aS (L.getD k z3).1).getD j a8)) (cK (aS (L.getD k z3).1) j hjl)) h aL rfl (ak _) rfl ?_;intro f h
      refine ba (au a8) h s cz rfl rfl ?_;intro f w1 b7 h s
      refine ay 0 h s aL rfl rfl rfl (ak _) (ak _) (bf _) ?_;intro w1 s
      refine ah ?_
      refine hK24 _ _ ?_
      refine aj fun K25 hK25=>?_
      refine ae ?_
      refine ac h (ag (h.ev rfl)) rfl ?_;intro f h
      refine ac h (al aP (h.ev rfl)) rfl ?_;intro f h
      refine ar (am (bc.of_own s 0 rfl) 0 (aV _)) h bO rfl rfl ?_;intro f h
      refine aF h s rN (iE (aN L) v10 ((aS (L.getD k z3).1).getD j a8).1 _ (bK.of_own (s.getSl 3 rfl)) (by rw [List.length_map];omega)) rfl rfl ?_;intro f w1 v9 hT hE h s;obtain rfl:=hT
      refine ba (au a8) h s cz rfl rfl ?_;intro f w1 b8 h s
      refine ay 0 h s aL rfl rfl rfl (ak _) (ak _) (bf _) ?_;intro w1 s
      refine ah ?_
      refine hK25 _ _ ?_
      refine aj fun K26 hK26=>?_
      cases f0:(decide (0≤(fm (aN L) ((aS (L.getD k z3).1).getD j a8).1).1):Bool)
      ·skip
       refine ae ?_
       refine ac h (al aP (h.ev rfl)) rfl ?_;intro f h
       refine ar (am (bc.of_own s 0 rfl) 0 (aV _)) h bO rfl rfl ?_;intro f h
       refine ac h (aw (.bool false) (c0 (h.ev rfl) (h.ev rfl)) (congrArg Value.bool f0)) rfl ?_;intro f h
       refine ac h (ag (h.ev rfl)) rfl ?_;intro f h
       refine aC (b:=true) h rfl rfl rfl rfl ?_;intro f h
       refine aC (b:=true) h rfl rfl rfl rfl ?_;intro f h
       refine aC (b:=true) h rfl rfl rfl rfl ?_;intro f h
       refine ac h (aE (h.ev rfl) (h.ev rfl)) rfl ?_;intro f h
       refine ah ?_
       refine hK26 _ _ ?_
       refine wpIn_cond_false (h.ev rfl) ?_
       refine wpIn_skip ?_
       refine bF ?_
       refine hK23 _ _ ?_
       refine ae ?_
       refine ac h (cg (h.ev rfl) (h.ev rfl) (by omega)) rfl ?_;intro f h
       refine ac h (ag (h.ev rfl)) rfl ?_;intro f h
       refine ah ?_
       refine bQ ?_
       exact ⟨_,by omega,⟨j+1,h.only ⟨rfl,rfl,rfl,rfl,rfl,rfl,rfl,rfl,rfl,rfl,aR rfl (by omega),trivial⟩,St.as (s.pick _ (List.sublist_append_right [_,_] _)) ⟨rfl,rfl,rfl,rfl,trivial⟩,rfl,by omega,cV hp1 (Ae f0)⟩⟩
      ·skip
       cases f1:(decide ((fm (aN L) ((aS (L.getD k z3).1).getD j a8).1)=((aS (L.getD k z3).1).getD j a8)):Bool)
       ·skip
        refine ae ?_
        refine ac h (al aP (h.ev rfl)) rfl ?_;intro f h
        refine ar (am (bc.of_own s 0 rfl) 0 (aV _)) h bO rfl rfl ?_;intro f h
        refine ac h (aw (.bool true) (c0 (h.ev rfl) (h.ev rfl)) (congrArg Value.bool f0)) rfl ?_;intro f h
        refine ac h (ag (h.ev rfl)) rfl ?_;intro f h
        refine aB h rfl rfl rfl ?_
        refine ao 0 h s aL rfl rfl (ak _) rfl ?_;intro f h
        refine aB h rfl rfl rfl ?_
        refine ao 1 h s aL rfl rfl (ak _) rfl ?_;intro f h
        refine aB h rfl rfl rfl ?_
        refine ac h (aw (.bool true) (dc (gM _ _) (by kernel_rfl) (by decide) (h.ev rfl) (h.ev rfl) (decide ((fm (aN L) ((aS (L.getD k z3).1).getD j a8).1)=((aS (L.getD k z3).1).getD j a8))) (dE _ _)) (by rw [f1];rfl)) rfl ?_;intro f h
        refine ac h (aJ (h.ev rfl) (h.ev rfl)) rfl ?_;intro f h
        refine ah ?_
        refine hK26 _ _ ?_
        refine wpIn_cond_true (h.ev rfl) ?_
        refine aj fun K27 hK27=>?_
        refine ae ?_
        refine ac h (ai (h.ev rfl)) rfl ?_;intro f h
        refine ah ?_
        refine hK27 _ _ ?_
        refine wpIn_ret ?_
        refine bu ?_
        refine aQ ?_
        refine aQ ?_
        refine bu ?_
        refine bu ?_
        refine aQ ?_
        refine aQ ?_
        refine bu ?_
        refine aQ ?_
        exact aX rfl h s rfl (by show _=_;rw [jM hkl (Al hjl (by rw [wE f0,f1];rfl))])
       ·skip
        refine ae ?_
        refine ac h (al aP (h.ev rfl)) rfl ?_;intro f h
        refine ar (am (bc.of_own s 0 rfl) 0 (aV _)) h bO rfl rfl ?_;intro f h
        refine ac h (aw (.bool true) (c0 (h.ev rfl) (h.ev rfl)) (congrArg Value.bool f0)) rfl ?_;intro f h
        refine ac h (ag (h.ev rfl)) rfl ?_;intro f h
        refine aB h rfl rfl rfl ?_
        refine ao 0 h s aL rfl rfl (ak _) rfl ?_;intro f h
        refine aB h rfl rfl rfl ?_
        refine ao 1 h s aL rfl rfl (ak _) rfl ?_;intro f h
        refine aB h rfl rfl rfl ?_
        refine ac h (aw (.bool false) (dc (gM _ _) (by kernel_rfl) (by decide) (h.ev rfl) (h.ev rfl) (decide ((fm (aN L) ((aS (L.getD k z3).1).getD j a8).1)=((aS (L.getD k z3).1).getD j a8))) (dE _ _)) (by rw [f1];rfl)) rfl ?_;intro f h
        refine ac h (aJ (h.ev rfl) (h.ev rfl)) rfl ?_;intro f h
        refine ah ?_
        refine hK26 _ _ ?_
        refine wpIn_cond_false (h.ev rfl) ?_
        refine wpIn_skip ?_
        refine bF ?_
        refine hK23 _ _ ?_
        refine ae ?_
        refine ac h (cg (h.ev rfl) (h.ev rfl) (by omega)) rfl ?_;intro f h
        refine ac h (ag (h.ev rfl)) rfl ?_;intro f h
        refine ah ?_
        refine bQ ?_
        exact ⟨_,by omega,⟨j+1,h.only ⟨rfl,rfl,rfl,rfl,rfl,rfl,rfl,rfl,rfl,rfl,aR rfl (by omega),trivial⟩,St.as (s.pick _ (List.sublist_append_right [_,_] _)) ⟨rfl,rfl,rfl,rfl,trivial⟩,rfl,by omega,cV hp1 (by rw [wE f0,f1];rfl)⟩⟩
     ·replace hc:=of_decide_eq_false hc
      refine wpIn_exit ?_
      refine bw ?_
      refine bw ?_
      refine cq ?_
      refine bF ?_
      refine hK7 _ _ ?_
      refine ae ?_
      refine ac h (cg (h.ev rfl) (h.ev rfl) (by omega)) rfl ?_;intro f h
      refine ac h (ag (h.ev rfl)) rfl ?_;intro f h
      refine ah ?_
      refine bQ ?_
      have hb9:gi L k=false:=Au (j:=j) hr9 hk9 (by omega) hp1
      exact ⟨_,by omega,⟨k+1,h.only ⟨rfl,rfl,rfl,rfl,rfl,rfl,aR rfl (by omega),trivial⟩,St.as (s.pick _ (List.sublist_append_right [_,_] _)) ⟨rfl,rfl,trivial⟩,rfl,by omega,cV hq1 hb9⟩⟩
    ·skip
     refine bJ 21 [[],[0],[0,1],[0,1,2],[0,1,2,3],[0,1,2,3,4],[0,1,2,3,4,5],[0,1,2,3,4,5,6],[0,1,2,3,4,5,6,7],[0,1,2,3,4,5,6],[0,1,2,3,4,5,6,9],[0,1,2,3,4,5,6,7,8,9,10],[0,1,2,3,4,5,6,7,8,9,10,11],[0,1,2,3,4,5,6,7,8,9,10,11,12],[0,1,2,3,4,5,6,7,8,9,10,11,12,13],[0,1,2,3,4,5,6],[0,1,2,3,4,5,6,15],[0,1,2,3,4,5,6,15,16],[0,1,2,3,4,5,6,7,8,9,10,11,12,13,14,15,16,17],[0,1,2,3,4,5,6,7,8,9,10,11,12,13,14,15,16,17,18],[0,1,2,3,4,5,6,7,8,9,10,11,12,13,14,15,16,17,18,19]] h (by kernel_rfl) (by kernel_rfl) (by kernel_rfl) ?_
     refine br 0 h s bS rfl rfl (aA _ _ _ _) rfl ?_;intro f h
     refine cm h q7 (fun w9 hE9=>aO (.bool true) (fT (L.getD k z3).1 (L.getD k z3).2.1 (L.getD k z3).2.2 w9 ((hO.2 _ (bh hkl)).1.keep (s.ext.trans hE9)) ((hO.2 _ (bh hkl)).2.keep (s.ext.trans hE9)) (by omega) (by omega)) (congrArg Value.bool r0)) rfl rfl ?_;intro f h
     refine ap h (aw (.bool false) (bg (h.ev rfl)) rfl) rfl ?_;intro f h
     refine ap h (ag (h.ev rfl)) rfl ?_;intro f h
     refine bi h rfl rfl rfl ?_
     refine ap h (ag (h.ev rfl)) rfl ?_;intro f h
     refine bi h rfl rfl rfl ?_
     refine ap h (aw (.bool true) (cL (h.ev rfl) (h.ev rfl)) (congrArg Value.bool (decide_eq_true (by have:=of_decide_eq_true k0;omega)))) rfl ?_;intro f h
     refine bi h rfl rfl rfl ?_
     refine ap h (ag (h.ev rfl)) rfl ?_;intro f h
     refine bi h rfl rfl rfl ?_
     refine ap h (al cb (h.ev rfl)) rfl ?_;intro f h
     refine bi h rfl rfl rfl ?_
     refine bk (V:=vo) (am (bc.of_own s 2 rfl) 0 rfl) h cH rfl rfl ?_;intro f h
     refine bi h rfl rfl rfl ?_
     refine ap h (ag (h.ev rfl)) rfl ?_;intro f h
     refine bi h rfl rfl rfl ?_
     have hk0:=of_decide_eq_true k0
     refine ap h (dP (h.ev rfl) (h.ev rfl) (by omega)) rfl ?_;intro f h
     refine bi h rfl rfl rfl ?_
     refine ap h (ce (hO.1.keep s.ext) ((k - 1)) Tryz.underlying22 eX (h.ev rfl) (h.ev rfl) (by omega) (by omega)) rfl ?_;intro f h
     refine bi h rfl rfl rfl ?_
     refine ap h (ca a6 (h.ev rfl) ((hO.1.keep s.ext).some (by omega))) rfl ?_;intro f h
     refine bi h rfl rfl rfl ?_
     refine ap h (ca aP (h.ev rfl) ((hO.1.keep s.ext).some (by omega))) rfl ?_;intro f h
     refine bi h rfl rfl rfl ?_
     refine bk (V:=.int .i64 (L.getD (k - 1) z3).1.me.1) (fx (hO.1.keep s.ext) ((k - 1)*68+0) (lS L (k - 1) (by omega))) h bO rfl rfl ?_;intro f h
     refine bi h rfl rfl rfl ?_
     refine ap h (al a6 (h.ev rfl)) rfl ?_;intro f h
     refine bi h rfl rfl rfl ?_
     refine ap h (al aP (h.ev rfl)) rfl ?_;intro f h
     refine bi h rfl rfl rfl ?_
     refine bk (am (bc.of_own s 0 rfl) 0 (bY _ _ _ _)) h bO rfl rfl ?_;intro f h
     refine bi h rfl rfl rfl ?_
     refine ap h (aw (.bool true) (c0 (h.ev rfl) (h.ev rfl)) (congrArg Value.bool k1)) rfl ?_;intro f h
     refine bi h rfl rfl rfl ?_
     refine ap h (aJ (h.ev rfl) (h.ev rfl)) rfl ?_;intro f h
     refine ap h (aE (h.ev rfl) (h.ev rfl)) rfl ?_;intro f h
     refine cn s fun w1 s=>?_
     refine ah ?_
     refine hK10 _ _ ?_
     refine wpIn_cond_true (h.ev rfl) ?_
     refine aj fun K28 hK28=>?_
     refine ae ?_
     refine ac h (ai (h.ev rfl)) rfl ?_;intro f h
     refine ah ?_
     refine hK28 _ _ ?_
     refine wpIn_ret ?_
     refine aQ ?_
     refine bu ?_
     refine aQ ?_
     refine aQ ?_
     refine bu ?_
     refine aQ ?_
     exact aX rfl h s rfl (by show _=_;rw [jM hkl (A3 k0 k1)])
 ·replace hc:=of_decide_eq_false hc
  refine wpIn_exit ?_
  refine bw ?_
  refine bw ?_
  refine cq ?_
  refine hK3 _ _ ?_
  refine aj fun K29 hK29=>?_
  refine ae ?_
  refine ac h (ag (h.ev rfl)) rfl ?_;intro f h
  refine aF h s Ar (qj (aN L) v10 _ (bK.of_own (s.getSl 0 rfl)) (by rw [List.length_map];omega)) rfl rfl ?_;intro f w1 v9 hT hE h s;obtain rfl:=hT
  refine ac h (ai (h.ev rfl)) rfl ?_;intro f h
  refine ah ?_
  refine hK29 _ _ ?_
  refine wpIn_ret ?_
  exact aX rfl h s rfl (by show _=_;rw [xf (by omega) hp1])
end Go.Proofs.YthggibfkgofncaaGreat
