/- What is alike; few; what is wanted. -/
import Derived.Test.YthggibfkgofncaaGreatCon
set_option linter.unusedVariables false
set_option linter.unusedSimpArgs false
set_option linter.unusedSectionVars false
namespace Go.Proofs.YthggibfkgofncaaGreat
open Go.RowKit
theorem fG (l r:List Mb) (vh vu:Value) (w:World) (hR:bK w vh 33 l.length (av l)) (hS:bK w vu 33 r.length (av r)) (hln:l.length≤1000) (hln2:r.length≤1000):Calls Tryz.prog 14 [vh,vu].toArray w (cT w (is (.bool (decide (l=r))))):=by
 refine bj Tryz.func14 rfl Tryz.ntmps14 rfl [(0,vh),(1,vu)] (by simp) fun f h=>?_
 have s:=St.start w
 refine aj fun K1 hK1=>?_
 refine ae ?_
 refine ac h (ai (h.ev rfl)) rfl ?_;intro f h
 refine ah ?_
 refine hK1 _ _ ?_
 refine aj fun K2 hK2=>?_
 refine aj fun K3 hK3=>?_
 refine ae ?_
 refine ac h (ag (h.ev rfl)) rfl ?_;intro f h
 refine ac h (aY (hR.keep s.ext) Tryz.underlying36 (h.ev rfl)) rfl ?_;intro f h
 refine ac h (ag (h.ev rfl)) rfl ?_;intro f h
 refine ac h (aY (hS.keep s.ext) Tryz.underlying36 (h.ev rfl)) rfl ?_;intro f h
 refine ac h (cO (h.ev rfl) (h.ev rfl)) rfl ?_;intro f h
 refine ah ?_
 refine hK3 _ _ ?_
 refine bA h rfl (fun hc=>?_) (fun hc=>?_)
 ·replace hc:=hc
  refine aj fun K4 hK4=>?_
  refine ae ?_
  refine ac h (ai (h.ev rfl)) rfl ?_;intro f h
  refine ah ?_
  refine hK4 _ _ ?_
  refine wpIn_ret ?_
  refine aQ ?_
  exact aX rfl h s rfl ((by show _=_;rw [decide_eq_false (fun e=>by subst e;simp at hc)]))
 ·have hl9:l.length=r.length:=by have:=hc;simp at this;omega
  refine wpIn_skip ?_
  refine hK2 _ _ ?_
  refine aj fun K5 hK5=>?_
  refine aj fun K6 hK6=>?_
  refine ae ?_
  refine ac h (ag (h.ev rfl)) rfl ?_;intro f h
  refine ac h (aY (hR.keep s.ext) Tryz.underlying36 (h.ev rfl)) rfl ?_;intro f h
  refine ac h (ag (h.ev rfl)) rfl ?_;intro f h
  refine ah ?_
  refine hK6 _ _ ?_
  refine wpIn_block ?_
  refine wpIn_loop_ghost (fun nn aa ww=>∃ k:Nat,Sl 26 aa [(0,vh),(1,vu),(11,vh),(12,.int .i64 (l.length:Int)),(13,.int .i64 (k:Int))]∧St w [] ww∧nn=l.length - k∧k≤l.length∧∀ j,j<k→l.getD j a8=r.getD j a8) (l.length - (0)) ⟨0,h.only ⟨rfl,rfl,rfl,rfl,aR rfl (by omega),trivial⟩,s.as trivial,rfl,Nat.zero_le _,fun j hj=>absurd hj (Nat.not_lt_zero _)⟩ ?_
  rintro _ f w1 ⟨k,h,s,hnn,hp0,hp1⟩
  refine aj fun K7 hK7=>?_
  refine ae ?_
  refine ac h (bD (h.ev rfl) (h.ev rfl)) rfl ?_;intro f h
  refine ah ?_
  refine hK7 _ _ ?_
  refine aj fun K8 hK8=>?_
  refine bA h rfl (fun hc=>?_) (fun hc=>?_)
  ·replace hc:=of_decide_eq_true hc
   refine wpIn_skip ?_
   refine hK8 _ _ ?_
   refine aj fun K9 hK9=>?_
   refine wpIn_block ?_
   refine aj fun K10 hK10=>?_
   refine ae ?_
   refine ac h (ag (h.ev rfl)) rfl ?_;intro f h
   refine ac h (ai (h.ev rfl)) rfl ?_;intro f h
   refine ah ?_
   refine hK10 _ _ ?_
   refine aj fun K11 hK11=>?_
   refine bJ 9 [[],[],[0,1],[0,1,2],[],[],[4,5],[4,5,6],[0,1,2,3,4,5,6,7]] h (by kernel_rfl) (by kernel_rfl) (by kernel_rfl) ?_
   have hka:k<l.length:=by omega
   have hkb:k<r.length:=by omega
   refine ap h (ag (h.ev rfl)) rfl ?_;intro f h
   refine ap h (ag (h.ev rfl)) rfl ?_;intro f h
   refine ap h (ce (hR.keep s.ext) (k) Tryz.underlying36 cG (h.ev rfl) (h.ev rfl) (by omega) (by omega)) rfl ?_;intro f h
   refine bz ((hR.keep s.ext).el (k) (by omega) (by decide) (D:=au (l.getD k a8)) (cK l k hka)) h aL rfl (ak _) rfl ?_;intro f h
   refine ap h (ag (h.ev rfl)) rfl ?_;intro f h
   refine ap h (ag (h.ev rfl)) rfl ?_;intro f h
   refine ap h (ce (hS.keep s.ext) (k) Tryz.underlying36 cG (h.ev rfl) (h.ev rfl) (by omega) (by omega)) rfl ?_;intro f h
   refine bz ((hS.keep s.ext).el (k) (by omega) (by decide) (D:=au (r.getD k a8)) (cK r k hkb)) h aL rfl (ak _) rfl ?_;intro f h
   refine ap h (dc (gM _ _) (by kernel_rfl) (by decide) (h.ev rfl) (h.ev rfl) (decide ((l.getD k a8)=r.getD k a8)) (dE _ _)) rfl ?_;intro f h
   refine cn s fun w1 s=>?_
   refine ah ?_
   refine hK11 _ _ ?_
   refine bA h rfl (fun hc=>?_) (fun hc=>?_)
   ·refine aj fun K12 hK12=>?_
    refine ae ?_
    refine ac h (ai (h.ev rfl)) rfl ?_;intro f h
    refine ah ?_
    refine hK12 _ _ ?_
    refine wpIn_ret ?_
    refine bu ?_
    refine aQ ?_
    refine aQ ?_
    refine bu ?_
    refine aQ ?_
    exact aX rfl h s rfl ((by show _=_;rw [decide_eq_false (fun e=>by subst e;simp at hc)]))
   ·refine wpIn_skip ?_
    refine bF ?_
    refine hK9 _ _ ?_
    refine ae ?_
    refine ac h (cg (h.ev rfl) (h.ev rfl) (by omega)) rfl ?_;intro f h
    refine ac h (ag (h.ev rfl)) rfl ?_;intro f h
    refine ah ?_
    refine bQ ?_
    exact ⟨_,by omega,⟨k+1,h.only ⟨rfl,rfl,rfl,rfl,aR rfl (by omega),trivial⟩,St.as s trivial,rfl,by omega,pt hp1 (by simpa using hc)⟩⟩
  ·replace hc:=of_decide_eq_false hc
   refine wpIn_exit ?_
   refine bw ?_
   refine bw ?_
   refine cq ?_
   refine hK5 _ _ ?_
   refine aj fun K13 hK13=>?_
   refine ae ?_
   refine ac h (ai (h.ev rfl)) rfl ?_;intro f h
   refine ah ?_
   refine hK13 _ _ ?_
   refine wpIn_ret ?_
   exact aX rfl h s rfl ((by show _=_;rw [decide_eq_true (qY hl9 (fun j hj=>hp1 j (by omega)))]))
theorem dK (m:Mb) (w:World):Calls Tryz.prog 75 [.agg (au m)].toArray w (cT w (is (.bool (dd m)))):=by
 refine bj Tryz.func75 rfl Tryz.ntmps75 rfl [(0,.agg (au m))] (by simp) fun f h=>?_
 have s:=St.start w
 refine aj fun K1 hK1=>?_
 refine ae ?_
 refine bT ((au m)) h s rfl rfl rfl ?_;intro f w1 b1 h s
 refine ac h (ai (h.ev rfl)) rfl ?_;intro f h
 refine ah ?_
 refine hK1 _ _ ?_
 refine aj fun K2 hK2=>?_
 cases h0:(decide (0≤m.1):Bool)
 ·skip
  refine ae ?_
  refine ac h (al aP (h.ev rfl)) rfl ?_;intro f h
  refine ar (am (bc.of_own s 0 rfl) 0 (aV _)) h bO rfl rfl ?_;intro f h
  refine ac h (aw (.bool false) (c0 (h.ev rfl) (h.ev rfl)) (congrArg Value.bool h0)) rfl ?_;intro f h
  refine ac h (ag (h.ev rfl)) rfl ?_;intro f h
  refine aC (b:=true) h rfl rfl rfl rfl ?_;intro f h
  refine aC (b:=true) h rfl rfl rfl rfl ?_;intro f h
  refine aC (b:=true) h rfl rfl rfl rfl ?_;intro f h
  refine ac h (aE (h.ev rfl) (h.ev rfl)) rfl ?_;intro f h
  refine ac h (ai (h.ev rfl)) rfl ?_;intro f h
  refine ah ?_
  refine hK2 _ _ ?_
  refine wpIn_ret ?_
  exact aX rfl h s rfl (by show _=_;rw [tG h0]<;>rfl)
 ·skip
  refine ae ?_
  refine ac h (al aP (h.ev rfl)) rfl ?_;intro f h
  refine ar (am (bc.of_own s 0 rfl) 0 (aV _)) h bO rfl rfl ?_;intro f h
  refine ac h (aw (.bool true) (c0 (h.ev rfl) (h.ev rfl)) (congrArg Value.bool h0)) rfl ?_;intro f h
  refine ac h (ag (h.ev rfl)) rfl ?_;intro f h
  refine aB h rfl rfl rfl ?_
  refine ac h (al aP (h.ev rfl)) rfl ?_;intro f h
  refine aB h rfl rfl rfl ?_
  refine ar (am (bc.of_own s 0 rfl) 0 (aV _)) h bO rfl rfl ?_;intro f h
  refine aB h rfl rfl rfl ?_
  refine ac h (aw (.bool (decide (m.1<16))) (fH (h.ev rfl) (h.ev rfl)) (congrArg Value.bool (decide_eq_decide.2 (by omega)))) rfl ?_;intro f h
  refine ac h (aJ (h.ev rfl) (h.ev rfl)) rfl ?_;intro f h
  refine ac h (ai (h.ev rfl)) rfl ?_;intro f h
  refine ah ?_
  refine hK2 _ _ ?_
  refine wpIn_ret ?_
  exact aX rfl h s rfl (by show _=_;rw [x8 h0]<;>rfl)
theorem ep (m:Mb) (w:World):Calls Tryz.prog 52 [.agg (au m)].toArray w (cT w (is (.bool (decide (m=d5))))):=by
 refine bj Tryz.func52 rfl Tryz.ntmps52 rfl [(0,.agg (au m))] (by simp) fun f h=>?_
 have s:=St.start w
 refine aj fun K1 hK1=>?_
 refine ae ?_
 refine bT ((au m)) h s rfl rfl rfl ?_;intro f w1 b1 h s
 refine ac h (ai (h.ev rfl)) rfl ?_;intro f h
 refine ah ?_
 refine hK1 _ _ ?_
 refine aj fun K2 hK2=>?_
 cases h0:(decide (m.1 = -1):Bool)
 ·skip
  refine ae ?_
  refine ac h (al aP (h.ev rfl)) rfl ?_;intro f h
  refine ar (am (bc.of_own s 0 rfl) 0 (aV _)) h bO rfl rfl ?_;intro f h
  refine ac h (aw (.bool false) (cc (h.ev rfl) (h.ev rfl)) (congrArg Value.bool h0)) rfl ?_;intro f h
  refine ac h (ag (h.ev rfl)) rfl ?_;intro f h
  refine aC (b:=true) h rfl rfl rfl rfl ?_;intro f h
  refine aC (b:=true) h rfl rfl rfl rfl ?_;intro f h
  refine aC (b:=true) h rfl rfl rfl rfl ?_;intro f h
  refine aC (b:=true) h rfl rfl rfl rfl ?_;intro f h
  refine ac h (aE (h.ev rfl) (h.ev rfl)) rfl ?_;intro f h
  refine ac h (ai (h.ev rfl)) rfl ?_;intro f h
  refine ah ?_
  refine hK2 _ _ ?_
  refine wpIn_ret ?_
  exact aX rfl h s rfl (by show _=_;rw [yV h0])
 ·skip
  refine ae ?_
  refine ac h (al aP (h.ev rfl)) rfl ?_;intro f h
  refine ar (am (bc.of_own s 0 rfl) 0 (aV _)) h bO rfl rfl ?_;intro f h
  refine ac h (aw (.bool true) (cc (h.ev rfl) (h.ev rfl)) (congrArg Value.bool h0)) rfl ?_;intro f h
  refine ac h (ag (h.ev rfl)) rfl ?_;intro f h
  refine aB h rfl rfl rfl ?_
  refine ac h (al c3 (h.ev rfl)) rfl ?_;intro f h
  refine aB h rfl rfl rfl ?_
  refine aM (bc.subL (bc.of_own s 0 rfl) 1 32 (D:=bq (_)) (cW _)) h bV rfl (by first|exact aI _|exact aG _ _) rfl ?_;intro f h
  refine aB h rfl rfl rfl ?_
  refine ac h (iB fv) rfl ?_;intro f h
  refine aB h rfl rfl rfl ?_
  refine ac h (dU fv (h.ev rfl) (h.ev rfl)) rfl ?_;intro f h
  refine ac h (aJ (h.ev rfl) (h.ev rfl)) rfl ?_;intro f h
  refine ac h (ai (h.ev rfl)) rfl ?_;intro f h
  refine ah ?_
  refine hK2 _ _ ?_
  refine wpIn_ret ?_
  exact aX rfl h s rfl (by show _=_;rw [zL h0]<;>rfl)
theorem dL (l:List Mb) (vh:Value) (no:Int) (w:World) (hR:bK w vh 33 l.length (av l)) (hln:l.length≤1000):Calls Tryz.prog 76 [vh,.int .i64 no].toArray w (cT w (is (.bool (gP l no)))):=by
 refine bj Tryz.func76 rfl Tryz.ntmps76 rfl [(0,vh),(1,.int .i64 no)] (by simp) fun f h=>?_
 have s:=St.start w
 refine aj fun K1 hK1=>?_
 refine ae ?_
 refine ac h (ai (h.ev rfl)) rfl ?_;intro f h
 refine ah ?_
 refine hK1 _ _ ?_
 refine aj fun K2 hK2=>?_
 refine aj fun K3 hK3=>?_
 refine ae ?_
 refine ac h (ag (h.ev rfl)) rfl ?_;intro f h
 refine ac h (aY (hR.keep s.ext) Tryz.underlying36 (h.ev rfl)) rfl ?_;intro f h
 refine ac h (ag (h.ev rfl)) rfl ?_;intro f h
 refine ah ?_
 refine hK3 _ _ ?_
 refine wpIn_block ?_
 refine wpIn_loop_ghost (fun nn aa ww=>∃ k:Nat,Sl 40 aa [(0,vh),(1,.int .i64 no),(9,vh),(10,.int .i64 (l.length:Int)),(11,.int .i64 (k:Int))]∧St w [] ww∧nn=l.length - k∧k≤l.length∧∀ j,j<k→iJ l no j=false) (l.length - (0)) ⟨0,h.only ⟨rfl,rfl,rfl,rfl,aR rfl (by omega),trivial⟩,s.as trivial,rfl,Nat.zero_le _,fun j hj=>absurd hj (Nat.not_lt_zero _)⟩ ?_
 rintro _ f w1 ⟨k,h,s,hnn,hp0,hp1⟩
 refine aj fun K4 hK4=>?_
 refine ae ?_
 refine ac h (bD (h.ev rfl) (h.ev rfl)) rfl ?_;intro f h
 refine ah ?_
 refine hK4 _ _ ?_
 refine aj fun K5 hK5=>?_
 refine bA h rfl (fun hc=>?_) (fun hc=>?_)
 ·replace hc:=of_decide_eq_true hc
  refine wpIn_skip ?_
  refine hK5 _ _ ?_
  refine aj fun K6 hK6=>?_
  refine wpIn_block ?_
  refine aj fun K7 hK7=>?_
  refine ae ?_
  refine ac h (ag (h.ev rfl)) rfl ?_;intro f h
  have hkl:k<l.length:=by omega
  refine ac h (ce (hR.keep s.ext) (k) Tryz.underlying36 cG (h.ev rfl) (h.ev rfl) (by omega) (by omega)) rfl ?_;intro f h
  refine aM ((hR.keep s.ext).el (k) (by omega) (by decide) (D:=au (l.getD k a8)) (cK l k hkl)) h aL rfl (ak _) rfl ?_;intro f h
  refine ba (au a8) h s cz rfl rfl ?_;intro f w1 b6 h s
  refine ac h (ai (h.ev rfl)) rfl ?_;intro f h
  refine ay 0 h s aL rfl rfl rfl (ak _) (ak _) (bf _) ?_;intro w1 s
  refine ah ?_
  refine hK7 _ _ ?_
  refine aj fun K8 hK8=>?_
  refine aj fun K9 hK9=>?_
  cases k0:(dd (l.getD k a8):Bool)
  ·skip
   refine ae ?_
   refine ao 0 h s aL rfl rfl (ak _) rfl ?_;intro f h
   refine aF h s g4 (aO (.bool false) (dK (l.getD k a8) _) (congrArg Value.bool k0)) rfl rfl ?_;intro f w1 v9 hT hE h s;obtain rfl:=hT
   refine ac h (aw (.bool true) (bg (h.ev rfl)) rfl) rfl ?_;intro f h
   refine ac h (ag (h.ev rfl)) rfl ?_;intro f h
   refine aC (b:=false) h rfl rfl rfl rfl ?_;intro f h
   refine aC (b:=false) h rfl rfl rfl rfl ?_;intro f h
   refine aC (b:=false) h rfl rfl rfl rfl ?_;intro f h
   refine aC (b:=false) h rfl rfl rfl rfl ?_;intro f h
   refine ac h (aJ (h.ev rfl) (h.ev rfl)) rfl ?_;intro f h
   refine ah ?_
   refine hK9 _ _ ?_
   refine wpIn_cond_true (h.ev rfl) ?_
   refine aj fun K10 hK10=>?_
   refine ae ?_
   refine ac h (ai (h.ev rfl)) rfl ?_;intro f h
   refine ah ?_
   refine hK10 _ _ ?_
   refine wpIn_ret ?_
   refine aQ ?_
   refine bu ?_
   refine aQ ?_
   refine aQ ?_
   refine bu ?_
   refine aQ ?_
   exact aX rfl h s rfl (by show _=_;rw [gm hkl (vi k0)])
  ·skip
   cases k1:(decide ((l.getD k a8).1=no):Bool)
   ·skip
    refine ae ?_
    refine ao 0 h s aL rfl rfl (ak _) rfl ?_;intro f h
    refine aF h s g4 (aO (.bool true) (dK (l.getD k a8) _) (congrArg Value.bool k0)) rfl rfl ?_;intro f w1 v9 hT hE h s;obtain rfl:=hT
    refine ac h (aw (.bool false) (bg (h.ev rfl)) rfl) rfl ?_;intro f h
    refine ac h (ag (h.ev rfl)) rfl ?_;intro f h
    refine aB h rfl rfl rfl ?_
    refine ac h (al aP (h.ev rfl)) rfl ?_;intro f h
    refine aB h rfl rfl rfl ?_
    refine ar (am (bc.of_own s 0 rfl) 0 (aV _)) h bO rfl rfl ?_;intro f h
    refine aB h rfl rfl rfl ?_
    refine ac h (ag (h.ev rfl)) rfl ?_;intro f h
    refine aB h rfl rfl rfl ?_
    refine ac h (aw (.bool false) (cc (h.ev rfl) (h.ev rfl)) (congrArg Value.bool k1)) rfl ?_;intro f h
    refine ac h (aE (h.ev rfl) (h.ev rfl)) rfl ?_;intro f h
    refine ah ?_
    refine hK9 _ _ ?_
    refine wpIn_cond_false (h.ev rfl) ?_
    refine wpIn_skip ?_
    refine hK8 _ _ ?_
    refine aj fun K11 hK11=>?_
    refine ae ?_
    have hq1:=hp1
    have hlt9:(l.take k).length=k:=by rw [List.length_take];omega
    refine ac h (ag (h.ev rfl)) rfl ?_;intro f h
    refine ac h (ag (h.ev rfl)) rfl ?_;intro f h
    refine ac h (dl (hR.keep s.ext) (k) Tryz.underlying36 cG (h.ev rfl) (h.ev rfl) (rfl) (by omega)) rfl ?_;intro f h
    refine ac h (aY ((eO hR k (by omega)).keep s.ext) Tryz.underlying36 (h.ev rfl)) rfl ?_;intro f h
    refine ac h (ag (h.ev rfl)) rfl ?_;intro f h
    refine ah ?_
    refine hK11 _ _ ?_
    refine wpIn_block ?_
    refine wpIn_loop_ghost (fun nn aa ww=>∃ j:Nat,Sl 40 aa [(0,vh),(1,.int .i64 no),(6,.pointer (some ⟨b6,0,none⟩)),(9,vh),(10,.int .i64 (l.length:Int)),(11,.int .i64 (k:Int)),(27,gb vh k),(28,.int .i64 ((l.take k).length:Int)),(29,.int .i64 (j:Int))]∧St w [.blk b6 (.cells (au (l.getD k a8)) 28)] ww∧nn=k - j∧j≤k∧∀ i,i<j→decide ((l.getD i a8).1=(l.getD k a8).1)=false) (k - (0)) ⟨0,h.only ⟨rfl,rfl,rfl,rfl,rfl,rfl,rfl,rfl,aR rfl (by omega),trivial⟩,s.as ⟨rfl,trivial⟩,rfl,Nat.zero_le _,fun j hj=>absurd hj (Nat.not_lt_zero _)⟩ ?_
    rintro _ f w1 ⟨j,h,s,hnn,hp0,hp1⟩
    refine aj fun K12 hK12=>?_
    refine ae ?_
    refine ac h (bD (h.ev rfl) (h.ev rfl)) rfl ?_;intro f h
    refine ah ?_
    refine hK12 _ _ ?_
    refine aj fun K13 hK13=>?_
    refine bA h rfl (fun hc=>?_) (fun hc=>?_)
    ·replace hc:=of_decide_eq_true hc
     refine wpIn_skip ?_
     refine hK13 _ _ ?_
     refine aj fun K14 hK14=>?_
     refine wpIn_block ?_
     refine aj fun K15 hK15=>?_
     refine ae ?_
     have hjk:j<k:=by omega
     refine ac h (ce ((eO hR k (by omega)).keep s.ext) (j) Tryz.underlying36 cG (h.ev rfl) (h.ev rfl) (by omega) (by omega)) rfl ?_;intro f h
     refine aM (((eO hR k (by omega)).keep s.ext).el (j) (by omega) (by decide) (D:=au (l.getD j a8)) (tH l hjk (by omega))) h aL rfl (ak _) rfl ?_;intro f h
     refine ba (au a8) h s cz rfl rfl ?_;intro f w1 b8 h s
     refine ay 0 h s aL rfl rfl rfl (ak _) (ak _) (bf _) ?_;intro w1 s
     refine ah ?_
     refine hK15 _ _ ?_
     refine aj fun K16 hK16=>?_
     refine ae ?_
     refine ac h (al aP (h.ev rfl)) rfl ?_;intro f h
     refine ar (am (bc.of_own s 0 rfl) 0 (aV _)) h bO rfl rfl ?_;intro f h
     refine ac h (al aP (h.ev rfl)) rfl ?_;intro f h
     refine ar (am (bc.of_own s 1 rfl) 0 (aV _)) h bO rfl rfl ?_;intro f h
     refine ac h (cc (h.ev rfl) (h.ev rfl)) rfl ?_;intro f h
     refine ah ?_
     refine hK16 _ _ ?_
     refine bA h rfl (fun hc=>?_) (fun hc=>?_)
     ·refine aj fun K17 hK17=>?_
      refine ae ?_
      refine ac h (ai (h.ev rfl)) rfl ?_;intro f h
      refine ah ?_
      refine hK17 _ _ ?_
      refine wpIn_ret ?_
      refine bu ?_
      refine aQ ?_
      refine aQ ?_
      refine bu ?_
      refine bu ?_
      refine aQ ?_
      refine aQ ?_
      refine bu ?_
      refine aQ ?_
      exact aX rfl h s rfl (by show _=_;rw [gm hkl ((nw k0 k1).trans (km (p:=fun x=>decide (x.1=(l.getD k a8).1)) (by omega) hjk hc))])
     ·refine wpIn_skip ?_
      refine bF ?_
      refine hK14 _ _ ?_
      refine ae ?_
      refine ac h (cg (h.ev rfl) (h.ev rfl) (by omega)) rfl ?_;intro f h
      refine ac h (ag (h.ev rfl)) rfl ?_;intro f h
      refine ah ?_
      refine bQ ?_
      exact ⟨_,by omega,⟨j+1,h.only ⟨rfl,rfl,rfl,rfl,rfl,rfl,rfl,rfl,aR rfl (by omega),trivial⟩,St.as (s.pick _ (List.sublist_append_right [_] _)) ⟨rfl,trivial⟩,rfl,by omega,cV (q:=fun i=>decide ((l.getD i a8).1=(l.getD k a8).1)) hp1 hc⟩⟩
    ·replace hc:=of_decide_eq_false hc
     refine wpIn_exit ?_
     refine bw ?_
     refine bw ?_
     refine cq ?_
     refine bF ?_
     refine hK6 _ _ ?_
     refine ae ?_
     refine ac h (cg (h.ev rfl) (h.ev rfl) (by omega)) rfl ?_;intro f h
     refine ac h (ag (h.ev rfl)) rfl ?_;intro f h
     refine ah ?_
     refine bQ ?_
     have hb9:iJ l no k=false:=(nw k0 k1).trans (pi (p:=fun x=>decide (x.1=(l.getD k a8).1)) (by omega) (fun i hi=>hp1 i (by omega)))
     exact ⟨_,by omega,⟨k+1,h.only ⟨rfl,rfl,rfl,rfl,aR rfl (by omega),trivial⟩,St.as (s.pick _ (List.sublist_append_right [_] _)) trivial,rfl,by omega,cV hq1 hb9⟩⟩
   ·skip
    refine ae ?_
    refine ao 0 h s aL rfl rfl (ak _) rfl ?_;intro f h
    refine aF h s g4 (aO (.bool true) (dK (l.getD k a8) _) (congrArg Value.bool k0)) rfl rfl ?_;intro f w1 v9 hT hE h s;obtain rfl:=hT
    refine ac h (aw (.bool false) (bg (h.ev rfl)) rfl) rfl ?_;intro f h
    refine ac h (ag (h.ev rfl)) rfl ?_;intro f h
    refine aB h rfl rfl rfl ?_
    refine ac h (al aP (h.ev rfl)) rfl ?_;intro f h
    refine aB h rfl rfl rfl ?_
    refine ar (am (bc.of_own s 0 rfl) 0 (aV _)) h bO rfl rfl ?_;intro f h
    refine aB h rfl rfl rfl ?_
    refine ac h (ag (h.ev rfl)) rfl ?_;intro f h
    refine aB h rfl rfl rfl ?_
    refine ac h (aw (.bool true) (cc (h.ev rfl) (h.ev rfl)) (congrArg Value.bool k1)) rfl ?_;intro f h
    refine ac h (aE (h.ev rfl) (h.ev rfl)) rfl ?_;intro f h
    refine ah ?_
    refine hK9 _ _ ?_
    refine wpIn_cond_true (h.ev rfl) ?_
    refine aj fun K18 hK18=>?_
    refine ae ?_
    refine ac h (ai (h.ev rfl)) rfl ?_;intro f h
    refine ah ?_
    refine hK18 _ _ ?_
    refine wpIn_ret ?_
    refine aQ ?_
    refine bu ?_
    refine aQ ?_
    refine aQ ?_
    refine bu ?_
    refine aQ ?_
    exact aX rfl h s rfl (by show _=_;rw [gm hkl (uG k1)])
 ·replace hc:=of_decide_eq_false hc
  refine wpIn_exit ?_
  refine bw ?_
  refine bw ?_
  refine cq ?_
  refine hK2 _ _ ?_
  refine aj fun K19 hK19=>?_
  refine ae ?_
  refine ac h (ai (h.ev rfl)) rfl ?_;intro f h
  refine ah ?_
  refine hK19 _ _ ?_
  refine wpIn_ret ?_
  exact aX rfl h s rfl (by show _=_;rw [px (by omega) hp1])
theorem o6 (a b:Nd) (u1 u2 v1 v2:Value) (w:World) (hA1:bK w u1 33 a.sc.length (av a.sc)) (hA2:bK w u2 33 a.fg.length (av a.fg)) (hB1:bK w v1 33 b.sc.length (av b.sc)) (hB2:bK w v2 33 b.fg.length (av b.fg)) (ha1:a.sc.length≤1000) (ha2:a.fg.length≤1000) (hb1:b.sc.length≤1000) (hb2:b.fg.length≤1000):Calls Tryz.prog 67 [.agg (aD a.me a.pr u1 u2),.agg (aD b.me b.pr v1 v2)].toArray w (cT w (is (.bool (eG a b)))):=by
 refine bj Tryz.func67 rfl Tryz.ntmps67 rfl [(0,.agg (aD a.me a.pr u1 u2)),(1,.agg (aD b.me b.pr v1 v2))] (by simp) fun f h=>?_
 have s:=St.start w
 refine aj fun K1 hK1=>?_
 refine ae ?_
 refine bT (aD a.me a.pr u1 u2) h s rfl rfl rfl ?_;intro f w1 b2 h s
 refine bT (aD b.me b.pr v1 v2) h s rfl rfl rfl ?_;intro f w1 b3 h s
 refine ac h (ai (h.ev rfl)) rfl ?_;intro f h
 refine ah ?_
 refine hK1 _ _ ?_
 refine aj fun K2 hK2=>?_
 cases e0:(decide (a.me=b.me):Bool)
 ·skip
  refine ae ?_
  refine ac h (al a6 (h.ev rfl)) rfl ?_;intro f h
  refine aM (bc.subL (bc.of_own s 1 rfl) 0 33 (D:=au a.me) (bU _ _ _ _)) h aL rfl (ak _) rfl ?_;intro f h
  refine ac h (al a6 (h.ev rfl)) rfl ?_;intro f h
  refine aM (bc.subL (bc.of_own s 0 rfl) 0 33 (D:=au b.me) (bU _ _ _ _)) h aL rfl (ak _) rfl ?_;intro f h
  refine ac h (aw (.bool false) (c4 (gM _ _) (by kernel_rfl) (by decide) (h.ev rfl) (h.ev rfl) (decide (a.me=b.me)) (dE _ _)) (congrArg Value.bool e0)) rfl ?_;intro f h
  refine ac h (ag (h.ev rfl)) rfl ?_;intro f h
  refine aC (b:=true) h rfl rfl rfl rfl ?_;intro f h
  refine aC (b:=true) h rfl rfl rfl rfl ?_;intro f h
  refine aC (b:=true) h rfl rfl rfl rfl ?_;intro f h
  refine aC (b:=true) h rfl rfl rfl rfl ?_;intro f h
  refine aC (b:=true) h rfl rfl rfl rfl ?_;intro f h
  refine ac h (aE (h.ev rfl) (h.ev rfl)) rfl ?_;intro f h
  refine ac h (ag (h.ev rfl)) rfl ?_;intro f h
  refine aC (b:=true) h rfl rfl rfl rfl ?_;intro f h
  refine aC (b:=true) h rfl rfl rfl rfl ?_;intro f h
  refine aC (b:=true) h rfl rfl rfl rfl ?_;intro f h
  refine aC (b:=true) h rfl rfl rfl rfl ?_;intro f h
  refine aC (b:=true) h rfl rfl rfl rfl ?_;intro f h
  refine ac h (aE (h.ev rfl) (h.ev rfl)) rfl ?_;intro f h
  refine ac h (ag (h.ev rfl)) rfl ?_;intro f h
  refine aC (b:=true) h rfl rfl rfl rfl ?_;intro f h
  refine aC (b:=true) h rfl rfl rfl rfl ?_;intro f h
  refine aC (b:=true) h rfl rfl rfl rfl ?_;intro f h
  refine aC (b:=true) h rfl rfl rfl rfl ?_;intro f h
  refine aC (b:=true) h rfl rfl rfl rfl ?_;intro f h
  refine ac h (aE (h.ev rfl) (h.ev rfl)) rfl ?_;intro f h
  refine ac h (ai (h.ev rfl)) rfl ?_;intro f h
  refine ah ?_
  refine hK2 _ _ ?_
  refine wpIn_ret ?_
  exact aX rfl h s rfl (by show _=_;rw [Bp e0])
 ·skip
  cases e1:(decide (a.pr=b.pr):Bool)
  ·skip
   refine ae ?_
   refine ac h (al a6 (h.ev rfl)) rfl ?_;intro f h
   refine aM (bc.subL (bc.of_own s 1 rfl) 0 33 (D:=au a.me) (bU _ _ _ _)) h aL rfl (ak _) rfl ?_;intro f h
   refine ac h (al a6 (h.ev rfl)) rfl ?_;intro f h
   refine aM (bc.subL (bc.of_own s 0 rfl) 0 33 (D:=au b.me) (bU _ _ _ _)) h aL rfl (ak _) rfl ?_;intro f h
   refine ac h (aw (.bool true) (c4 (gM _ _) (by kernel_rfl) (by decide) (h.ev rfl) (h.ev rfl) (decide (a.me=b.me)) (dE _ _)) (congrArg Value.bool e0)) rfl ?_;intro f h
   refine ac h (ag (h.ev rfl)) rfl ?_;intro f h
   refine aB h rfl rfl rfl ?_
   refine ac h (al cy (h.ev rfl)) rfl ?_;intro f h
   refine aB h rfl rfl rfl ?_
   refine aM (bc.subL (bc.of_own s 1 rfl) 33 33 (D:=au a.pr) (co _ _ _ _)) h aL rfl (ak _) rfl ?_;intro f h
   refine aB h rfl rfl rfl ?_
   refine ac h (al cy (h.ev rfl)) rfl ?_;intro f h
   refine aB h rfl rfl rfl ?_
   refine aM (bc.subL (bc.of_own s 0 rfl) 33 33 (D:=au b.pr) (co _ _ _ _)) h aL rfl (ak _) rfl ?_;intro f h
   refine aB h rfl rfl rfl ?_
   refine ac h (aw (.bool false) (c4 (gM _ _) (by kernel_rfl) (by decide) (h.ev rfl) (h.ev rfl) (decide (a.pr=b.pr)) (dE _ _)) (congrArg Value.bool e1)) rfl ?_;intro f h
   refine ac h (aJ (h.ev rfl) (h.ev rfl)) rfl ?_;intro f h
   refine ac h (ag (h.ev rfl)) rfl ?_;intro f h
   refine aC (b:=true) h rfl rfl rfl rfl ?_;intro f h
   refine aC (b:=true) h rfl rfl rfl rfl ?_;intro f h
   refine aC (b:=true) h rfl rfl rfl rfl ?_;intro f h
   refine aC (b:=true) h rfl rfl rfl rfl ?_;intro f h
   refine aC (b:=true) h rfl rfl rfl rfl ?_;intro f h
   refine ac h (aE (h.ev rfl) (h.ev rfl)) rfl ?_;intro f h
   refine ac h (ag (h.ev rfl)) rfl ?_;intro f h
   refine aC (b:=true) h rfl rfl rfl rfl ?_;intro f h
   refine aC (b:=true) h rfl rfl rfl rfl ?_;intro f h
   refine aC (b:=true) h rfl rfl rfl rfl ?_;intro f h
   refine aC (b:=true) h rfl rfl rfl rfl ?_;intro f h
   refine aC (b:=true) h rfl rfl rfl rfl ?_;intro f h
   refine ac h (aE (h.ev rfl) (h.ev rfl)) rfl ?_;intro f h
   refine ac h (ai (h.ev rfl)) rfl ?_;intro f h
   refine ah ?_
   refine hK2 _ _ ?_
   refine wpIn_ret ?_
   exact aX rfl h s rfl (by show _=_;rw [Bd e1])
  ·skip
   cases e2:(decide (a.sc=b.sc):Bool)
   ·skip
    refine ae ?_
    refine ac h (al a6 (h.ev rfl)) rfl ?_;intro f h
    refine aM (bc.subL (bc.of_own s 1 rfl) 0 33 (D:=au a.me) (bU _ _ _ _)) h aL rfl (ak _) rfl ?_;intro f h
    refine ac h (al a6 (h.ev rfl)) rfl ?_;intro f h
    refine aM (bc.subL (bc.of_own s 0 rfl) 0 33 (D:=au b.me) (bU _ _ _ _)) h aL rfl (ak _) rfl ?_;intro f h
    refine ac h (aw (.bool true) (c4 (gM _ _) (by kernel_rfl) (by decide) (h.ev rfl) (h.ev rfl) (decide (a.me=b.me)) (dE _ _)) (congrArg Value.bool e0)) rfl ?_;intro f h
    refine ac h (ag (h.ev rfl)) rfl ?_;intro f h
    refine aB h rfl rfl rfl ?_
    refine ac h (al cy (h.ev rfl)) rfl ?_;intro f h
    refine aB h rfl rfl rfl ?_
    refine aM (bc.subL (bc.of_own s 1 rfl) 33 33 (D:=au a.pr) (co _ _ _ _)) h aL rfl (ak _) rfl ?_;intro f h
    refine aB h rfl rfl rfl ?_
    refine ac h (al cy (h.ev rfl)) rfl ?_;intro f h
    refine aB h rfl rfl rfl ?_
    refine aM (bc.subL (bc.of_own s 0 rfl) 33 33 (D:=au b.pr) (co _ _ _ _)) h aL rfl (ak _) rfl ?_;intro f h
    refine aB h rfl rfl rfl ?_
    refine ac h (aw (.bool true) (c4 (gM _ _) (by kernel_rfl) (by decide) (h.ev rfl) (h.ev rfl) (decide (a.pr=b.pr)) (dE _ _)) (congrArg Value.bool e1)) rfl ?_;intro f h
    refine ac h (aJ (h.ev rfl) (h.ev rfl)) rfl ?_;intro f h
    refine ac h (ag (h.ev rfl)) rfl ?_;intro f h
    refine aB h rfl rfl rfl ?_
    refine ac h (al bI (h.ev rfl)) rfl ?_;intro f h
    refine aB h rfl rfl rfl ?_
    refine ar (V:=u1) (am (bc.of_own s 1 rfl) 66 (bC _ _ _ _)) h bH rfl rfl ?_;intro f h
    refine aB h rfl rfl rfl ?_
    refine ac h (al bI (h.ev rfl)) rfl ?_;intro f h
    refine aB h rfl rfl rfl ?_
    refine ar (V:=v1) (am (bc.of_own s 0 rfl) 66 (bC _ _ _ _)) h bH rfl rfl ?_;intro f h
    refine aB h rfl rfl rfl ?_
    refine aF h s ly (aO (.bool false) (fG a.sc b.sc u1 v1 _ (hA1.keep s.ext) (hB1.keep s.ext) ha1 hb1) (congrArg Value.bool e2)) rfl rfl ?_;intro f w1 v9 hT hE h s;obtain rfl:=hT
    refine ac h (aJ (h.ev rfl) (h.ev rfl)) rfl ?_;intro f h
    refine ac h (ag (h.ev rfl)) rfl ?_;intro f h
    refine aC (b:=true) h rfl rfl rfl rfl ?_;intro f h
    refine aC (b:=true) h rfl rfl rfl rfl ?_;intro f h
    refine aC (b:=true) h rfl rfl rfl rfl ?_;intro f h
    refine aC (b:=true) h rfl rfl rfl rfl ?_;intro f h
    refine aC (b:=true) h rfl rfl rfl rfl ?_;intro f h
    refine ac h (aE (h.ev rfl) (h.ev rfl)) rfl ?_;intro f h
    refine ac h (ai (h.ev rfl)) rfl ?_;intro f h
    refine ah ?_
    refine hK2 _ _ ?_
    refine wpIn_ret ?_
    exact aX rfl h s rfl (by show _=_;rw [BE e2])
   ·skip
    refine ae ?_
    refine ac h (al a6 (h.ev rfl)) rfl ?_;intro f h
    refine aM (bc.subL (bc.of_own s 1 rfl) 0 33 (D:=au a.me) (bU _ _ _ _)) h aL rfl (ak _) rfl ?_;intro f h
    refine ac h (al a6 (h.ev rfl)) rfl ?_;intro f h
    refine aM (bc.subL (bc.of_own s 0 rfl) 0 33 (D:=au b.me) (bU _ _ _ _)) h aL rfl (ak _) rfl ?_;intro f h
    refine ac h (aw (.bool true) (c4 (gM _ _) (by kernel_rfl) (by decide) (h.ev rfl) (h.ev rfl) (decide (a.me=b.me)) (dE _ _)) (congrArg Value.bool e0)) rfl ?_;intro f h
    refine ac h (ag (h.ev rfl)) rfl ?_;intro f h
    refine aB h rfl rfl rfl ?_
    refine ac h (al cy (h.ev rfl)) rfl ?_;intro f h
    refine aB h rfl rfl rfl ?_
    refine aM (bc.subL (bc.of_own s 1 rfl) 33 33 (D:=au a.pr) (co _ _ _ _)) h aL rfl (ak _) rfl ?_;intro f h
    refine aB h rfl rfl rfl ?_
    refine ac h (al cy (h.ev rfl)) rfl ?_;intro f h
    refine aB h rfl rfl rfl ?_
    refine aM (bc.subL (bc.of_own s 0 rfl) 33 33 (D:=au b.pr) (co _ _ _ _)) h aL rfl (ak _) rfl ?_;intro f h
    refine aB h rfl rfl rfl ?_
    refine ac h (aw (.bool true) (c4 (gM _ _) (by kernel_rfl) (by decide) (h.ev rfl) (h.ev rfl) (decide (a.pr=b.pr)) (dE _ _)) (congrArg Value.bool e1)) rfl ?_;intro f h
    refine ac h (aJ (h.ev rfl) (h.ev rfl)) rfl ?_;intro f h
    refine ac h (ag (h.ev rfl)) rfl ?_;intro f h
    refine aB h rfl rfl rfl ?_
    refine ac h (al bI (h.ev rfl)) rfl ?_;intro f h
    refine aB h rfl rfl rfl ?_
    refine ar (V:=u1) (am (bc.of_own s 1 rfl) 66 (bC _ _ _ _)) h bH rfl rfl ?_;intro f h
    refine aB h rfl rfl rfl ?_
    refine ac h (al bI (h.ev rfl)) rfl ?_;intro f h
    refine aB h rfl rfl rfl ?_
    refine ar (V:=v1) (am (bc.of_own s 0 rfl) 66 (bC _ _ _ _)) h bH rfl rfl ?_;intro f h
    refine aB h rfl rfl rfl ?_
    refine aF h s ly (aO (.bool true) (fG a.sc b.sc u1 v1 _ (hA1.keep s.ext) (hB1.keep s.ext) ha1 hb1) (congrArg Value.bool e2)) rfl rfl ?_;intro f w1 v9 hT hE h s;obtain rfl:=hT
    refine ac h (aJ (h.ev rfl) (h.ev rfl)) rfl ?_;intro f h
    refine ac h (ag (h.ev rfl)) rfl ?_;intro f h
    refine aB h rfl rfl rfl ?_
    refine ac h (al cC (h.ev rfl)) rfl ?_;intro f h
    refine aB h rfl rfl rfl ?_
    refine ar (V:=u2) (am (bc.of_own s 1 rfl) 67 (cB _ _ _ _)) h bH rfl rfl ?_;intro f h
    refine aB h rfl rfl rfl ?_
    refine ac h (al cC (h.ev rfl)) rfl ?_;intro f h
    refine aB h rfl rfl rfl ?_
    refine ar (V:=v2) (am (bc.of_own s 0 rfl) 67 (cB _ _ _ _)) h bH rfl rfl ?_;intro f h
    refine aB h rfl rfl rfl ?_
    refine aF h s ly (fG a.fg b.fg u2 v2 _ (hA2.keep s.ext) (hB2.keep s.ext) ha2 hb2) rfl rfl ?_;intro f w1 v9 hT hE h s;obtain rfl:=hT
    refine ac h (aJ (h.ev rfl) (h.ev rfl)) rfl ?_;intro f h
    refine ac h (ai (h.ev rfl)) rfl ?_;intro f h
    refine ah ?_
    refine hK2 _ _ ?_
    refine wpIn_ret ?_
    exact aX rfl h s rfl (by show _=_;rw [Bw e0 e1 e2])
theorem mM (L K:List N3) (vo vp:Value) (w:World) (hO:cf w vo L) (hL:L.length≤40) (hP:cf w vp K) (hK:K.length≤40) (hbL:RwB L) (hbK:RwB K):Calls Tryz.prog 32 [.agg #[vo],.agg #[vp]].toArray w (cT w (is (.bool (lG (nds L) (nds K))))):=by
 refine bj Tryz.func32 rfl Tryz.ntmps32 rfl [(0,.agg #[vo]),(1,.agg #[vp])] (by simp) fun f h=>?_
 have s:=St.start w
 refine aj fun K1 hK1=>?_
 refine ae ?_
 refine bT (#[vo]) h s rfl rfl rfl ?_;intro f w1 b2 h s
 refine bT (#[vp]) h s rfl rfl rfl ?_;intro f w1 b3 h s
 refine ac h (ai (h.ev rfl)) rfl ?_;intro f h
 refine ah ?_
 refine hK1 _ _ ?_
 refine aj fun K2 hK2=>?_
 refine aj fun K3 hK3=>?_
 refine ae ?_
 refine ac h (al cb (h.ev rfl)) rfl ?_;intro f h
 refine ar (V:=vo) (am (bc.of_own s 1 rfl) 0 rfl) h cH rfl rfl ?_;intro f h
 refine ac h (aY (hO.1.keep s.ext) Tryz.underlying22 (h.ev rfl)) rfl ?_;intro f h
 refine ac h (al cb (h.ev rfl)) rfl ?_;intro f h
 refine ar (V:=vp) (am (bc.of_own s 0 rfl) 0 rfl) h cH rfl rfl ?_;intro f h
 refine ac h (aY (hP.1.keep s.ext) Tryz.underlying22 (h.ev rfl)) rfl ?_;intro f h
 refine ac h (cO (h.ev rfl) (h.ev rfl)) rfl ?_;intro f h
 refine ah ?_
 refine hK3 _ _ ?_
 refine bA h rfl (fun hc=>?_) (fun hc=>?_)
 ·have hne:¬ (nds L).length=(nds K).length:=by rw [List.length_map,List.length_map];intro e9;exact(of_decide_eq_true hc) (by omega)
  refine aj fun K4 hK4=>?_
  refine ae ?_
  refine ac h (ai (h.ev rfl)) rfl ?_;intro f h
  refine ah ?_
  refine hK4 _ _ ?_
  refine wpIn_ret ?_
  refine aQ ?_
  exact aX rfl h s rfl (by show _=_;rw [rV hne])
 ·have hle:L.length=K.length:=by have:=of_decide_eq_false hc;omega
  refine wpIn_skip ?_
  refine hK2 _ _ ?_
  refine aj fun K5 hK5=>?_
  refine aj fun K6 hK6=>?_
  refine ae ?_
  refine ac h (al cb (h.ev rfl)) rfl ?_;intro f h
  refine ar (V:=vo) (am (bc.of_own s 1 rfl) 0 rfl) h cH rfl rfl ?_;intro f h
  refine ac h (aY (hO.1.keep s.ext) Tryz.underlying22 (h.ev rfl)) rfl ?_;intro f h
  refine ac h (ag (h.ev rfl)) rfl ?_;intro f h
  refine ah ?_
  refine hK6 _ _ ?_
  refine wpIn_block ?_
  refine wpIn_loop_ghost (fun nn aa ww=>∃ k:Nat,Sl 32 aa [(0,.agg #[vo]),(1,.agg #[vp]),(2,.pointer (some ⟨b2,0,none⟩)),(3,.pointer (some ⟨b3,0,none⟩)),(15,.int .i64 (L.length:Int)),(16,.int .i64 (k:Int))]∧St w [.blk b3 (.cells (#[vp]) 24),.blk b2 (.cells (#[vo]) 24)] ww∧nn=L.length - k∧k≤L.length∧∀ j,j<k→eG (L.getD j z3).1 (K.getD j z3).1=true) (L.length - (0)) ⟨0,h.only ⟨rfl,rfl,rfl,rfl,rfl,aR rfl (by omega),trivial⟩,s.as ⟨rfl,rfl,trivial⟩,rfl,Nat.zero_le _,fun j hj=>absurd hj (Nat.not_lt_zero _)⟩ ?_
  rintro _ f w1 ⟨k,h,s,hnn,hp0,hp1⟩
  refine aj fun K7 hK7=>?_
  refine ae ?_
  refine ac h (bD (h.ev rfl) (h.ev rfl)) rfl ?_;intro f h
  refine ah ?_
  refine hK7 _ _ ?_
  refine aj fun K8 hK8=>?_
  refine bA h rfl (fun hc=>?_) (fun hc=>?_)
  ·replace hc:=of_decide_eq_true hc
   refine wpIn_skip ?_
   refine hK8 _ _ ?_
   refine aj fun K9 hK9=>?_
   refine wpIn_block ?_
   refine aj fun K10 hK10=>?_
   refine ae ?_
   have hkl:k<L.length:=by omega
   have hkk:k<K.length:=by omega
   have hx9:=hbL.each _ (bh hkl)
   have hy9:=hbK.each _ (bh hkk)
   refine ac h (ag (h.ev rfl)) rfl ?_;intro f h
   refine ac h (ai (h.ev rfl)) rfl ?_;intro f h
   refine ah ?_
   refine hK10 _ _ ?_
   refine aj fun K11 hK11=>?_
   cases hl9:(eG (L.getD k z3).1 (K.getD k z3).1:Bool)
   ·skip
    refine bJ 12 [[],[0],[],[0,1,2],[0,1,2,3],[],[5],[],[5,6,7],[5,6,7,8],[0,1,2,3,4,5,6,7,8,9],[0,1,2,3,4,5,6,7,8,9,10]] h (by kernel_rfl) (by kernel_rfl) (by kernel_rfl) ?_
    refine ap h (al cb (h.ev rfl)) rfl ?_;intro f h
    refine bk (V:=vo) (am (bc.of_own s 1 rfl) 0 rfl) h cH rfl rfl ?_;intro f h
    refine ap h (ag (h.ev rfl)) rfl ?_;intro f h
    refine ap h (ce (hO.1.keep s.ext) (k) Tryz.underlying22 eX (h.ev rfl) (h.ev rfl) (rfl) (by omega)) rfl ?_;intro f h
    refine bz ((hO.1.keep s.ext).el (k) (by omega) (by decide) (D:=aD (L.getD k z3).1.me (L.getD k z3).1.pr (L.getD k z3).2.1 (L.getD k z3).2.2) (c6 L k hkl)) h bS rfl (aA _ _ _ _) rfl ?_;intro f h
    refine ap h (al cb (h.ev rfl)) rfl ?_;intro f h
    refine bk (V:=vp) (am (bc.of_own s 0 rfl) 0 rfl) h cH rfl rfl ?_;intro f h
    refine ap h (ag (h.ev rfl)) rfl ?_;intro f h
    refine ap h (ce (hP.1.keep s.ext) (k) Tryz.underlying22 eX (h.ev rfl) (h.ev rfl) (rfl) (by omega)) rfl ?_;intro f h
    refine bz ((hP.1.keep s.ext).el (k) (by omega) (by decide) (D:=aD (K.getD k z3).1.me (K.getD k z3).1.pr (K.getD k z3).2.1 (K.getD k z3).2.2) (c6 K k hkk)) h bS rfl (aA _ _ _ _) rfl ?_;intro f h
    refine cm h yp (fun w9 hE9=>aO (.bool false) (o6 (L.getD k z3).1 (K.getD k z3).1 (L.getD k z3).2.1 (L.getD k z3).2.2 (K.getD k z3).2.1 (K.getD k z3).2.2 w9 (((hO.2 _ (bh hkl)).1).keep (s.ext.trans hE9)) (((hO.2 _ (bh hkl)).2).keep (s.ext.trans hE9)) (((hP.2 _ (bh hkk)).1).keep (s.ext.trans hE9)) (((hP.2 _ (bh hkk)).2).keep (s.ext.trans hE9)) (by omega) (by omega) (by omega) (by omega)) (congrArg Value.bool hl9)) rfl rfl ?_;intro f h
    refine ap h (aw (.bool true) (bg (h.ev rfl)) rfl) rfl ?_;intro f h
    refine cn s fun w1 s=>?_
    refine ah ?_
    refine hK11 _ _ ?_
    refine wpIn_cond_true (h.ev rfl) ?_
    refine aj fun K12 hK12=>?_
    refine ae ?_
    refine ac h (ai (h.ev rfl)) rfl ?_;intro f h
    refine ah ?_
    refine hK12 _ _ ?_
    refine wpIn_ret ?_
    refine bu ?_
    refine aQ ?_
    refine aQ ?_
    refine bu ?_
    refine aQ ?_
    exact aX rfl h s rfl (by show _=_;rw [tz hkl hkk hl9])
   ·skip
    refine bJ 12 [[],[0],[],[0,1,2],[0,1,2,3],[],[5],[],[5,6,7],[5,6,7,8],[0,1,2,3,4,5,6,7,8,9],[0,1,2,3,4,5,6,7,8,9,10]] h (by kernel_rfl) (by kernel_rfl) (by kernel_rfl) ?_
    refine ap h (al cb (h.ev rfl)) rfl ?_;intro f h
    refine bk (V:=vo) (am (bc.of_own s 1 rfl) 0 rfl) h cH rfl rfl ?_;intro f h
    refine ap h (ag (h.ev rfl)) rfl ?_;intro f h
    refine ap h (ce (hO.1.keep s.ext) (k) Tryz.underlying22 eX (h.ev rfl) (h.ev rfl) (rfl) (by omega)) rfl ?_;intro f h
    refine bz ((hO.1.keep s.ext).el (k) (by omega) (by decide) (D:=aD (L.getD k z3).1.me (L.getD k z3).1.pr (L.getD k z3).2.1 (L.getD k z3).2.2) (c6 L k hkl)) h bS rfl (aA _ _ _ _) rfl ?_;intro f h
    refine ap h (al cb (h.ev rfl)) rfl ?_;intro f h
    refine bk (V:=vp) (am (bc.of_own s 0 rfl) 0 rfl) h cH rfl rfl ?_;intro f h
    refine ap h (ag (h.ev rfl)) rfl ?_;intro f h
    refine ap h (ce (hP.1.keep s.ext) (k) Tryz.underlying22 eX (h.ev rfl) (h.ev rfl) (rfl) (by omega)) rfl ?_;intro f h
    refine bz ((hP.1.keep s.ext).el (k) (by omega) (by decide) (D:=aD (K.getD k z3).1.me (K.getD k z3).1.pr (K.getD k z3).2.1 (K.getD k z3).2.2) (c6 K k hkk)) h bS rfl (aA _ _ _ _) rfl ?_;intro f h
    refine cm h yp (fun w9 hE9=>aO (.bool true) (o6 (L.getD k z3).1 (K.getD k z3).1 (L.getD k z3).2.1 (L.getD k z3).2.2 (K.getD k z3).2.1 (K.getD k z3).2.2 w9 (((hO.2 _ (bh hkl)).1).keep (s.ext.trans hE9)) (((hO.2 _ (bh hkl)).2).keep (s.ext.trans hE9)) (((hP.2 _ (bh hkk)).1).keep (s.ext.trans hE9)) (((hP.2 _ (bh hkk)).2).keep (s.ext.trans hE9)) (by omega) (by omega) (by omega) (by omega)) (congrArg Value.bool hl9)) rfl rfl ?_;intro f h
    refine ap h (aw (.bool false) (bg (h.ev rfl)) rfl) rfl ?_;intro f h
    refine cn s fun w1 s=>?_
    refine ah ?_
    refine hK11 _ _ ?_
    refine wpIn_cond_false (h.ev rfl) ?_
    refine wpIn_skip ?_
    refine bF ?_
    refine hK9 _ _ ?_
    refine ae ?_
    refine ac h (cg (h.ev rfl) (h.ev rfl) (by omega)) rfl ?_;intro f h
    refine ac h (ag (h.ev rfl)) rfl ?_;intro f h
    refine ah ?_
    refine bQ ?_
    exact ⟨_,by omega,⟨k+1,h.only ⟨rfl,rfl,rfl,rfl,rfl,aR rfl (by omega),trivial⟩,St.as s ⟨rfl,rfl,trivial⟩,rfl,by omega,vv hp1 hl9⟩⟩
  ·replace hc:=of_decide_eq_false hc
   refine wpIn_exit ?_
   refine bw ?_
   refine bw ?_
   refine cq ?_
   refine hK5 _ _ ?_
   refine aj fun K13 hK13=>?_
   refine ae ?_
   refine ac h (ai (h.ev rfl)) rfl ?_;intro f h
   refine ah ?_
   refine hK13 _ _ ?_
   refine wpIn_ret ?_
   exact aX rfl h s rfl (by show _=_;rw [si hle (fun j hj=>hp1 j (by omega))])
set_option maxHeartbeats 1000000 in
theorem uE (L:List N3) (vo:Value) (w:World) (hO:cf w vo L):Calls Tryz.prog 7 [.agg #[vo]].toArray w (cT w (zT w 42 ((L.take (min L.length 18)).map gX))):=by
 have hT:=hO.take (min L.length 18) (Nat.min_le_left _ _)
 obtain ⟨M,hM⟩:∃ x9,x9=L.take (min L.length 18):=⟨_,rfl⟩
 rw [← hM] at hT
 have hM18:M.length≤18:=by rw [hM,List.length_take];omega
 refine bj Tryz.func7 rfl Tryz.ntmps7 rfl [(0,.agg #[vo])] (by simp) fun f h=>?_
 have s:=St.start w
 refine aj fun K1 hK1=>?_
 refine ae ?_
 refine bT (#[vo]) h s rfl rfl rfl ?_;intro f w1 b1 h s
 refine ba (#[bo]) h s dY rfl rfl ?_;intro f w1 b2 h s
 refine ah ?_
 refine hK1 _ _ ?_
 refine aj fun K2 hK2=>?_
 refine ae ?_
 refine ba (#[bo]) h s dY rfl rfl ?_;intro f w1 b3 h s
 refine ah ?_
 refine hK2 _ _ ?_
 refine aj fun K3 hK3=>?_
 refine aj fun K4 hK4=>?_
 refine ae ?_
 replace s:=s.nilSl 42 68
 refine ac h (al cb (h.ev rfl)) rfl ?_;intro f h
 refine ar (V:=vo) (am (bc.of_own s 3 rfl) 0 rfl) h cH rfl rfl ?_;intro f h
 refine ac h (al cb (h.ev rfl)) rfl ?_;intro f h
 refine ar (V:=vo) (am (bc.of_own s 3 rfl) 0 rfl) h cH rfl rfl ?_;intro f h
 refine ac h (aY (hO.1.keep s.ext) Tryz.underlying22 (h.ev rfl)) rfl ?_;intro f h
 refine ac h (nx (h.ev rfl) (h.ev rfl)) rfl ?_;intro f h
 refine ac h (dl (hO.1.keep s.ext) (min L.length 18) Tryz.underlying22 eX (h.ev rfl) (h.ev rfl) (by split<;>omega) (by omega)) rfl ?_;intro f h
 refine ac h (aY (hT.1.keep s.ext) Tryz.underlying22 (h.ev rfl)) rfl ?_;intro f h
 refine ac h (ag (h.ev rfl)) rfl ?_;intro f h
 refine ah ?_
 refine hK4 _ _ ?_
 refine wpIn_block ?_
 refine wpIn_loop_ghost (fun nn aa ww=>∃ k:Nat,∃ vb:Value,Sl 42 aa [(0,.agg #[vo]),(1,.pointer (some ⟨b1,0,none⟩)),(2,.pointer (some ⟨b2,0,none⟩)),(3,.pointer (some ⟨b3,0,none⟩)),(12,(gb vo (min L.length 18))),(13,.int .i64 (M.length:Int)),(14,.int .i64 (k:Int))]∧St w [.sl vb 42 68 ((M.take k).map gX).length (aK ((M.take k).map gX)),.blk b3 (.cells (#[vb]) 24),.blk b2 (.cells (#[bo]) 24),.blk b1 (.cells (#[vo]) 24)] ww∧nn=M.length - k∧k≤M.length) (M.length - (0)) ⟨0,bo,h.only ⟨rfl,rfl,rfl,rfl,rfl,rfl,aR rfl (by omega),trivial⟩,s.as ⟨rfl,rfl,rfl,rfl,trivial⟩,rfl,Nat.zero_le _⟩ ?_
 rintro _ f w1 ⟨k,vb,h,s,hnn,hp0⟩
 refine aj fun K5 hK5=>?_
 refine ae ?_
 refine ac h (bD (h.ev rfl) (h.ev rfl)) rfl ?_;intro f h
 refine ah ?_
 refine hK5 _ _ ?_
 refine aj fun K6 hK6=>?_
 refine bA h rfl (fun hc=>?_) (fun hc=>?_)
 ·replace hc:=of_decide_eq_true hc
  refine wpIn_skip ?_
  refine hK6 _ _ ?_
  refine aj fun K7 hK7=>?_
  refine wpIn_block ?_
  refine aj fun K8 hK8=>?_
  refine ae ?_
  have hkl:k<M.length:=by omega
  refine ac h (ce (hT.1.keep s.ext) (k) Tryz.underlying22 eX (h.ev rfl) (h.ev rfl) (by omega) (by omega)) rfl ?_;intro f h
  refine aM ((hT.1.keep s.ext).el (k) (by omega) (by decide) (D:=aD (M.getD k z3).1.me (M.getD k z3).1.pr (M.getD k z3).2.1 (M.getD k z3).2.2) (c6 M k hkl)) h bS rfl (aA _ _ _ _) rfl ?_;intro f h
  refine ba (aD a8 a8 bo bo) h s dH rfl rfl ?_;intro f w1 b5 h s
  refine ay 0 h s bS rfl rfl rfl (aA _ _ _ _) (aA _ _ _ _) (bW (cx ((hT.2 _ (bh hkl)).1.keep s.ext)) (cx ((hT.2 _ (bh hkl)).2.keep s.ext))) ?_;intro w1 s
  refine ah ?_
  refine hK8 _ _ ?_
  refine aj fun K9 hK9=>?_
  have hbs:=s.ext.le
  refine' yN 11 [0,2,7,9,11,12,13,14,16] [8,10] [] [[],[0],[],[2],[2,3],[2,3,4],[0,1,2,3,4,5],[],[7],[],[9],[9,10],[9,10,11],[7,8,9,10,11,12],[0,1,2,3,4,5,6,7,8,9,10],[0,1,2,3,4,5,6,7,8,9,10,14],[0,1,2,3,4,5,6,7,8,9,10,11,12,13,14,15],[0,1,2,3,4,5,6,7,8,9,10,11,12,13,14,15,16]] (is _::is _::is _::is _::is _::is _::is _::is _::(is ((M.getD k z3).2.2))::is _::(is ((M.getD k z3).2.2))::is _::is _::is _::is _::is undef::is _::is undef::[]) (fun _=>True) h s (by kernel_rfl) (by kernel_rfl) (by kernel_rfl) (by kernel_rfl) rfl (fun _ _ h _=>h) (trivial) ⟨⟨_,rfl⟩,⟨_,rfl⟩,⟨_,rfl⟩,⟨_,rfl⟩,⟨_,rfl⟩,⟨_,rfl⟩,⟨_,rfl⟩,⟨_,rfl⟩,⟨_,rfl⟩,trivial⟩ ⟨⟨_,rfl⟩,⟨_,rfl⟩,trivial⟩ ⟨az _,az _,az _,az _,az _,az _,az _,az _,az _,az _,az _,az _,az _,az _,az _,az _,az _,az _,trivial⟩ (And.intro ?_ (And.intro ?_ (And.intro ?_ (And.intro ?_ (And.intro ?_ (And.intro ?_ (And.intro ?_ (And.intro ?_ (And.intro ?_ (And.intro ?_ (And.intro ?_ (And.intro ?_ (And.intro ?_ (And.intro ?_ (And.intro ?_ (And.intro ?_ (And.intro ?_ (And.intro ?_ (trivial))))))))))))))))))) ?_
  rotate_left 14
  ·refine cZ 18 rfl (by decide) ?_
   intro f9 w2 hE hs hl
   have e5:f9.tmps.getD 5 undef=_:=bX hl 5 (by kernel_rfl) (by kernel_rfl) (h.holds 5 _ rfl)
   have h:=aq [(5,_)] hs rfl (holds_lk ⟨e5,trivial⟩)
   refine ac h (al bI (h.ev rfl)) rfl ?_;intro f h
   refine ah ?_
   have e9:=h.holds 18 _ rfl
   refine ⟨?_,rfl⟩
   refine e9.trans ?_
   exact rfl
  ·refine aT 19 rfl (by decide) (by decide) ?_
   intro f9 w2 hE hs hd9 hl
   have e18:f9.tmps.getD 18 undef=_:=aH hl 18 0 (by kernel_rfl) (by kernel_rfl)
   have h:=aq [(18,_)] hs hd9 (holds_lk ⟨e18,trivial⟩)
   have s:=s.more hE
   have z:=St.start w2
   refine ar (V:=(M.getD k z3).2.1) (am (bc.of_own s 0 rfl) 66 (bC _ _ _ _)) h bH rfl rfl ?_;intro f h
   refine ah ?_
   have e9:=h.holds 19 _ rfl
   refine ⟨?_,Ext.refl _,fun h9=>absurd h9 (by decide)⟩
   refine e9.trans ?_
   exact rfl
  ·refine cZ 20 rfl (by decide) ?_
   intro f9 w2 hE hs hl
   have e5:f9.tmps.getD 5 undef=_:=bX hl 5 (by kernel_rfl) (by kernel_rfl) (h.holds 5 _ rfl)
   have h:=aq [(5,_)] hs rfl (holds_lk ⟨e5,trivial⟩)
   refine ac h (al bI (h.ev rfl)) rfl ?_;intro f h
   refine ah ?_
   have e9:=h.holds 20 _ rfl
   refine ⟨?_,rfl⟩
   refine e9.trans ?_
   exact rfl
  ·refine aT 21 rfl (by decide) (by decide) ?_
   intro f9 w2 hE hs hd9 hl
   have e20:f9.tmps.getD 20 undef=_:=aH hl 20 2 (by kernel_rfl) (by kernel_rfl)
   have h:=aq [(20,_)] hs hd9 (holds_lk ⟨e20,trivial⟩)
   have s:=s.more hE
   have z:=St.start w2
   refine ar (V:=(M.getD k z3).2.1) (am (bc.of_own s 0 rfl) 66 (bC _ _ _ _)) h bH rfl rfl ?_;intro f h
   refine ah ?_
   have e9:=h.holds 21 _ rfl
   refine ⟨?_,Ext.refl _,fun h9=>absurd h9 (by decide)⟩
   refine e9.trans ?_
   exact rfl
  ·refine aT 22 rfl (by decide) (by decide) ?_
   intro f9 w2 hE hs hd9 hl
   have e21:f9.tmps.getD 21 undef=_:=aH hl 21 3 (by kernel_rfl) (by kernel_rfl)
   have h:=aq [(21,_)] hs hd9 (holds_lk ⟨e21,trivial⟩)
   have s:=s.more hE
   have z:=St.start w2
   refine ac h (aY ((hT.2 _ (bh hkl)).1.keep s.ext) Tryz.underlying36 (h.ev rfl)) rfl ?_;intro f h
   refine ah ?_
   have e9:=h.holds 22 _ rfl
   refine ⟨?_,Ext.refl _,fun h9=>absurd h9 (by decide)⟩
   refine e9.trans ?_
   exact rfl
  ·refine aT 23 rfl (by decide) (by decide) ?_
   intro f9 w2 hE hs hd9 hl
   have e22:f9.tmps.getD 22 undef=_:=aH hl 22 4 (by kernel_rfl) (by kernel_rfl)
   have h:=aq [(22,_)] hs hd9 (holds_lk ⟨e22,trivial⟩)
   have s:=s.more hE
   have z:=St.start w2
   refine ac h (nx (h.ev rfl) (h.ev rfl)) rfl ?_;intro f h
   refine ah ?_
   have e9:=h.holds 23 _ rfl
   refine ⟨?_,Ext.refl _,fun h9=>absurd h9 (by decide)⟩
   refine e9.trans ?_
   exact rfl
  ·refine aT 24 rfl (by decide) (by decide) ?_
   intro f9 w2 hE hs hd9 hl
   have e19:f9.tmps.getD 19 undef=_:=aH hl 19 1 (by kernel_rfl) (by kernel_rfl)
   have e23:f9.tmps.getD 23 undef=_:=aH hl 23 5 (by kernel_rfl) (by kernel_rfl)
   have h:=aq [(19,_),(23,_)] hs hd9 (holds_lk ⟨e19,e23,trivial⟩)
   have s:=s.more hE
   have z:=St.start w2
   refine ac h (dl ((hT.2 _ (bh hkl)).1.keep s.ext) (min (M.getD k z3).1.sc.length 6) Tryz.underlying36 cG (h.ev rfl) (h.ev rfl) (by split<;>omega) (by omega)) rfl ?_;intro f h
   refine ah ?_
   have e9:=h.holds 24 _ rfl
   refine ⟨?_,Ext.refl _,fun h9=>absurd h9 (by decide)⟩
   refine e9.trans ?_
   exact rfl
  ·refine cZ 25 rfl (by decide) ?_
   intro f9 w2 hE hs hl
   have e5:f9.tmps.getD 5 undef=_:=bX hl 5 (by kernel_rfl) (by kernel_rfl) (h.holds 5 _ rfl)
   have h:=aq [(5,_)] hs rfl (holds_lk ⟨e5,trivial⟩)
   refine ac h (al cC (h.ev rfl)) rfl ?_;intro f h
   refine ah ?_
   have e9:=h.holds 25 _ rfl
   refine ⟨?_,rfl⟩
   refine e9.trans ?_
   exact rfl
  ·refine aT 26 rfl (by decide) (by decide) ?_
   intro f9 w2 hE hs hd9 hl
   have e25:f9.tmps.getD 25 undef=_:=aH hl 25 7 (by kernel_rfl) (by kernel_rfl)
   have h:=aq [(25,_)] hs hd9 (holds_lk ⟨e25,trivial⟩)
   have s:=s.more hE
   have z:=St.start w2
   refine ar (V:=(M.getD k z3).2.2) (am (bc.of_own s 0 rfl) 67 (cB _ _ _ _)) h bH rfl rfl ?_;intro f h
   refine ah ?_
   have e9:=h.holds 26 _ rfl
   refine ⟨?_,Ext.refl _,fun h9=>absurd h9 (by decide)⟩
   refine e9.trans ?_
   exact rfl
  ·refine cZ 27 rfl (by decide) ?_
   intro f9 w2 hE hs hl
   have e5:f9.tmps.getD 5 undef=_:=bX hl 5 (by kernel_rfl) (by kernel_rfl) (h.holds 5 _ rfl)
   have h:=aq [(5,_)] hs rfl (holds_lk ⟨e5,trivial⟩)
   refine ac h (al cC (h.ev rfl)) rfl ?_;intro f h
   refine ah ?_
   have e9:=h.holds 27 _ rfl
   refine ⟨?_,rfl⟩
   refine e9.trans ?_
   exact rfl
  ·refine aT 28 rfl (by decide) (by decide) ?_
   intro f9 w2 hE hs hd9 hl
   have e27:f9.tmps.getD 27 undef=_:=aH hl 27 9 (by kernel_rfl) (by kernel_rfl)
   have h:=aq [(27,_)] hs hd9 (holds_lk ⟨e27,trivial⟩)
   have s:=s.more hE
   have z:=St.start w2
   refine ar (V:=(M.getD k z3).2.2) (am (bc.of_own s 0 rfl) 67 (cB _ _ _ _)) h bH rfl rfl ?_;intro f h
   refine ah ?_
   have e9:=h.holds 28 _ rfl
   refine ⟨?_,Ext.refl _,fun h9=>absurd h9 (by decide)⟩
   refine e9.trans ?_
   exact rfl
  ·refine cZ 29 rfl (by decide) ?_
   intro f9 w2 hE hs hl
   have e28:f9.tmps.getD 28 undef=_:=aH hl 28 10 (by kernel_rfl) (by kernel_rfl)
   have h:=aq [(28,_)] hs rfl (holds_lk ⟨e28,trivial⟩)
   refine ac h (aY ((hT.2 _ (bh hkl)).2.keep s.ext) Tryz.underlying36 (h.ev rfl)) rfl ?_;intro f h
   refine ah ?_
   have e9:=h.holds 29 _ rfl
   refine ⟨?_,rfl⟩
   refine e9.trans ?_
   exact rfl
  ·refine cZ 30 rfl (by decide) ?_
   intro f9 w2 hE hs hl
   have e29:f9.tmps.getD 29 undef=_:=aH hl 29 11 (by kernel_rfl) (by kernel_rfl)
   have h:=aq [(29,_)] hs rfl (holds_lk ⟨e29,trivial⟩)
   refine ac h (nx (h.ev rfl) (h.ev rfl)) rfl ?_;intro f h
   refine ah ?_
   have e9:=h.holds 30 _ rfl
   refine ⟨?_,rfl⟩
   refine e9.trans ?_
   exact rfl
  ·refine cZ 31 rfl (by decide) ?_
   intro f9 w2 hE hs hl
   have e26:f9.tmps.getD 26 undef=_:=aH hl 26 8 (by kernel_rfl) (by kernel_rfl)
   have e30:f9.tmps.getD 30 undef=_:=aH hl 30 12 (by kernel_rfl) (by kernel_rfl)
   have h:=aq [(26,_),(30,_)] hs rfl (holds_lk ⟨e26,e30,trivial⟩)
   refine ac h (dl ((hT.2 _ (bh hkl)).2.keep s.ext) (min (M.getD k z3).1.fg.length 18) Tryz.underlying36 cG (h.ev rfl) (h.ev rfl) (by split<;>omega) (by omega)) rfl ?_;intro f h
   refine ah ?_
   have e9:=h.holds 31 _ rfl
   refine ⟨?_,rfl⟩
   refine e9.trans ?_
   exact rfl
  ·refine cZ 32 rfl (by decide) ?_
   intro f9 w2 hE hs hl
   have e5:f9.tmps.getD 5 undef=_:=bX hl 5 (by kernel_rfl) (by kernel_rfl) (h.holds 5 _ rfl)
   have h:=aq [(5,_)] hs rfl (holds_lk ⟨e5,trivial⟩)
   refine ac h (al bI (h.ev rfl)) rfl ?_;intro f h
   refine ah ?_
   have e9:=h.holds 32 _ rfl
   refine ⟨?_,rfl⟩
   refine e9.trans ?_
   exact rfl
  ·exact cr (by decide) (by decide)
  ·refine cZ 33 rfl (by decide) ?_
   intro f9 w2 hE hs hl
   have e5:f9.tmps.getD 5 undef=_:=bX hl 5 (by kernel_rfl) (by kernel_rfl) (h.holds 5 _ rfl)
   have h:=aq [(5,_)] hs rfl (holds_lk ⟨e5,trivial⟩)
   refine ac h (al cC (h.ev rfl)) rfl ?_;intro f h
   refine ah ?_
   have e9:=h.holds 33 _ rfl
   refine ⟨?_,rfl⟩
   refine e9.trans ?_
   exact rfl
  ·exact cr (by decide) (by decide)
  ·intro f9 w2 hE hs hd9 hWp hT hR hFr hDj
   replace h:=sl_new (ops:=_) [(18,_),(19,_),(20,_),(21,_),(22,_),(23,_),(24,_),(25,_),(26,_),(27,_),(28,_),(29,_),(30,_),(31,_),(32,_),(33,_)] h hs hd9 hR ⟨hT 0 18 (by decide) rfl,hT 1 19 (by decide) rfl,hT 2 20 (by decide) rfl,hT 3 21 (by decide) rfl,hT 4 22 (by decide) rfl,hT 5 23 (by decide) rfl,hT 6 24 (by decide) rfl,hT 7 25 (by decide) rfl,hT 8 26 (by decide) rfl,hT 9 27 (by decide) rfl,hT 10 28 (by decide) rfl,hT 11 29 (by decide) rfl,hT 12 30 (by decide) rfl,hT 13 31 (by decide) rfl,hT 14 32 (by decide) rfl,hT 16 33 (by decide) rfl,trivial⟩ (by kernel_rfl)
   replace s:=s.more hE
   clear hT hR hFr hDj
   refine jn.cons ?_
   refine bp 0 h s bH rfl rfl rfl (by rw [aA];omega) (cx (((hT.2 _ (bh hkl)).1.cut _ (Nat.min_le_left _ _)).keep s.ext)) ?_;intro w1 s
   replace s:=s.recell (D:=aD (M.getD k z3).1.me (M.getD k z3).1.pr (gb (M.getD k z3).2.1 (min (M.getD k z3).1.sc.length 6)) (M.getD k z3).2.2) 0 rfl (jG _ _ _ _ _)
   refine ah ⟨trivial,wU.no (by kernel_rfl),?_⟩
   refine jn.cons ?_
   refine bp 0 h s bH rfl rfl rfl (by rw [aA];omega) (cx (((hT.2 _ (bh hkl)).2.cut _ (Nat.min_le_left _ _)).keep s.ext)) ?_;intro w1 s
   replace s:=s.recell (D:=aD (M.getD k z3).1.me (M.getD k z3).1.pr (gb (M.getD k z3).2.1 (min (M.getD k z3).1.sc.length 6)) (gb (M.getD k z3).2.2 (min (M.getD k z3).1.fg.length 18))) 0 rfl (jA _ _ _ _ _)
   refine ah ⟨trivial,wU.no (by kernel_rfl),?_⟩
   refine jn.nil ?_
   refine hK9 _ _ ?_
   refine ae ?_
   refine ac h (al cb (h.ev rfl)) rfl ?_;intro f h
   refine ar (V:=vb) (am (bc.of_own s 2 rfl) 0 rfl) h cH rfl rfl ?_;intro f h
   refine ao 0 h s bS rfl rfl (aA _ _ _ _) rfl ?_;intro f h
   refine cF (vs:=[.agg (aD (gX (M.getD k z3)).1.me (gX (M.getD k z3)).1.pr (gX (M.getD k z3)).2.1 (gX (M.getD k z3)).2.2)]) [.tmp 36] h s Tryz.underlying22 er rfl rfl (fc (gX (M.getD k z3))) rfl rfl rfl ?_;intro f w1 v37 h s
   refine dt 2 0 h s Tryz.underlying22 er rfl rfl rfl rfl (by decide) (gA (nY (hT.2 _ (bh hkl))).ones.1 (nY (hT.2 _ (bh hkl))).ones.2) (by rw [List.length_map,List.length_take];unfold maxLen;omega) (by rw [List.length_map,List.length_take];omega) rfl ?_;intro f w1 v38 h s
   replace s:=s.pick _ (List.sublist_cons_self _ _)
   replace s:=s.resl (m:=((M.take (k+1)).map gX).length) (ys:=aK ((M.take (k+1)).map gX)) 1 rfl (by rw [nc hkl,List.length_append];rfl) (by rw [nc hkl,fW,fh])
   refine ac h (al cb (h.ev rfl)) rfl ?_;intro f h
   refine bp 2 h s cH rfl rfl rfl (by show 0<1;decide) (bP (s.getSl 1 rfl)) ?_;intro w1 s
   replace s:=s.recell (D:=#[v38]) 2 rfl rfl
   refine ah ?_
   refine bF ?_
   refine hK7 _ _ ?_
   refine ae ?_
   refine ac h (cg (h.ev rfl) (h.ev rfl) (by omega)) rfl ?_;intro f h
   refine ac h (ag (h.ev rfl)) rfl ?_;intro f h
   refine ah ?_
   refine bQ ?_
   exact ⟨_,by omega,⟨k+1,v38,h.only ⟨rfl,rfl,rfl,rfl,rfl,rfl,aR rfl (by omega),trivial⟩,St.as (s.pick _ (List.sublist_append_right [_] _)) ⟨rfl,rfl,rfl,rfl,trivial⟩,rfl,by omega⟩⟩
 ·replace hc:=of_decide_eq_false hc
  refine wpIn_exit ?_
  refine bw ?_
  refine bw ?_
  refine cq ?_
  refine hK3 _ _ ?_
  refine aj fun K10 hK10=>?_
  refine ae ?_
  refine ao 1 h s aU rfl rfl (rfl) rfl ?_;intro f h
  refine ay 2 h s aU rfl rfl rfl (rfl) (rfl) (cj (bP (s.getSl 0 rfl))) ?_;intro w1 s
  refine ah ?_
  refine hK10 _ _ ?_
  refine wpIn_ret ?_
  exact d7 2 rfl h s aU rfl rfl (rfl) (nQ (by obtain rfl:k=M.length:=(by omega);rw [List.take_length,hM]) (s.getSl 0 rfl))
theorem cR (L K:List N3) (vo vp:Value) (e q:Int) (w:World) (hO:cf w vo L) (hL:L.length≤40) (hP:cf w vp K) (hK:K.length≤40) (hbL:RwB L) (hbK:RwB K):Calls Tryz.prog 18 [.agg #[vo],.agg #[vp],.int .i64 e,.int .i64 q].toArray w (cT w (is (.bool (rX L K e q)))):=by
 refine bj Tryz.func18 rfl Tryz.ntmps18 rfl [(0,.agg #[vo]),(1,.agg #[vp]),(2,.int .i64 e),(3,.int .i64 q)] (by simp) fun f h=>?_
 have s:=St.start w
 refine aj fun K1 hK1=>?_
 refine ae ?_
 refine bT (#[vo]) h s rfl rfl rfl ?_;intro f w1 b4 h s
 refine bT (#[vp]) h s rfl rfl rfl ?_;intro f w1 b5 h s
 refine ac h (ai (h.ev rfl)) rfl ?_;intro f h
 refine ah ?_
 refine hK1 _ _ ?_
 refine aj fun K2 hK2=>?_
 refine aj fun K3 hK3=>?_
 refine ae ?_
 refine ac h (ag (h.ev rfl)) rfl ?_;intro f h
 refine ac h (cO (h.ev rfl) (h.ev rfl)) rfl ?_;intro f h
 refine ah ?_
 refine hK3 _ _ ?_
 refine bA h rfl (fun hc=>?_) (fun hc=>?_)
 ·have h0:¬ q=0:=by simpa using hc
  refine ae ?_
  refine ac h (bM eE) rfl ?_;intro f h
  refine ay 0 h s aU rfl rfl rfl (rfl) (rfl) (cj (rfl)) ?_;intro w1 s
  refine ah ?_
  refine hK2 _ _ ?_
  refine aj fun K4 hK4=>?_
  cases e0:(decide (e=q):Bool)
  ·skip
   refine ae ?_
   refine ac h (ag (h.ev rfl)) rfl ?_;intro f h
   refine ac h (ag (h.ev rfl)) rfl ?_;intro f h
   refine ac h (aw (.bool false) (cc (h.ev rfl) (h.ev rfl)) (congrArg Value.bool e0)) rfl ?_;intro f h
   refine ac h (ag (h.ev rfl)) rfl ?_;intro f h
   refine aC (b:=true) h rfl rfl rfl rfl ?_;intro f h
   refine aC (b:=true) h rfl rfl rfl rfl ?_;intro f h
   refine aC (b:=true) h rfl rfl rfl rfl ?_;intro f h
   refine ac h (aE (h.ev rfl) (h.ev rfl)) rfl ?_;intro f h
   refine ac h (ai (h.ev rfl)) rfl ?_;intro f h
   refine ah ?_
   refine hK4 _ _ ?_
   refine wpIn_ret ?_
   exact aX rfl h s rfl (by show _=_;rw [ym e0])
  ·skip
   refine ae ?_
   refine ac h (ag (h.ev rfl)) rfl ?_;intro f h
   refine ac h (ag (h.ev rfl)) rfl ?_;intro f h
   refine ac h (aw (.bool true) (cc (h.ev rfl) (h.ev rfl)) (congrArg Value.bool e0)) rfl ?_;intro f h
   refine ac h (ag (h.ev rfl)) rfl ?_;intro f h
   refine aB h rfl rfl rfl ?_
   refine ao 1 h s aU rfl rfl (rfl) rfl ?_;intro f h
   refine aB h rfl rfl rfl ?_
   refine ao 0 h s aU rfl rfl (rfl) rfl ?_;intro f h
   refine aB h rfl rfl rfl ?_
   refine aF h s yx (mM L [] vo bo _ (hO.keep s.ext) hL (c1 _) (by decide) hbL eg) rfl rfl ?_;intro f w1 v9 hT hE h s;obtain rfl:=hT
   refine ac h (aJ (h.ev rfl) (h.ev rfl)) rfl ?_;intro f h
   refine ac h (ai (h.ev rfl)) rfl ?_;intro f h
   refine ah ?_
   refine hK4 _ _ ?_
   refine wpIn_ret ?_
   exact aX rfl h s rfl (by show _=_;rw [BC e0 h0])
 ·have h0:q=0:=by simpa using hc
  refine wpIn_skip ?_
  refine hK2 _ _ ?_
  refine aj fun K5 hK5=>?_
  cases e0:(decide (e=q):Bool)
  ·skip
   refine ae ?_
   refine ac h (ag (h.ev rfl)) rfl ?_;intro f h
   refine ac h (ag (h.ev rfl)) rfl ?_;intro f h
   refine ac h (aw (.bool false) (cc (h.ev rfl) (h.ev rfl)) (congrArg Value.bool e0)) rfl ?_;intro f h
   refine ac h (ag (h.ev rfl)) rfl ?_;intro f h
   refine aC (b:=true) h rfl rfl rfl rfl ?_;intro f h
   refine aC (b:=true) h rfl rfl rfl rfl ?_;intro f h
   refine aC (b:=true) h rfl rfl rfl rfl ?_;intro f h
   refine ac h (aE (h.ev rfl) (h.ev rfl)) rfl ?_;intro f h
   refine ac h (ai (h.ev rfl)) rfl ?_;intro f h
   refine ah ?_
   refine hK5 _ _ ?_
   refine wpIn_ret ?_
   exact aX rfl h s rfl (by show _=_;rw [ym e0])
  ·skip
   refine ae ?_
   refine ac h (ag (h.ev rfl)) rfl ?_;intro f h
   refine ac h (ag (h.ev rfl)) rfl ?_;intro f h
   refine ac h (aw (.bool true) (cc (h.ev rfl) (h.ev rfl)) (congrArg Value.bool e0)) rfl ?_;intro f h
   refine ac h (ag (h.ev rfl)) rfl ?_;intro f h
   refine aB h rfl rfl rfl ?_
   refine ao 1 h s aU rfl rfl (rfl) rfl ?_;intro f h
   refine aB h rfl rfl rfl ?_
   refine ao 0 h s aU rfl rfl (rfl) rfl ?_;intro f h
   refine aB h rfl rfl rfl ?_
   refine aF h s yx (mM L K vo vp _ (hO.keep s.ext) hL (hP.keep s.ext) hK hbL hbK) rfl rfl ?_;intro f w1 v9 hT hE h s;obtain rfl:=hT
   refine ac h (aJ (h.ev rfl) (h.ev rfl)) rfl ?_;intro f h
   refine ac h (ai (h.ev rfl)) rfl ?_;intro f h
   refine ah ?_
   refine hK5 _ _ ?_
   refine wpIn_ret ?_
   exact aX rfl h s rfl (by show _=_;rw [BG e0 h0])
end Go.Proofs.YthggibfkgofncaaGreat
