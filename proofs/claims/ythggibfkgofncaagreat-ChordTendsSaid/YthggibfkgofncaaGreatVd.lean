/- What is alike; few; what is wanted. -/
import Derived.Test.YthggibfkgofncaaGreatCon
set_option linter.unusedVariables false
set_option linter.unusedSimpArgs false
set_option linter.unusedSectionVars false
namespace Go.Proofs.YthggibfkgofncaaGreat
open Go.RowKit
theorem mB (l r:List Mb) (vh vu:Value) (w:World) (hR:bq w vh 33 l.length (ap l)) (hS:bq w vu 33 r.length (ap r)) (hln:l.length≤1000) (hln2:r.length≤1000):Calls Tryz.prog 14 [vh,vu].toArray w (cU w (is (.bool (decide (l=r))))):=by
 refine bp Tryz.func14 rfl Tryz.ntmps14 rfl [(0,vh),(1,vu)] (by simp) fun f h=>?_
 have s:=St.start w
 refine al fun K1 hK1=>?_
 refine ae ?_
 refine ac h (aj (h.ev rfl)) rfl ?_;intro f h
 refine ah ?_
 refine hK1 _ _ ?_
 refine al fun K2 hK2=>?_
 refine al fun K3 hK3=>?_
 refine ae ?_
 refine ac h (ag (h.ev rfl)) rfl ?_;intro f h
 refine ac h (bc (hR.keep s.ext) Tryz.underlying36 (h.ev rfl)) rfl ?_;intro f h
 refine ac h (ag (h.ev rfl)) rfl ?_;intro f h
 refine ac h (bc (hS.keep s.ext) Tryz.underlying36 (h.ev rfl)) rfl ?_;intro f h
 refine ac h (c3 (h.ev rfl) (h.ev rfl)) rfl ?_;intro f h
 refine ah ?_
 refine hK3 _ _ ?_
 refine bM h rfl (fun hc=>?_) (fun hc=>?_)
 ·replace hc:=hc
  refine al fun K4 hK4=>?_
  refine ae ?_
  refine ac h (aj (h.ev rfl)) rfl ?_;intro f h
  refine ah ?_
  refine hK4 _ _ ?_
  refine wpIn_ret ?_
  refine aW ?_
  exact bf rfl h s rfl ((by show _=_;rw [decide_eq_false (fun e=>by subst e;simp at hc)]))
 ·have hl9:l.length=r.length:=by have:=hc;simp at this;omega
  refine wpIn_skip ?_
  refine hK2 _ _ ?_
  refine al fun K5 hK5=>?_
  refine al fun K6 hK6=>?_
  refine ae ?_
  refine ac h (ag (h.ev rfl)) rfl ?_;intro f h
  refine ac h (bc (hR.keep s.ext) Tryz.underlying36 (h.ev rfl)) rfl ?_;intro f h
  refine ac h (ag (h.ev rfl)) rfl ?_;intro f h
  refine ah ?_
  refine hK6 _ _ ?_
  refine wpIn_block ?_
  refine wpIn_loop_ghost (fun nn aa ww=>∃ k:Nat,Sl 26 aa [(0,vh),(1,vu),(11,vh),(12,.int .i64 (l.length:Int)),(13,.int .i64 (k:Int))]∧St w [] ww∧nn=l.length - k∧k≤l.length∧∀ j,j<k→l.getD j aT=r.getD j aT) (l.length - (0)) ⟨0,h.only ⟨rfl,rfl,rfl,rfl,aQ rfl (by omega),trivial⟩,s.as trivial,rfl,Nat.zero_le _,fun j hj=>absurd hj (Nat.not_lt_zero _)⟩ ?_
  rintro _ f w1 ⟨k,h,s,hnn,hp0,hp1⟩
  refine al fun K7 hK7=>?_
  refine ae ?_
  refine ac h (bN (h.ev rfl) (h.ev rfl)) rfl ?_;intro f h
  refine ah ?_
  refine hK7 _ _ ?_
  refine al fun K8 hK8=>?_
  refine bM h rfl (fun hc=>?_) (fun hc=>?_)
  ·replace hc:=of_decide_eq_true hc
   refine wpIn_skip ?_
   refine hK8 _ _ ?_
   refine al fun K9 hK9=>?_
   refine wpIn_block ?_
   refine al fun K10 hK10=>?_
   refine ae ?_
   refine ac h (ag (h.ev rfl)) rfl ?_;intro f h
   refine ac h (aj (h.ev rfl)) rfl ?_;intro f h
   refine ah ?_
   refine hK10 _ _ ?_
   refine al fun K11 hK11=>?_
   refine bI 9 [[],[],[0,1],[0,1,2],[],[],[4,5],[4,5,6],[0,1,2,3,4,5,6,7]] h (by kernel_rfl) (by kernel_rfl) (by kernel_rfl) ?_
   have hka:k<l.length:=by omega
   have hkb:k<r.length:=by omega
   refine ao h (ag (h.ev rfl)) rfl ?_;intro f h
   refine ao h (ag (h.ev rfl)) rfl ?_;intro f h
   refine ao h (bZ (hR.keep s.ext) (k) Tryz.underlying36 cz (h.ev rfl) (h.ev rfl) (by omega) (by omega)) rfl ?_;intro f h
   refine bk ((hR.keep s.ext).el (k) (by omega) (by decide) (D:=aw (l.getD k aT)) (cL l k hka)) h aL rfl (ak _) rfl ?_;intro f h
   refine ao h (ag (h.ev rfl)) rfl ?_;intro f h
   refine ao h (ag (h.ev rfl)) rfl ?_;intro f h
   refine ao h (bZ (hS.keep s.ext) (k) Tryz.underlying36 cz (h.ev rfl) (h.ev rfl) (by omega) (by omega)) rfl ?_;intro f h
   refine bk ((hS.keep s.ext).el (k) (by omega) (by decide) (D:=aw (r.getD k aT)) (cL r k hkb)) h aL rfl (ak _) rfl ?_;intro f h
   refine ao h (eE (g4 _ _) (by kernel_rfl) (by decide) (h.ev rfl) (h.ev rfl) (decide ((l.getD k aT)=r.getD k aT)) (ee _ _)) rfl ?_;intro f h
   refine cq s fun w1 s=>?_
   refine ah ?_
   refine hK11 _ _ ?_
   refine bM h rfl (fun hc=>?_) (fun hc=>?_)
   ·refine al fun K12 hK12=>?_
    refine ae ?_
    refine ac h (aj (h.ev rfl)) rfl ?_;intro f h
    refine ah ?_
    refine hK12 _ _ ?_
    refine wpIn_ret ?_
    refine bU ?_
    refine aW ?_
    refine aW ?_
    refine bU ?_
    refine aW ?_
    exact bf rfl h s rfl ((by show _=_;rw [decide_eq_false (fun e=>by subst e;simp at hc)]))
   ·refine wpIn_skip ?_
    refine bF ?_
    refine hK9 _ _ ?_
    refine ae ?_
    refine ac h (cf (h.ev rfl) (h.ev rfl) (by omega)) rfl ?_;intro f h
    refine ac h (ag (h.ev rfl)) rfl ?_;intro f h
    refine ah ?_
    refine bQ ?_
    exact ⟨_,by omega,⟨k+1,h.only ⟨rfl,rfl,rfl,rfl,aQ rfl (by omega),trivial⟩,St.as s trivial,rfl,by omega,qY hp1 (by simpa using hc)⟩⟩
  ·replace hc:=of_decide_eq_false hc
   refine wpIn_exit ?_
   refine bJ ?_
   refine bJ ?_
   refine cC ?_
   refine hK5 _ _ ?_
   refine al fun K13 hK13=>?_
   refine ae ?_
   refine ac h (aj (h.ev rfl)) rfl ?_;intro f h
   refine ah ?_
   refine hK13 _ _ ?_
   refine wpIn_ret ?_
   exact bf rfl h s rfl ((by show _=_;rw [decide_eq_true (sw hl9 (fun j hj=>hp1 j (by omega)))]))
theorem ex (m:Mb) (w:World):Calls Tryz.prog 75 [.agg (aw m)].toArray w (cU w (is (.bool (dT m)))):=by
 refine bp Tryz.func75 rfl Tryz.ntmps75 rfl [(0,.agg (aw m))] (by simp) fun f h=>?_
 have s:=St.start w
 refine al fun K1 hK1=>?_
 refine ae ?_
 refine bV ((aw m)) h s rfl rfl rfl ?_;intro f w1 b1 h s
 refine ac h (aj (h.ev rfl)) rfl ?_;intro f h
 refine ah ?_
 refine hK1 _ _ ?_
 refine al fun K2 hK2=>?_
 cases h0:(decide (0≤m.1):Bool)
 ·skip
  refine ae ?_
  refine ac h (ai aJ (h.ev rfl)) rfl ?_;intro f h
  refine au (am (aU.of_own s 0 rfl) 0 (aP _)) h bz rfl rfl ?_;intro f h
  refine ac h (av (.bool false) (dg (h.ev rfl) (h.ev rfl)) (congrArg Value.bool h0)) rfl ?_;intro f h
  refine ac h (ag (h.ev rfl)) rfl ?_;intro f h
  refine aA (b:=true) h rfl rfl rfl rfl ?_;intro f h
  refine aA (b:=true) h rfl rfl rfl rfl ?_;intro f h
  refine aA (b:=true) h rfl rfl rfl rfl ?_;intro f h
  refine ac h (aG (h.ev rfl) (h.ev rfl)) rfl ?_;intro f h
  refine ac h (aj (h.ev rfl)) rfl ?_;intro f h
  refine ah ?_
  refine hK2 _ _ ?_
  refine wpIn_ret ?_
  exact bf rfl h s rfl (by show _=_;rw [AL h0]<;>rfl)
 ·skip
  refine ae ?_
  refine ac h (ai aJ (h.ev rfl)) rfl ?_;intro f h
  refine au (am (aU.of_own s 0 rfl) 0 (aP _)) h bz rfl rfl ?_;intro f h
  refine ac h (av (.bool true) (dg (h.ev rfl) (h.ev rfl)) (congrArg Value.bool h0)) rfl ?_;intro f h
  refine ac h (ag (h.ev rfl)) rfl ?_;intro f h
  refine az h rfl rfl rfl ?_
  refine ac h (ai aJ (h.ev rfl)) rfl ?_;intro f h
  refine az h rfl rfl rfl ?_
  refine au (am (aU.of_own s 0 rfl) 0 (aP _)) h bz rfl rfl ?_;intro f h
  refine az h rfl rfl rfl ?_
  refine ac h (av (.bool (decide (m.1<16))) (fU (h.ev rfl) (h.ev rfl)) (congrArg Value.bool (decide_eq_decide.2 (by omega)))) rfl ?_;intro f h
  refine ac h (aI (h.ev rfl) (h.ev rfl)) rfl ?_;intro f h
  refine ac h (aj (h.ev rfl)) rfl ?_;intro f h
  refine ah ?_
  refine hK2 _ _ ?_
  refine wpIn_ret ?_
  exact bf rfl h s rfl (by show _=_;rw [Aa h0]<;>rfl)
theorem cY (m:Mb) (w:World):Calls Tryz.prog 52 [.agg (aw m)].toArray w (cU w (is (.bool (decide (m=de))))):=by
 refine bp Tryz.func52 rfl Tryz.ntmps52 rfl [(0,.agg (aw m))] (by simp) fun f h=>?_
 have s:=St.start w
 refine al fun K1 hK1=>?_
 refine ae ?_
 refine bV ((aw m)) h s rfl rfl rfl ?_;intro f w1 b1 h s
 refine ac h (aj (h.ev rfl)) rfl ?_;intro f h
 refine ah ?_
 refine hK1 _ _ ?_
 refine al fun K2 hK2=>?_
 cases h0:(decide (m.1 = -1):Bool)
 ·skip
  refine ae ?_
  refine ac h (ai aJ (h.ev rfl)) rfl ?_;intro f h
  refine au (am (aU.of_own s 0 rfl) 0 (aP _)) h bz rfl rfl ?_;intro f h
  refine ac h (av (.bool false) (bX (h.ev rfl) (h.ev rfl)) (congrArg Value.bool h0)) rfl ?_;intro f h
  refine ac h (ag (h.ev rfl)) rfl ?_;intro f h
  refine aA (b:=true) h rfl rfl rfl rfl ?_;intro f h
  refine aA (b:=true) h rfl rfl rfl rfl ?_;intro f h
  refine aA (b:=true) h rfl rfl rfl rfl ?_;intro f h
  refine aA (b:=true) h rfl rfl rfl rfl ?_;intro f h
  refine ac h (aG (h.ev rfl) (h.ev rfl)) rfl ?_;intro f h
  refine ac h (aj (h.ev rfl)) rfl ?_;intro f h
  refine ah ?_
  refine hK2 _ _ ?_
  refine wpIn_ret ?_
  exact bf rfl h s rfl (by show _=_;rw [BF h0])
 ·skip
  refine ae ?_
  refine ac h (ai aJ (h.ev rfl)) rfl ?_;intro f h
  refine au (am (aU.of_own s 0 rfl) 0 (aP _)) h bz rfl rfl ?_;intro f h
  refine ac h (av (.bool true) (bX (h.ev rfl) (h.ev rfl)) (congrArg Value.bool h0)) rfl ?_;intro f h
  refine ac h (ag (h.ev rfl)) rfl ?_;intro f h
  refine az h rfl rfl rfl ?_
  refine ac h (ai bW (h.ev rfl)) rfl ?_;intro f h
  refine az h rfl rfl rfl ?_
  refine aB (aU.subL (aU.of_own s 0 rfl) 1 32 (D:=bA (_)) (cj _)) h bP rfl (by first|exact aK _|exact aF _ _) rfl ?_;intro f h
  refine az h rfl rfl rfl ?_
  refine ac h (uu fC) rfl ?_;intro f h
  refine az h rfl rfl rfl ?_
  refine ac h (dp fC (h.ev rfl) (h.ev rfl)) rfl ?_;intro f h
  refine ac h (aI (h.ev rfl) (h.ev rfl)) rfl ?_;intro f h
  refine ac h (aj (h.ev rfl)) rfl ?_;intro f h
  refine ah ?_
  refine hK2 _ _ ?_
  refine wpIn_ret ?_
  exact bf rfl h s rfl (by show _=_;rw [Bo h0]<;>rfl)
theorem en (l:List Mb) (vh:Value) (no:Int) (w:World) (hR:bq w vh 33 l.length (ap l)) (hln:l.length≤1000):Calls Tryz.prog 76 [vh,.int .i64 no].toArray w (cU w (is (.bool (iA l no)))):=by
 refine bp Tryz.func76 rfl Tryz.ntmps76 rfl [(0,vh),(1,.int .i64 no)] (by simp) fun f h=>?_
 have s:=St.start w
 refine al fun K1 hK1=>?_
 refine ae ?_
 refine ac h (aj (h.ev rfl)) rfl ?_;intro f h
 refine ah ?_
 refine hK1 _ _ ?_
 refine al fun K2 hK2=>?_
 refine al fun K3 hK3=>?_
 refine ae ?_
 refine ac h (ag (h.ev rfl)) rfl ?_;intro f h
 refine ac h (bc (hR.keep s.ext) Tryz.underlying36 (h.ev rfl)) rfl ?_;intro f h
 refine ac h (ag (h.ev rfl)) rfl ?_;intro f h
 refine ah ?_
 refine hK3 _ _ ?_
 refine wpIn_block ?_
 refine wpIn_loop_ghost (fun nn aa ww=>∃ k:Nat,Sl 40 aa [(0,vh),(1,.int .i64 no),(9,vh),(10,.int .i64 (l.length:Int)),(11,.int .i64 (k:Int))]∧St w [] ww∧nn=l.length - k∧k≤l.length∧∀ j,j<k→i0 l no j=false) (l.length - (0)) ⟨0,h.only ⟨rfl,rfl,rfl,rfl,aQ rfl (by omega),trivial⟩,s.as trivial,rfl,Nat.zero_le _,fun j hj=>absurd hj (Nat.not_lt_zero _)⟩ ?_
 rintro _ f w1 ⟨k,h,s,hnn,hp0,hp1⟩
 refine al fun K4 hK4=>?_
 refine ae ?_
 refine ac h (bN (h.ev rfl) (h.ev rfl)) rfl ?_;intro f h
 refine ah ?_
 refine hK4 _ _ ?_
 refine al fun K5 hK5=>?_
 refine bM h rfl (fun hc=>?_) (fun hc=>?_)
 ·replace hc:=of_decide_eq_true hc
  refine wpIn_skip ?_
  refine hK5 _ _ ?_
  refine al fun K6 hK6=>?_
  refine wpIn_block ?_
  refine al fun K7 hK7=>?_
  refine ae ?_
  refine ac h (ag (h.ev rfl)) rfl ?_;intro f h
  have hkl:k<l.length:=by omega
  refine ac h (bZ (hR.keep s.ext) (k) Tryz.underlying36 cz (h.ev rfl) (h.ev rfl) (by omega) (by omega)) rfl ?_;intro f h
  refine aB ((hR.keep s.ext).el (k) (by omega) (by decide) (D:=aw (l.getD k aT)) (cL l k hkl)) h aL rfl (ak _) rfl ?_;intro f h
  refine bj (aw aT) h s cB rfl rfl ?_;intro f w1 b6 h s
  refine ac h (aj (h.ev rfl)) rfl ?_;intro f h
  refine ax 0 h s aL rfl rfl rfl (ak _) (ak _) (aS _) ?_;intro w1 s
  refine ah ?_
  refine hK7 _ _ ?_
  refine al fun K8 hK8=>?_
  refine al fun K9 hK9=>?_
  cases k0:(dT (l.getD k aT):Bool)
  ·skip
   refine ae ?_
   refine ar 0 h s aL rfl rfl (ak _) rfl ?_;intro f h
   refine aH h s iE (aO (.bool false) (ex (l.getD k aT) _) (congrArg Value.bool k0)) rfl rfl ?_;intro f w1 v9 hT hE h s;obtain rfl:=hT
   refine ac h (av (.bool true) (bh (h.ev rfl)) rfl) rfl ?_;intro f h
   refine ac h (ag (h.ev rfl)) rfl ?_;intro f h
   refine aA (b:=false) h rfl rfl rfl rfl ?_;intro f h
   refine aA (b:=false) h rfl rfl rfl rfl ?_;intro f h
   refine aA (b:=false) h rfl rfl rfl rfl ?_;intro f h
   refine aA (b:=false) h rfl rfl rfl rfl ?_;intro f h
   refine ac h (aI (h.ev rfl) (h.ev rfl)) rfl ?_;intro f h
   refine ah ?_
   refine hK9 _ _ ?_
   refine wpIn_cond_true (h.ev rfl) ?_
   refine al fun K10 hK10=>?_
   refine ae ?_
   refine ac h (aj (h.ev rfl)) rfl ?_;intro f h
   refine ah ?_
   refine hK10 _ _ ?_
   refine wpIn_ret ?_
   refine aW ?_
   refine bU ?_
   refine aW ?_
   refine aW ?_
   refine bU ?_
   refine aW ?_
   exact bf rfl h s rfl (by show _=_;rw [gn hkl (xS k0)])
  ·skip
   cases k1:(decide ((l.getD k aT).1=no):Bool)
   ·skip
    refine ae ?_
    refine ar 0 h s aL rfl rfl (ak _) rfl ?_;intro f h
    refine aH h s iE (aO (.bool true) (ex (l.getD k aT) _) (congrArg Value.bool k0)) rfl rfl ?_;intro f w1 v9 hT hE h s;obtain rfl:=hT
    refine ac h (av (.bool false) (bh (h.ev rfl)) rfl) rfl ?_;intro f h
    refine ac h (ag (h.ev rfl)) rfl ?_;intro f h
    refine az h rfl rfl rfl ?_
    refine ac h (ai aJ (h.ev rfl)) rfl ?_;intro f h
    refine az h rfl rfl rfl ?_
    refine au (am (aU.of_own s 0 rfl) 0 (aP _)) h bz rfl rfl ?_;intro f h
    refine az h rfl rfl rfl ?_
    refine ac h (ag (h.ev rfl)) rfl ?_;intro f h
    refine az h rfl rfl rfl ?_
    refine ac h (av (.bool false) (bX (h.ev rfl) (h.ev rfl)) (congrArg Value.bool k1)) rfl ?_;intro f h
    refine ac h (aG (h.ev rfl) (h.ev rfl)) rfl ?_;intro f h
    refine ah ?_
    refine hK9 _ _ ?_
    refine wpIn_cond_false (h.ev rfl) ?_
    refine wpIn_skip ?_
    refine hK8 _ _ ?_
    refine al fun K11 hK11=>?_
    refine ae ?_
    have hq1:=hp1
    have hlt9:(l.take k).length=k:=by rw [List.length_take];omega
    refine ac h (ag (h.ev rfl)) rfl ?_;intro f h
    refine ac h (ag (h.ev rfl)) rfl ?_;intro f h
    refine ac h (dP (hR.keep s.ext) (k) Tryz.underlying36 cz (h.ev rfl) (h.ev rfl) (rfl) (by omega)) rfl ?_;intro f h
    refine ac h (bc ((fp hR k (by omega)).keep s.ext) Tryz.underlying36 (h.ev rfl)) rfl ?_;intro f h
    refine ac h (ag (h.ev rfl)) rfl ?_;intro f h
    refine ah ?_
    refine hK11 _ _ ?_
    refine wpIn_block ?_
    refine wpIn_loop_ghost (fun nn aa ww=>∃ j:Nat,Sl 40 aa [(0,vh),(1,.int .i64 no),(6,.pointer (some ⟨b6,0,none⟩)),(9,vh),(10,.int .i64 (l.length:Int)),(11,.int .i64 (k:Int)),(27,gr vh k),(28,.int .i64 ((l.take k).length:Int)),(29,.int .i64 (j:Int))]∧St w [.blk b6 (.cells (aw (l.getD k aT)) 28)] ww∧nn=k - j∧j≤k∧∀ i,i<j→decide ((l.getD i aT).1=(l.getD k aT).1)=false) (k - (0)) ⟨0,h.only ⟨rfl,rfl,rfl,rfl,rfl,rfl,rfl,rfl,aQ rfl (by omega),trivial⟩,s.as ⟨rfl,trivial⟩,rfl,Nat.zero_le _,fun j hj=>absurd hj (Nat.not_lt_zero _)⟩ ?_
    rintro _ f w1 ⟨j,h,s,hnn,hp0,hp1⟩
    refine al fun K12 hK12=>?_
    refine ae ?_
    refine ac h (bN (h.ev rfl) (h.ev rfl)) rfl ?_;intro f h
    refine ah ?_
    refine hK12 _ _ ?_
    refine al fun K13 hK13=>?_
    refine bM h rfl (fun hc=>?_) (fun hc=>?_)
    ·replace hc:=of_decide_eq_true hc
     refine wpIn_skip ?_
     refine hK13 _ _ ?_
     refine al fun K14 hK14=>?_
     refine wpIn_block ?_
     refine al fun K15 hK15=>?_
     refine ae ?_
     have hjk:j<k:=by omega
     refine ac h (bZ ((fp hR k (by omega)).keep s.ext) (j) Tryz.underlying36 cz (h.ev rfl) (h.ev rfl) (by omega) (by omega)) rfl ?_;intro f h
     refine aB (((fp hR k (by omega)).keep s.ext).el (j) (by omega) (by decide) (D:=aw (l.getD j aT)) (wm l hjk (by omega))) h aL rfl (ak _) rfl ?_;intro f h
     refine bj (aw aT) h s cB rfl rfl ?_;intro f w1 b8 h s
     refine ax 0 h s aL rfl rfl rfl (ak _) (ak _) (aS _) ?_;intro w1 s
     refine ah ?_
     refine hK15 _ _ ?_
     refine al fun K16 hK16=>?_
     refine ae ?_
     refine ac h (ai aJ (h.ev rfl)) rfl ?_;intro f h
     refine au (am (aU.of_own s 0 rfl) 0 (aP _)) h bz rfl rfl ?_;intro f h
     refine ac h (ai aJ (h.ev rfl)) rfl ?_;intro f h
     refine au (am (aU.of_own s 1 rfl) 0 (aP _)) h bz rfl rfl ?_;intro f h
     refine ac h (bX (h.ev rfl) (h.ev rfl)) rfl ?_;intro f h
     refine ah ?_
     refine hK16 _ _ ?_
     refine bM h rfl (fun hc=>?_) (fun hc=>?_)
     ·refine al fun K17 hK17=>?_
      refine ae ?_
      refine ac h (aj (h.ev rfl)) rfl ?_;intro f h
      refine ah ?_
      refine hK17 _ _ ?_
      refine wpIn_ret ?_
      refine bU ?_
      refine aW ?_
      refine aW ?_
      refine bU ?_
      refine bU ?_
      refine aW ?_
      refine aW ?_
      refine bU ?_
      refine aW ?_
      exact bf rfl h s rfl (by show _=_;rw [gn hkl ((oY k0 k1).trans (kJ (p:=fun x=>decide (x.1=(l.getD k aT).1)) (by omega) hjk hc))])
     ·refine wpIn_skip ?_
      refine bF ?_
      refine hK14 _ _ ?_
      refine ae ?_
      refine ac h (cf (h.ev rfl) (h.ev rfl) (by omega)) rfl ?_;intro f h
      refine ac h (ag (h.ev rfl)) rfl ?_;intro f h
      refine ah ?_
      refine bQ ?_
      exact ⟨_,by omega,⟨j+1,h.only ⟨rfl,rfl,rfl,rfl,rfl,rfl,rfl,rfl,aQ rfl (by omega),trivial⟩,St.as (s.pick _ (List.sublist_append_right [_] _)) ⟨rfl,trivial⟩,rfl,by omega,dm (q:=fun i=>decide ((l.getD i aT).1=(l.getD k aT).1)) hp1 hc⟩⟩
    ·replace hc:=of_decide_eq_false hc
     refine wpIn_exit ?_
     refine bJ ?_
     refine bJ ?_
     refine cC ?_
     refine bF ?_
     refine hK6 _ _ ?_
     refine ae ?_
     refine ac h (cf (h.ev rfl) (h.ev rfl) (by omega)) rfl ?_;intro f h
     refine ac h (ag (h.ev rfl)) rfl ?_;intro f h
     refine ah ?_
     refine bQ ?_
     have hb9:i0 l no k=false:=(oY k0 k1).trans (pQ (p:=fun x=>decide (x.1=(l.getD k aT).1)) (by omega) (fun i hi=>hp1 i (by omega)))
     exact ⟨_,by omega,⟨k+1,h.only ⟨rfl,rfl,rfl,rfl,aQ rfl (by omega),trivial⟩,St.as (s.pick _ (List.sublist_append_right [_] _)) trivial,rfl,by omega,dm hq1 hb9⟩⟩
   ·skip
    refine ae ?_
    refine ar 0 h s aL rfl rfl (ak _) rfl ?_;intro f h
    refine aH h s iE (aO (.bool true) (ex (l.getD k aT) _) (congrArg Value.bool k0)) rfl rfl ?_;intro f w1 v9 hT hE h s;obtain rfl:=hT
    refine ac h (av (.bool false) (bh (h.ev rfl)) rfl) rfl ?_;intro f h
    refine ac h (ag (h.ev rfl)) rfl ?_;intro f h
    refine az h rfl rfl rfl ?_
    refine ac h (ai aJ (h.ev rfl)) rfl ?_;intro f h
    refine az h rfl rfl rfl ?_
    refine au (am (aU.of_own s 0 rfl) 0 (aP _)) h bz rfl rfl ?_;intro f h
    refine az h rfl rfl rfl ?_
    refine ac h (ag (h.ev rfl)) rfl ?_;intro f h
    refine az h rfl rfl rfl ?_
    refine ac h (av (.bool true) (bX (h.ev rfl) (h.ev rfl)) (congrArg Value.bool k1)) rfl ?_;intro f h
    refine ac h (aG (h.ev rfl) (h.ev rfl)) rfl ?_;intro f h
    refine ah ?_
    refine hK9 _ _ ?_
    refine wpIn_cond_true (h.ev rfl) ?_
    refine al fun K18 hK18=>?_
    refine ae ?_
    refine ac h (aj (h.ev rfl)) rfl ?_;intro f h
    refine ah ?_
    refine hK18 _ _ ?_
    refine wpIn_ret ?_
    refine aW ?_
    refine bU ?_
    refine aW ?_
    refine aW ?_
    refine bU ?_
    refine aW ?_
    exact bf rfl h s rfl (by show _=_;rw [gn hkl (xB k1)])
 ·replace hc:=of_decide_eq_false hc
  refine wpIn_exit ?_
  refine bJ ?_
  refine bJ ?_
  refine cC ?_
  refine hK2 _ _ ?_
  refine al fun K19 hK19=>?_
  refine ae ?_
  refine ac h (aj (h.ev rfl)) rfl ?_;intro f h
  refine ah ?_
  refine hK19 _ _ ?_
  refine wpIn_ret ?_
  exact bf rfl h s rfl (by show _=_;rw [pT (by omega) hp1])
theorem qO (a b:Nd) (u1 u2 v1 v2:Value) (w:World) (hA1:bq w u1 33 a.sc.length (ap a.sc)) (hA2:bq w u2 33 a.fg.length (ap a.fg)) (hB1:bq w v1 33 b.sc.length (ap b.sc)) (hB2:bq w v2 33 b.fg.length (ap b.fg)) (ha1:a.sc.length≤1000) (ha2:a.fg.length≤1000) (hb1:b.sc.length≤1000) (hb2:b.fg.length≤1000):Calls Tryz.prog 67 [.agg (aC a.me a.pr u1 u2),.agg (aC b.me b.pr v1 v2)].toArray w (cU w (is (.bool (fb a b)))):=by
 refine bp Tryz.func67 rfl Tryz.ntmps67 rfl [(0,.agg (aC a.me a.pr u1 u2)),(1,.agg (aC b.me b.pr v1 v2))] (by simp) fun f h=>?_
 have s:=St.start w
 refine al fun K1 hK1=>?_
 refine ae ?_
 refine bV (aC a.me a.pr u1 u2) h s rfl rfl rfl ?_;intro f w1 b2 h s
 refine bV (aC b.me b.pr v1 v2) h s rfl rfl rfl ?_;intro f w1 b3 h s
 refine ac h (aj (h.ev rfl)) rfl ?_;intro f h
 refine ah ?_
 refine hK1 _ _ ?_
 refine al fun K2 hK2=>?_
 cases e0:(decide (a.me=b.me):Bool)
 ·skip
  refine ae ?_
  refine ac h (ai aR (h.ev rfl)) rfl ?_;intro f h
  refine aB (aU.subL (aU.of_own s 1 rfl) 0 33 (D:=aw a.me) (bT _ _ _ _)) h aL rfl (ak _) rfl ?_;intro f h
  refine ac h (ai aR (h.ev rfl)) rfl ?_;intro f h
  refine aB (aU.subL (aU.of_own s 0 rfl) 0 33 (D:=aw b.me) (bT _ _ _ _)) h aL rfl (ak _) rfl ?_;intro f h
  refine ac h (av (.bool false) (cV (g4 _ _) (by kernel_rfl) (by decide) (h.ev rfl) (h.ev rfl) (decide (a.me=b.me)) (ee _ _)) (congrArg Value.bool e0)) rfl ?_;intro f h
  refine ac h (ag (h.ev rfl)) rfl ?_;intro f h
  refine aA (b:=true) h rfl rfl rfl rfl ?_;intro f h
  refine aA (b:=true) h rfl rfl rfl rfl ?_;intro f h
  refine aA (b:=true) h rfl rfl rfl rfl ?_;intro f h
  refine aA (b:=true) h rfl rfl rfl rfl ?_;intro f h
  refine aA (b:=true) h rfl rfl rfl rfl ?_;intro f h
  refine ac h (aG (h.ev rfl) (h.ev rfl)) rfl ?_;intro f h
  refine ac h (ag (h.ev rfl)) rfl ?_;intro f h
  refine aA (b:=true) h rfl rfl rfl rfl ?_;intro f h
  refine aA (b:=true) h rfl rfl rfl rfl ?_;intro f h
  refine aA (b:=true) h rfl rfl rfl rfl ?_;intro f h
  refine aA (b:=true) h rfl rfl rfl rfl ?_;intro f h
  refine aA (b:=true) h rfl rfl rfl rfl ?_;intro f h
  refine ac h (aG (h.ev rfl) (h.ev rfl)) rfl ?_;intro f h
  refine ac h (ag (h.ev rfl)) rfl ?_;intro f h
  refine aA (b:=true) h rfl rfl rfl rfl ?_;intro f h
  refine aA (b:=true) h rfl rfl rfl rfl ?_;intro f h
  refine aA (b:=true) h rfl rfl rfl rfl ?_;intro f h
  refine aA (b:=true) h rfl rfl rfl rfl ?_;intro f h
  refine aA (b:=true) h rfl rfl rfl rfl ?_;intro f h
  refine ac h (aG (h.ev rfl) (h.ev rfl)) rfl ?_;intro f h
  refine ac h (aj (h.ev rfl)) rfl ?_;intro f h
  refine ah ?_
  refine hK2 _ _ ?_
  refine wpIn_ret ?_
  exact bf rfl h s rfl (by show _=_;rw [Eb e0])
 ·skip
  cases e1:(decide (a.pr=b.pr):Bool)
  ·skip
   refine ae ?_
   refine ac h (ai aR (h.ev rfl)) rfl ?_;intro f h
   refine aB (aU.subL (aU.of_own s 1 rfl) 0 33 (D:=aw a.me) (bT _ _ _ _)) h aL rfl (ak _) rfl ?_;intro f h
   refine ac h (ai aR (h.ev rfl)) rfl ?_;intro f h
   refine aB (aU.subL (aU.of_own s 0 rfl) 0 33 (D:=aw b.me) (bT _ _ _ _)) h aL rfl (ak _) rfl ?_;intro f h
   refine ac h (av (.bool true) (cV (g4 _ _) (by kernel_rfl) (by decide) (h.ev rfl) (h.ev rfl) (decide (a.me=b.me)) (ee _ _)) (congrArg Value.bool e0)) rfl ?_;intro f h
   refine ac h (ag (h.ev rfl)) rfl ?_;intro f h
   refine az h rfl rfl rfl ?_
   refine ac h (ai bR (h.ev rfl)) rfl ?_;intro f h
   refine az h rfl rfl rfl ?_
   refine aB (aU.subL (aU.of_own s 1 rfl) 33 33 (D:=aw a.pr) (cb _ _ _ _)) h aL rfl (ak _) rfl ?_;intro f h
   refine az h rfl rfl rfl ?_
   refine ac h (ai bR (h.ev rfl)) rfl ?_;intro f h
   refine az h rfl rfl rfl ?_
   refine aB (aU.subL (aU.of_own s 0 rfl) 33 33 (D:=aw b.pr) (cb _ _ _ _)) h aL rfl (ak _) rfl ?_;intro f h
   refine az h rfl rfl rfl ?_
   refine ac h (av (.bool false) (cV (g4 _ _) (by kernel_rfl) (by decide) (h.ev rfl) (h.ev rfl) (decide (a.pr=b.pr)) (ee _ _)) (congrArg Value.bool e1)) rfl ?_;intro f h
   refine ac h (aI (h.ev rfl) (h.ev rfl)) rfl ?_;intro f h
   refine ac h (ag (h.ev rfl)) rfl ?_;intro f h
   refine aA (b:=true) h rfl rfl rfl rfl ?_;intro f h
   refine aA (b:=true) h rfl rfl rfl rfl ?_;intro f h
   refine aA (b:=true) h rfl rfl rfl rfl ?_;intro f h
   refine aA (b:=true) h rfl rfl rfl rfl ?_;intro f h
   refine aA (b:=true) h rfl rfl rfl rfl ?_;intro f h
   refine ac h (aG (h.ev rfl) (h.ev rfl)) rfl ?_;intro f h
   refine ac h (ag (h.ev rfl)) rfl ?_;intro f h
   refine aA (b:=true) h rfl rfl rfl rfl ?_;intro f h
   refine aA (b:=true) h rfl rfl rfl rfl ?_;intro f h
   refine aA (b:=true) h rfl rfl rfl rfl ?_;intro f h
   refine aA (b:=true) h rfl rfl rfl rfl ?_;intro f h
   refine aA (b:=true) h rfl rfl rfl rfl ?_;intro f h
   refine ac h (aG (h.ev rfl) (h.ev rfl)) rfl ?_;intro f h
   refine ac h (aj (h.ev rfl)) rfl ?_;intro f h
   refine ah ?_
   refine hK2 _ _ ?_
   refine wpIn_ret ?_
   exact bf rfl h s rfl (by show _=_;rw [Ec e1])
  ·skip
   cases e2:(decide (a.sc=b.sc):Bool)
   ·skip
    refine ae ?_
    refine ac h (ai aR (h.ev rfl)) rfl ?_;intro f h
    refine aB (aU.subL (aU.of_own s 1 rfl) 0 33 (D:=aw a.me) (bT _ _ _ _)) h aL rfl (ak _) rfl ?_;intro f h
    refine ac h (ai aR (h.ev rfl)) rfl ?_;intro f h
    refine aB (aU.subL (aU.of_own s 0 rfl) 0 33 (D:=aw b.me) (bT _ _ _ _)) h aL rfl (ak _) rfl ?_;intro f h
    refine ac h (av (.bool true) (cV (g4 _ _) (by kernel_rfl) (by decide) (h.ev rfl) (h.ev rfl) (decide (a.me=b.me)) (ee _ _)) (congrArg Value.bool e0)) rfl ?_;intro f h
    refine ac h (ag (h.ev rfl)) rfl ?_;intro f h
    refine az h rfl rfl rfl ?_
    refine ac h (ai bR (h.ev rfl)) rfl ?_;intro f h
    refine az h rfl rfl rfl ?_
    refine aB (aU.subL (aU.of_own s 1 rfl) 33 33 (D:=aw a.pr) (cb _ _ _ _)) h aL rfl (ak _) rfl ?_;intro f h
    refine az h rfl rfl rfl ?_
    refine ac h (ai bR (h.ev rfl)) rfl ?_;intro f h
    refine az h rfl rfl rfl ?_
    refine aB (aU.subL (aU.of_own s 0 rfl) 33 33 (D:=aw b.pr) (cb _ _ _ _)) h aL rfl (ak _) rfl ?_;intro f h
    refine az h rfl rfl rfl ?_
    refine ac h (av (.bool true) (cV (g4 _ _) (by kernel_rfl) (by decide) (h.ev rfl) (h.ev rfl) (decide (a.pr=b.pr)) (ee _ _)) (congrArg Value.bool e1)) rfl ?_;intro f h
    refine ac h (aI (h.ev rfl) (h.ev rfl)) rfl ?_;intro f h
    refine ac h (ag (h.ev rfl)) rfl ?_;intro f h
    refine az h rfl rfl rfl ?_
    refine ac h (ai bD (h.ev rfl)) rfl ?_;intro f h
    refine az h rfl rfl rfl ?_
    refine au (V:=u1) (am (aU.of_own s 1 rfl) 66 (bL _ _ _ _)) h bE rfl rfl ?_;intro f h
    refine az h rfl rfl rfl ?_
    refine ac h (ai bD (h.ev rfl)) rfl ?_;intro f h
    refine az h rfl rfl rfl ?_
    refine au (V:=v1) (am (aU.of_own s 0 rfl) 66 (bL _ _ _ _)) h bE rfl rfl ?_;intro f h
    refine az h rfl rfl rfl ?_
    refine aH h s vH (aO (.bool false) (mB a.sc b.sc u1 v1 _ (hA1.keep s.ext) (hB1.keep s.ext) ha1 hb1) (congrArg Value.bool e2)) rfl rfl ?_;intro f w1 v9 hT hE h s;obtain rfl:=hT
    refine ac h (aI (h.ev rfl) (h.ev rfl)) rfl ?_;intro f h
    refine ac h (ag (h.ev rfl)) rfl ?_;intro f h
    refine aA (b:=true) h rfl rfl rfl rfl ?_;intro f h
    refine aA (b:=true) h rfl rfl rfl rfl ?_;intro f h
    refine aA (b:=true) h rfl rfl rfl rfl ?_;intro f h
    refine aA (b:=true) h rfl rfl rfl rfl ?_;intro f h
    refine aA (b:=true) h rfl rfl rfl rfl ?_;intro f h
    refine ac h (aG (h.ev rfl) (h.ev rfl)) rfl ?_;intro f h
    refine ac h (aj (h.ev rfl)) rfl ?_;intro f h
    refine ah ?_
    refine hK2 _ _ ?_
    refine wpIn_ret ?_
    exact bf rfl h s rfl (by show _=_;rw [Eu e2])
   ·skip
    refine ae ?_
    refine ac h (ai aR (h.ev rfl)) rfl ?_;intro f h
    refine aB (aU.subL (aU.of_own s 1 rfl) 0 33 (D:=aw a.me) (bT _ _ _ _)) h aL rfl (ak _) rfl ?_;intro f h
    refine ac h (ai aR (h.ev rfl)) rfl ?_;intro f h
    refine aB (aU.subL (aU.of_own s 0 rfl) 0 33 (D:=aw b.me) (bT _ _ _ _)) h aL rfl (ak _) rfl ?_;intro f h
    refine ac h (av (.bool true) (cV (g4 _ _) (by kernel_rfl) (by decide) (h.ev rfl) (h.ev rfl) (decide (a.me=b.me)) (ee _ _)) (congrArg Value.bool e0)) rfl ?_;intro f h
    refine ac h (ag (h.ev rfl)) rfl ?_;intro f h
    refine az h rfl rfl rfl ?_
    refine ac h (ai bR (h.ev rfl)) rfl ?_;intro f h
    refine az h rfl rfl rfl ?_
    refine aB (aU.subL (aU.of_own s 1 rfl) 33 33 (D:=aw a.pr) (cb _ _ _ _)) h aL rfl (ak _) rfl ?_;intro f h
    refine az h rfl rfl rfl ?_
    refine ac h (ai bR (h.ev rfl)) rfl ?_;intro f h
    refine az h rfl rfl rfl ?_
    refine aB (aU.subL (aU.of_own s 0 rfl) 33 33 (D:=aw b.pr) (cb _ _ _ _)) h aL rfl (ak _) rfl ?_;intro f h
    refine az h rfl rfl rfl ?_
    refine ac h (av (.bool true) (cV (g4 _ _) (by kernel_rfl) (by decide) (h.ev rfl) (h.ev rfl) (decide (a.pr=b.pr)) (ee _ _)) (congrArg Value.bool e1)) rfl ?_;intro f h
    refine ac h (aI (h.ev rfl) (h.ev rfl)) rfl ?_;intro f h
    refine ac h (ag (h.ev rfl)) rfl ?_;intro f h
    refine az h rfl rfl rfl ?_
    refine ac h (ai bD (h.ev rfl)) rfl ?_;intro f h
    refine az h rfl rfl rfl ?_
    refine au (V:=u1) (am (aU.of_own s 1 rfl) 66 (bL _ _ _ _)) h bE rfl rfl ?_;intro f h
    refine az h rfl rfl rfl ?_
    refine ac h (ai bD (h.ev rfl)) rfl ?_;intro f h
    refine az h rfl rfl rfl ?_
    refine au (V:=v1) (am (aU.of_own s 0 rfl) 66 (bL _ _ _ _)) h bE rfl rfl ?_;intro f h
    refine az h rfl rfl rfl ?_
    refine aH h s vH (aO (.bool true) (mB a.sc b.sc u1 v1 _ (hA1.keep s.ext) (hB1.keep s.ext) ha1 hb1) (congrArg Value.bool e2)) rfl rfl ?_;intro f w1 v9 hT hE h s;obtain rfl:=hT
    refine ac h (aI (h.ev rfl) (h.ev rfl)) rfl ?_;intro f h
    refine ac h (ag (h.ev rfl)) rfl ?_;intro f h
    refine az h rfl rfl rfl ?_
    refine ac h (ai cR (h.ev rfl)) rfl ?_;intro f h
    refine az h rfl rfl rfl ?_
    refine au (V:=u2) (am (aU.of_own s 1 rfl) 67 (cT _ _ _ _)) h bE rfl rfl ?_;intro f h
    refine az h rfl rfl rfl ?_
    refine ac h (ai cR (h.ev rfl)) rfl ?_;intro f h
    refine az h rfl rfl rfl ?_
    refine au (V:=v2) (am (aU.of_own s 0 rfl) 67 (cT _ _ _ _)) h bE rfl rfl ?_;intro f h
    refine az h rfl rfl rfl ?_
    refine aH h s vH (mB a.fg b.fg u2 v2 _ (hA2.keep s.ext) (hB2.keep s.ext) ha2 hb2) rfl rfl ?_;intro f w1 v9 hT hE h s;obtain rfl:=hT
    refine ac h (aI (h.ev rfl) (h.ev rfl)) rfl ?_;intro f h
    refine ac h (aj (h.ev rfl)) rfl ?_;intro f h
    refine ah ?_
    refine hK2 _ _ ?_
    refine wpIn_ret ?_
    exact bf rfl h s rfl (by show _=_;rw [DY e0 e1 e2])
theorem nQ (L K:List N3) (vo vp:Value) (w:World) (hO:dN w vo L) (hL:L.length≤40) (hP:dN w vp K) (hK:K.length≤40) (hbL:RwB L) (hbK:RwB K):Calls Tryz.prog 32 [.agg #[vo],.agg #[vp]].toArray w (cU w (is (.bool (nj (nds L) (nds K))))):=by
 refine bp Tryz.func32 rfl Tryz.ntmps32 rfl [(0,.agg #[vo]),(1,.agg #[vp])] (by simp) fun f h=>?_
 have s:=St.start w
 refine al fun K1 hK1=>?_
 refine ae ?_
 refine bV (#[vo]) h s rfl rfl rfl ?_;intro f w1 b2 h s
 refine bV (#[vp]) h s rfl rfl rfl ?_;intro f w1 b3 h s
 refine ac h (aj (h.ev rfl)) rfl ?_;intro f h
 refine ah ?_
 refine hK1 _ _ ?_
 refine al fun K2 hK2=>?_
 refine al fun K3 hK3=>?_
 refine ae ?_
 refine ac h (ai cp (h.ev rfl)) rfl ?_;intro f h
 refine au (V:=vo) (am (aU.of_own s 1 rfl) 0 rfl) h c4 rfl rfl ?_;intro f h
 refine ac h (bc (hO.1.keep s.ext) Tryz.underlying22 (h.ev rfl)) rfl ?_;intro f h
 refine ac h (ai cp (h.ev rfl)) rfl ?_;intro f h
 refine au (V:=vp) (am (aU.of_own s 0 rfl) 0 rfl) h c4 rfl rfl ?_;intro f h
 refine ac h (bc (hP.1.keep s.ext) Tryz.underlying22 (h.ev rfl)) rfl ?_;intro f h
 refine ac h (c3 (h.ev rfl) (h.ev rfl)) rfl ?_;intro f h
 refine ah ?_
 refine hK3 _ _ ?_
 refine bM h rfl (fun hc=>?_) (fun hc=>?_)
 ·have hne:¬ (nds L).length=(nds K).length:=by rw [List.length_map,List.length_map];intro e9;exact(of_decide_eq_true hc) (by omega)
  refine al fun K4 hK4=>?_
  refine ae ?_
  refine ac h (aj (h.ev rfl)) rfl ?_;intro f h
  refine ah ?_
  refine hK4 _ _ ?_
  refine wpIn_ret ?_
  refine aW ?_
  exact bf rfl h s rfl (by show _=_;rw [uI hne])
 ·have hle:L.length=K.length:=by have:=of_decide_eq_false hc;omega
  refine wpIn_skip ?_
  refine hK2 _ _ ?_
  refine al fun K5 hK5=>?_
  refine al fun K6 hK6=>?_
  refine ae ?_
  refine ac h (ai cp (h.ev rfl)) rfl ?_;intro f h
  refine au (V:=vo) (am (aU.of_own s 1 rfl) 0 rfl) h c4 rfl rfl ?_;intro f h
  refine ac h (bc (hO.1.keep s.ext) Tryz.underlying22 (h.ev rfl)) rfl ?_;intro f h
  refine ac h (ag (h.ev rfl)) rfl ?_;intro f h
  refine ah ?_
  refine hK6 _ _ ?_
  refine wpIn_block ?_
  refine wpIn_loop_ghost (fun nn aa ww=>∃ k:Nat,Sl 32 aa [(0,.agg #[vo]),(1,.agg #[vp]),(2,.pointer (some ⟨b2,0,none⟩)),(3,.pointer (some ⟨b3,0,none⟩)),(15,.int .i64 (L.length:Int)),(16,.int .i64 (k:Int))]∧St w [.blk b3 (.cells (#[vp]) 24),.blk b2 (.cells (#[vo]) 24)] ww∧nn=L.length - k∧k≤L.length∧∀ j,j<k→fb (L.getD j z3).1 (K.getD j z3).1=true) (L.length - (0)) ⟨0,h.only ⟨rfl,rfl,rfl,rfl,rfl,aQ rfl (by omega),trivial⟩,s.as ⟨rfl,rfl,trivial⟩,rfl,Nat.zero_le _,fun j hj=>absurd hj (Nat.not_lt_zero _)⟩ ?_
  rintro _ f w1 ⟨k,h,s,hnn,hp0,hp1⟩
  refine al fun K7 hK7=>?_
  refine ae ?_
  refine ac h (bN (h.ev rfl) (h.ev rfl)) rfl ?_;intro f h
  refine ah ?_
  refine hK7 _ _ ?_
  refine al fun K8 hK8=>?_
  refine bM h rfl (fun hc=>?_) (fun hc=>?_)
  ·replace hc:=of_decide_eq_true hc
   refine wpIn_skip ?_
   refine hK8 _ _ ?_
   refine al fun K9 hK9=>?_
   refine wpIn_block ?_
   refine al fun K10 hK10=>?_
   refine ae ?_
   have hkl:k<L.length:=by omega
   have hkk:k<K.length:=by omega
   have hx9:=hbL.each _ (bw hkl)
   have hy9:=hbK.each _ (bw hkk)
   refine ac h (ag (h.ev rfl)) rfl ?_;intro f h
   refine ac h (aj (h.ev rfl)) rfl ?_;intro f h
   refine ah ?_
   refine hK10 _ _ ?_
   refine al fun K11 hK11=>?_
   cases hl9:(fb (L.getD k z3).1 (K.getD k z3).1:Bool)
   ·skip
    refine bI 12 [[],[0],[],[0,1,2],[0,1,2,3],[],[5],[],[5,6,7],[5,6,7,8],[0,1,2,3,4,5,6,7,8,9],[0,1,2,3,4,5,6,7,8,9,10]] h (by kernel_rfl) (by kernel_rfl) (by kernel_rfl) ?_
    refine ao h (ai cp (h.ev rfl)) rfl ?_;intro f h
    refine a2 (V:=vo) (am (aU.of_own s 1 rfl) 0 rfl) h c4 rfl rfl ?_;intro f h
    refine ao h (ag (h.ev rfl)) rfl ?_;intro f h
    refine ao h (bZ (hO.1.keep s.ext) (k) Tryz.underlying22 gc (h.ev rfl) (h.ev rfl) (rfl) (by omega)) rfl ?_;intro f h
    refine bk ((hO.1.keep s.ext).el (k) (by omega) (by decide) (D:=aC (L.getD k z3).1.me (L.getD k z3).1.pr (L.getD k z3).2.1 (L.getD k z3).2.2) (df L k hkl)) h aZ rfl (aq _ _ _ _) rfl ?_;intro f h
    refine ao h (ai cp (h.ev rfl)) rfl ?_;intro f h
    refine a2 (V:=vp) (am (aU.of_own s 0 rfl) 0 rfl) h c4 rfl rfl ?_;intro f h
    refine ao h (ag (h.ev rfl)) rfl ?_;intro f h
    refine ao h (bZ (hP.1.keep s.ext) (k) Tryz.underlying22 gc (h.ev rfl) (h.ev rfl) (rfl) (by omega)) rfl ?_;intro f h
    refine bk ((hP.1.keep s.ext).el (k) (by omega) (by decide) (D:=aC (K.getD k z3).1.me (K.getD k z3).1.pr (K.getD k z3).2.1 (K.getD k z3).2.2) (df K k hkk)) h aZ rfl (aq _ _ _ _) rfl ?_;intro f h
    refine cm h A4 (fun w9 hE9=>aO (.bool false) (qO (L.getD k z3).1 (K.getD k z3).1 (L.getD k z3).2.1 (L.getD k z3).2.2 (K.getD k z3).2.1 (K.getD k z3).2.2 w9 (((hO.2 _ (bw hkl)).1).keep (s.ext.trans hE9)) (((hO.2 _ (bw hkl)).2).keep (s.ext.trans hE9)) (((hP.2 _ (bw hkk)).1).keep (s.ext.trans hE9)) (((hP.2 _ (bw hkk)).2).keep (s.ext.trans hE9)) (by omega) (by omega) (by omega) (by omega)) (congrArg Value.bool hl9)) rfl rfl ?_;intro f h
    refine ao h (av (.bool true) (bh (h.ev rfl)) rfl) rfl ?_;intro f h
    refine cq s fun w1 s=>?_
    refine ah ?_
    refine hK11 _ _ ?_
    refine wpIn_cond_true (h.ev rfl) ?_
    refine al fun K12 hK12=>?_
    refine ae ?_
    refine ac h (aj (h.ev rfl)) rfl ?_;intro f h
    refine ah ?_
    refine hK12 _ _ ?_
    refine wpIn_ret ?_
    refine bU ?_
    refine aW ?_
    refine aW ?_
    refine bU ?_
    refine aW ?_
    exact bf rfl h s rfl (by show _=_;rw [vC hkl hkk hl9])
   ·skip
    refine bI 12 [[],[0],[],[0,1,2],[0,1,2,3],[],[5],[],[5,6,7],[5,6,7,8],[0,1,2,3,4,5,6,7,8,9],[0,1,2,3,4,5,6,7,8,9,10]] h (by kernel_rfl) (by kernel_rfl) (by kernel_rfl) ?_
    refine ao h (ai cp (h.ev rfl)) rfl ?_;intro f h
    refine a2 (V:=vo) (am (aU.of_own s 1 rfl) 0 rfl) h c4 rfl rfl ?_;intro f h
    refine ao h (ag (h.ev rfl)) rfl ?_;intro f h
    refine ao h (bZ (hO.1.keep s.ext) (k) Tryz.underlying22 gc (h.ev rfl) (h.ev rfl) (rfl) (by omega)) rfl ?_;intro f h
    refine bk ((hO.1.keep s.ext).el (k) (by omega) (by decide) (D:=aC (L.getD k z3).1.me (L.getD k z3).1.pr (L.getD k z3).2.1 (L.getD k z3).2.2) (df L k hkl)) h aZ rfl (aq _ _ _ _) rfl ?_;intro f h
    refine ao h (ai cp (h.ev rfl)) rfl ?_;intro f h
    refine a2 (V:=vp) (am (aU.of_own s 0 rfl) 0 rfl) h c4 rfl rfl ?_;intro f h
    refine ao h (ag (h.ev rfl)) rfl ?_;intro f h
    refine ao h (bZ (hP.1.keep s.ext) (k) Tryz.underlying22 gc (h.ev rfl) (h.ev rfl) (rfl) (by omega)) rfl ?_;intro f h
    refine bk ((hP.1.keep s.ext).el (k) (by omega) (by decide) (D:=aC (K.getD k z3).1.me (K.getD k z3).1.pr (K.getD k z3).2.1 (K.getD k z3).2.2) (df K k hkk)) h aZ rfl (aq _ _ _ _) rfl ?_;intro f h
    refine cm h A4 (fun w9 hE9=>aO (.bool true) (qO (L.getD k z3).1 (K.getD k z3).1 (L.getD k z3).2.1 (L.getD k z3).2.2 (K.getD k z3).2.1 (K.getD k z3).2.2 w9 (((hO.2 _ (bw hkl)).1).keep (s.ext.trans hE9)) (((hO.2 _ (bw hkl)).2).keep (s.ext.trans hE9)) (((hP.2 _ (bw hkk)).1).keep (s.ext.trans hE9)) (((hP.2 _ (bw hkk)).2).keep (s.ext.trans hE9)) (by omega) (by omega) (by omega) (by omega)) (congrArg Value.bool hl9)) rfl rfl ?_;intro f h
    refine ao h (av (.bool false) (bh (h.ev rfl)) rfl) rfl ?_;intro f h
    refine cq s fun w1 s=>?_
    refine ah ?_
    refine hK11 _ _ ?_
    refine wpIn_cond_false (h.ev rfl) ?_
    refine wpIn_skip ?_
    refine bF ?_
    refine hK9 _ _ ?_
    refine ae ?_
    refine ac h (cf (h.ev rfl) (h.ev rfl) (by omega)) rfl ?_;intro f h
    refine ac h (ag (h.ev rfl)) rfl ?_;intro f h
    refine ah ?_
    refine bQ ?_
    exact ⟨_,by omega,⟨k+1,h.only ⟨rfl,rfl,rfl,rfl,rfl,aQ rfl (by omega),trivial⟩,St.as s ⟨rfl,rfl,trivial⟩,rfl,by omega,Br hp1 hl9⟩⟩
  ·replace hc:=of_decide_eq_false hc
   refine wpIn_exit ?_
   refine bJ ?_
   refine bJ ?_
   refine cC ?_
   refine hK5 _ _ ?_
   refine al fun K13 hK13=>?_
   refine ae ?_
   refine ac h (aj (h.ev rfl)) rfl ?_;intro f h
   refine ah ?_
   refine hK13 _ _ ?_
   refine wpIn_ret ?_
   exact bf rfl h s rfl (by show _=_;rw [uk hle (fun j hj=>hp1 j (by omega))])
set_option maxHeartbeats 1000000 in
theorem wO (L:List N3) (vo:Value) (w:World) (hO:dN w vo L):Calls Tryz.prog 7 [.agg #[vo]].toArray w (cU w (CP w 42 ((L.take (min L.length 18)).map iD))):=by
 have hT:=hO.take (min L.length 18) (Nat.min_le_left _ _)
 obtain ⟨M,hM⟩:∃ x9,x9=L.take (min L.length 18):=⟨_,rfl⟩
 rw [← hM] at hT
 have hM18:M.length≤18:=by rw [hM,List.length_take];omega
 refine bp Tryz.func7 rfl Tryz.ntmps7 rfl [(0,.agg #[vo])] (by simp) fun f h=>?_
 have s:=St.start w
 refine al fun K1 hK1=>?_
 refine ae ?_
 refine bV (#[vo]) h s rfl rfl rfl ?_;intro f w1 b1 h s
 refine bj (#[a8]) h s eY rfl rfl ?_;intro f w1 b2 h s
 refine ah ?_
 refine hK1 _ _ ?_
 refine al fun K2 hK2=>?_
 refine ae ?_
 refine bj (#[a8]) h s eY rfl rfl ?_;intro f w1 b3 h s
 refine ah ?_
 refine hK2 _ _ ?_
 refine al fun K3 hK3=>?_
 refine al fun K4 hK4=>?_
 refine ae ?_
 replace s:=s.nilSl 42 68
 refine ac h (ai cp (h.ev rfl)) rfl ?_;intro f h
 refine au (V:=vo) (am (aU.of_own s 3 rfl) 0 rfl) h c4 rfl rfl ?_;intro f h
 refine ac h (ai cp (h.ev rfl)) rfl ?_;intro f h
 refine au (V:=vo) (am (aU.of_own s 3 rfl) 0 rfl) h c4 rfl rfl ?_;intro f h
 refine ac h (bc (hO.1.keep s.ext) Tryz.underlying22 (h.ev rfl)) rfl ?_;intro f h
 refine ac h (oz (h.ev rfl) (h.ev rfl)) rfl ?_;intro f h
 refine ac h (dP (hO.1.keep s.ext) (min L.length 18) Tryz.underlying22 gc (h.ev rfl) (h.ev rfl) (by split<;>omega) (by omega)) rfl ?_;intro f h
 refine ac h (bc (hT.1.keep s.ext) Tryz.underlying22 (h.ev rfl)) rfl ?_;intro f h
 refine ac h (ag (h.ev rfl)) rfl ?_;intro f h
 refine ah ?_
 refine hK4 _ _ ?_
 refine wpIn_block ?_
 refine wpIn_loop_ghost (fun nn aa ww=>∃ k:Nat,∃ vb:Value,Sl 42 aa [(0,.agg #[vo]),(1,.pointer (some ⟨b1,0,none⟩)),(2,.pointer (some ⟨b2,0,none⟩)),(3,.pointer (some ⟨b3,0,none⟩)),(12,(gr vo (min L.length 18))),(13,.int .i64 (M.length:Int)),(14,.int .i64 (k:Int))]∧St w [.sl vb 42 68 ((M.take k).map iD).length (aD ((M.take k).map iD)),.blk b3 (.cells (#[vb]) 24),.blk b2 (.cells (#[a8]) 24),.blk b1 (.cells (#[vo]) 24)] ww∧nn=M.length - k∧k≤M.length) (M.length - (0)) ⟨0,a8,h.only ⟨rfl,rfl,rfl,rfl,rfl,rfl,aQ rfl (by omega),trivial⟩,s.as ⟨rfl,rfl,rfl,rfl,trivial⟩,rfl,Nat.zero_le _⟩ ?_
 rintro _ f w1 ⟨k,vb,h,s,hnn,hp0⟩
 refine al fun K5 hK5=>?_
 refine ae ?_
 refine ac h (bN (h.ev rfl) (h.ev rfl)) rfl ?_;intro f h
 refine ah ?_
 refine hK5 _ _ ?_
 refine al fun K6 hK6=>?_
 refine bM h rfl (fun hc=>?_) (fun hc=>?_)
 ·replace hc:=of_decide_eq_true hc
  refine wpIn_skip ?_
  refine hK6 _ _ ?_
  refine al fun K7 hK7=>?_
  refine wpIn_block ?_
  refine al fun K8 hK8=>?_
  refine ae ?_
  have hkl:k<M.length:=by omega
  refine ac h (bZ (hT.1.keep s.ext) (k) Tryz.underlying22 gc (h.ev rfl) (h.ev rfl) (by omega) (by omega)) rfl ?_;intro f h
  refine aB ((hT.1.keep s.ext).el (k) (by omega) (by decide) (D:=aC (M.getD k z3).1.me (M.getD k z3).1.pr (M.getD k z3).2.1 (M.getD k z3).2.2) (df M k hkl)) h aZ rfl (aq _ _ _ _) rfl ?_;intro f h
  refine bj (aC aT aT a8 a8) h s ea rfl rfl ?_;intro f w1 b5 h s
  refine ax 0 h s aZ rfl rfl rfl (aq _ _ _ _) (aq _ _ _ _) (a7 (co ((hT.2 _ (bw hkl)).1.keep s.ext)) (co ((hT.2 _ (bw hkl)).2.keep s.ext))) ?_;intro w1 s
  refine ah ?_
  refine hK8 _ _ ?_
  refine al fun K9 hK9=>?_
  have hbs:=s.ext.le
  refine' Bf 11 [0,2,7,9,11,12,13,14,16] [8,10] [] [[],[0],[],[2],[2,3],[2,3,4],[0,1,2,3,4,5],[],[7],[],[9],[9,10],[9,10,11],[7,8,9,10,11,12],[0,1,2,3,4,5,6,7,8,9,10],[0,1,2,3,4,5,6,7,8,9,10,14],[0,1,2,3,4,5,6,7,8,9,10,11,12,13,14,15],[0,1,2,3,4,5,6,7,8,9,10,11,12,13,14,15,16]] (is _::is _::is _::is _::is _::is _::is _::is _::(is ((M.getD k z3).2.2))::is _::(is ((M.getD k z3).2.2))::is _::is _::is _::is _::is undef::is _::is undef::[]) (fun _=>True) h s (by kernel_rfl) (by kernel_rfl) (by kernel_rfl) (by kernel_rfl) rfl (fun _ _ h _=>h) (trivial) ⟨⟨_,rfl⟩,⟨_,rfl⟩,⟨_,rfl⟩,⟨_,rfl⟩,⟨_,rfl⟩,⟨_,rfl⟩,⟨_,rfl⟩,⟨_,rfl⟩,⟨_,rfl⟩,trivial⟩ ⟨⟨_,rfl⟩,⟨_,rfl⟩,trivial⟩ ⟨bu _,bu _,bu _,bu _,bu _,bu _,bu _,bu _,bu _,bu _,bu _,bu _,bu _,bu _,bu _,bu _,bu _,bu _,trivial⟩ (And.intro ?_ (And.intro ?_ (And.intro ?_ (And.intro ?_ (And.intro ?_ (And.intro ?_ (And.intro ?_ (And.intro ?_ (And.intro ?_ (And.intro ?_ (And.intro ?_ (And.intro ?_ (And.intro ?_ (And.intro ?_ (And.intro ?_ (And.intro ?_ (And.intro ?_ (And.intro ?_ (trivial))))))))))))))))))) ?_
  rotate_left 14
  ·refine dQ 18 rfl (by decide) ?_
   intro f9 w2 hE hs hl
   have e5:f9.tmps.getD 5 undef=_:=di hl 5 (by kernel_rfl) (by kernel_rfl) (h.holds 5 _ rfl)
   have h:=ay [(5,_)] hs rfl (holds_lk ⟨e5,trivial⟩)
   refine ac h (ai bD (h.ev rfl)) rfl ?_;intro f h
   refine ah ?_
   have e9:=h.holds 18 _ rfl
   refine ⟨?_,rfl⟩
   refine e9.trans ?_
   exact rfl
  ·refine cr 19 rfl (by decide) (by decide) ?_
   intro f9 w2 hE hs hd9 hl
   have e18:f9.tmps.getD 18 undef=_:=cc hl 18 0 (by kernel_rfl) (by kernel_rfl)
   have h:=ay [(18,_)] hs hd9 (holds_lk ⟨e18,trivial⟩)
   have s:=s.more hE
   have z:=St.start w2
   refine au (V:=(M.getD k z3).2.1) (am (aU.of_own s 0 rfl) 66 (bL _ _ _ _)) h bE rfl rfl ?_;intro f h
   refine ah ?_
   have e9:=h.holds 19 _ rfl
   refine ⟨?_,Ext.refl _,fun h9=>absurd h9 (by decide)⟩
   refine e9.trans ?_
   exact rfl
  ·refine dQ 20 rfl (by decide) ?_
   intro f9 w2 hE hs hl
   have e5:f9.tmps.getD 5 undef=_:=di hl 5 (by kernel_rfl) (by kernel_rfl) (h.holds 5 _ rfl)
   have h:=ay [(5,_)] hs rfl (holds_lk ⟨e5,trivial⟩)
   refine ac h (ai bD (h.ev rfl)) rfl ?_;intro f h
   refine ah ?_
   have e9:=h.holds 20 _ rfl
   refine ⟨?_,rfl⟩
   refine e9.trans ?_
   exact rfl
  ·refine cr 21 rfl (by decide) (by decide) ?_
   intro f9 w2 hE hs hd9 hl
   have e20:f9.tmps.getD 20 undef=_:=cc hl 20 2 (by kernel_rfl) (by kernel_rfl)
   have h:=ay [(20,_)] hs hd9 (holds_lk ⟨e20,trivial⟩)
   have s:=s.more hE
   have z:=St.start w2
   refine au (V:=(M.getD k z3).2.1) (am (aU.of_own s 0 rfl) 66 (bL _ _ _ _)) h bE rfl rfl ?_;intro f h
   refine ah ?_
   have e9:=h.holds 21 _ rfl
   refine ⟨?_,Ext.refl _,fun h9=>absurd h9 (by decide)⟩
   refine e9.trans ?_
   exact rfl
  ·refine cr 22 rfl (by decide) (by decide) ?_
   intro f9 w2 hE hs hd9 hl
   have e21:f9.tmps.getD 21 undef=_:=cc hl 21 3 (by kernel_rfl) (by kernel_rfl)
   have h:=ay [(21,_)] hs hd9 (holds_lk ⟨e21,trivial⟩)
   have s:=s.more hE
   have z:=St.start w2
   refine ac h (bc ((hT.2 _ (bw hkl)).1.keep s.ext) Tryz.underlying36 (h.ev rfl)) rfl ?_;intro f h
   refine ah ?_
   have e9:=h.holds 22 _ rfl
   refine ⟨?_,Ext.refl _,fun h9=>absurd h9 (by decide)⟩
   refine e9.trans ?_
   exact rfl
  ·refine cr 23 rfl (by decide) (by decide) ?_
   intro f9 w2 hE hs hd9 hl
   have e22:f9.tmps.getD 22 undef=_:=cc hl 22 4 (by kernel_rfl) (by kernel_rfl)
   have h:=ay [(22,_)] hs hd9 (holds_lk ⟨e22,trivial⟩)
   have s:=s.more hE
   have z:=St.start w2
   refine ac h (oz (h.ev rfl) (h.ev rfl)) rfl ?_;intro f h
   refine ah ?_
   have e9:=h.holds 23 _ rfl
   refine ⟨?_,Ext.refl _,fun h9=>absurd h9 (by decide)⟩
   refine e9.trans ?_
   exact rfl
  ·refine cr 24 rfl (by decide) (by decide) ?_
   intro f9 w2 hE hs hd9 hl
   have e19:f9.tmps.getD 19 undef=_:=cc hl 19 1 (by kernel_rfl) (by kernel_rfl)
   have e23:f9.tmps.getD 23 undef=_:=cc hl 23 5 (by kernel_rfl) (by kernel_rfl)
   have h:=ay [(19,_),(23,_)] hs hd9 (holds_lk ⟨e19,e23,trivial⟩)
   have s:=s.more hE
   have z:=St.start w2
   refine ac h (dP ((hT.2 _ (bw hkl)).1.keep s.ext) (min (M.getD k z3).1.sc.length 6) Tryz.underlying36 cz (h.ev rfl) (h.ev rfl) (by split<;>omega) (by omega)) rfl ?_;intro f h
   refine ah ?_
   have e9:=h.holds 24 _ rfl
   refine ⟨?_,Ext.refl _,fun h9=>absurd h9 (by decide)⟩
   refine e9.trans ?_
   exact rfl
  ·refine dQ 25 rfl (by decide) ?_
   intro f9 w2 hE hs hl
   have e5:f9.tmps.getD 5 undef=_:=di hl 5 (by kernel_rfl) (by kernel_rfl) (h.holds 5 _ rfl)
   have h:=ay [(5,_)] hs rfl (holds_lk ⟨e5,trivial⟩)
   refine ac h (ai cR (h.ev rfl)) rfl ?_;intro f h
   refine ah ?_
   have e9:=h.holds 25 _ rfl
   refine ⟨?_,rfl⟩
   refine e9.trans ?_
   exact rfl
  ·refine cr 26 rfl (by decide) (by decide) ?_
   intro f9 w2 hE hs hd9 hl
   have e25:f9.tmps.getD 25 undef=_:=cc hl 25 7 (by kernel_rfl) (by kernel_rfl)
   have h:=ay [(25,_)] hs hd9 (holds_lk ⟨e25,trivial⟩)
   have s:=s.more hE
   have z:=St.start w2
   refine au (V:=(M.getD k z3).2.2) (am (aU.of_own s 0 rfl) 67 (cT _ _ _ _)) h bE rfl rfl ?_;intro f h
   refine ah ?_
   have e9:=h.holds 26 _ rfl
   refine ⟨?_,Ext.refl _,fun h9=>absurd h9 (by decide)⟩
   refine e9.trans ?_
   exact rfl
  ·refine dQ 27 rfl (by decide) ?_
   intro f9 w2 hE hs hl
   have e5:f9.tmps.getD 5 undef=_:=di hl 5 (by kernel_rfl) (by kernel_rfl) (h.holds 5 _ rfl)
   have h:=ay [(5,_)] hs rfl (holds_lk ⟨e5,trivial⟩)
   refine ac h (ai cR (h.ev rfl)) rfl ?_;intro f h
   refine ah ?_
   have e9:=h.holds 27 _ rfl
   refine ⟨?_,rfl⟩
   refine e9.trans ?_
   exact rfl
  ·refine cr 28 rfl (by decide) (by decide) ?_
   intro f9 w2 hE hs hd9 hl
   have e27:f9.tmps.getD 27 undef=_:=cc hl 27 9 (by kernel_rfl) (by kernel_rfl)
   have h:=ay [(27,_)] hs hd9 (holds_lk ⟨e27,trivial⟩)
   have s:=s.more hE
   have z:=St.start w2
   refine au (V:=(M.getD k z3).2.2) (am (aU.of_own s 0 rfl) 67 (cT _ _ _ _)) h bE rfl rfl ?_;intro f h
   refine ah ?_
   have e9:=h.holds 28 _ rfl
   refine ⟨?_,Ext.refl _,fun h9=>absurd h9 (by decide)⟩
   refine e9.trans ?_
   exact rfl
  ·refine dQ 29 rfl (by decide) ?_
   intro f9 w2 hE hs hl
   have e28:f9.tmps.getD 28 undef=_:=cc hl 28 10 (by kernel_rfl) (by kernel_rfl)
   have h:=ay [(28,_)] hs rfl (holds_lk ⟨e28,trivial⟩)
   refine ac h (bc ((hT.2 _ (bw hkl)).2.keep s.ext) Tryz.underlying36 (h.ev rfl)) rfl ?_;intro f h
   refine ah ?_
   have e9:=h.holds 29 _ rfl
   refine ⟨?_,rfl⟩
   refine e9.trans ?_
   exact rfl
  ·refine dQ 30 rfl (by decide) ?_
   intro f9 w2 hE hs hl
   have e29:f9.tmps.getD 29 undef=_:=cc hl 29 11 (by kernel_rfl) (by kernel_rfl)
   have h:=ay [(29,_)] hs rfl (holds_lk ⟨e29,trivial⟩)
   refine ac h (oz (h.ev rfl) (h.ev rfl)) rfl ?_;intro f h
   refine ah ?_
   have e9:=h.holds 30 _ rfl
   refine ⟨?_,rfl⟩
   refine e9.trans ?_
   exact rfl
  ·refine dQ 31 rfl (by decide) ?_
   intro f9 w2 hE hs hl
   have e26:f9.tmps.getD 26 undef=_:=cc hl 26 8 (by kernel_rfl) (by kernel_rfl)
   have e30:f9.tmps.getD 30 undef=_:=cc hl 30 12 (by kernel_rfl) (by kernel_rfl)
   have h:=ay [(26,_),(30,_)] hs rfl (holds_lk ⟨e26,e30,trivial⟩)
   refine ac h (dP ((hT.2 _ (bw hkl)).2.keep s.ext) (min (M.getD k z3).1.fg.length 18) Tryz.underlying36 cz (h.ev rfl) (h.ev rfl) (by split<;>omega) (by omega)) rfl ?_;intro f h
   refine ah ?_
   have e9:=h.holds 31 _ rfl
   refine ⟨?_,rfl⟩
   refine e9.trans ?_
   exact rfl
  ·refine dQ 32 rfl (by decide) ?_
   intro f9 w2 hE hs hl
   have e5:f9.tmps.getD 5 undef=_:=di hl 5 (by kernel_rfl) (by kernel_rfl) (h.holds 5 _ rfl)
   have h:=ay [(5,_)] hs rfl (holds_lk ⟨e5,trivial⟩)
   refine ac h (ai bD (h.ev rfl)) rfl ?_;intro f h
   refine ah ?_
   have e9:=h.holds 32 _ rfl
   refine ⟨?_,rfl⟩
   refine e9.trans ?_
   exact rfl
  ·exact fG (by decide) (by decide)
  ·refine dQ 33 rfl (by decide) ?_
   intro f9 w2 hE hs hl
   have e5:f9.tmps.getD 5 undef=_:=di hl 5 (by kernel_rfl) (by kernel_rfl) (h.holds 5 _ rfl)
   have h:=ay [(5,_)] hs rfl (holds_lk ⟨e5,trivial⟩)
   refine ac h (ai cR (h.ev rfl)) rfl ?_;intro f h
   refine ah ?_
   have e9:=h.holds 33 _ rfl
   refine ⟨?_,rfl⟩
   refine e9.trans ?_
   exact rfl
  ·exact fG (by decide) (by decide)
  ·intro f9 w2 hE hs hd9 hWp hT hR hFr hDj
   replace h:=sl_new (ops:=_) [(18,_),(19,_),(20,_),(21,_),(22,_),(23,_),(24,_),(25,_),(26,_),(27,_),(28,_),(29,_),(30,_),(31,_),(32,_),(33,_)] h hs hd9 hR ⟨hT 0 18 (by decide) rfl,hT 1 19 (by decide) rfl,hT 2 20 (by decide) rfl,hT 3 21 (by decide) rfl,hT 4 22 (by decide) rfl,hT 5 23 (by decide) rfl,hT 6 24 (by decide) rfl,hT 7 25 (by decide) rfl,hT 8 26 (by decide) rfl,hT 9 27 (by decide) rfl,hT 10 28 (by decide) rfl,hT 11 29 (by decide) rfl,hT 12 30 (by decide) rfl,hT 13 31 (by decide) rfl,hT 14 32 (by decide) rfl,hT 16 33 (by decide) rfl,trivial⟩ (by kernel_rfl)
   replace s:=s.more hE
   clear hT hR hFr hDj
   refine jI.cons ?_
   refine bg 0 h s bE rfl rfl rfl (by rw [aq];omega) (co (((hT.2 _ (bw hkl)).1.cut _ (Nat.min_le_left _ _)).keep s.ext)) ?_;intro w1 s
   replace s:=s.recell (D:=aC (M.getD k z3).1.me (M.getD k z3).1.pr (gr (M.getD k z3).2.1 (min (M.getD k z3).1.sc.length 6)) (M.getD k z3).2.2) 0 rfl (ek _ _ _ _ _)
   refine ah ⟨trivial,zD.no (by kernel_rfl),?_⟩
   refine jI.cons ?_
   refine bg 0 h s bE rfl rfl rfl (by rw [aq];omega) (co (((hT.2 _ (bw hkl)).2.cut _ (Nat.min_le_left _ _)).keep s.ext)) ?_;intro w1 s
   replace s:=s.recell (D:=aC (M.getD k z3).1.me (M.getD k z3).1.pr (gr (M.getD k z3).2.1 (min (M.getD k z3).1.sc.length 6)) (gr (M.getD k z3).2.2 (min (M.getD k z3).1.fg.length 18))) 0 rfl (iz _ _ _ _ _)
   refine ah ⟨trivial,zD.no (by kernel_rfl),?_⟩
   refine jI.nil ?_
   refine hK9 _ _ ?_
   refine ae ?_
   refine ac h (ai cp (h.ev rfl)) rfl ?_;intro f h
   refine au (V:=vb) (am (aU.of_own s 2 rfl) 0 rfl) h c4 rfl rfl ?_;intro f h
   refine ar 0 h s aZ rfl rfl (aq _ _ _ _) rfl ?_;intro f h
   refine cg (vs:=[.agg (aC (iD (M.getD k z3)).1.me (iD (M.getD k z3)).1.pr (iD (M.getD k z3)).2.1 (iD (M.getD k z3)).2.2)]) [.tmp 36] h s Tryz.underlying22 fc rfl rfl (f5 (iD (M.getD k z3))) rfl rfl rfl ?_;intro f w1 v37 h s
   refine cZ 2 0 h s Tryz.underlying22 fc rfl rfl rfl rfl (by decide) (iR (oD (hT.2 _ (bw hkl))).ones.1 (oD (hT.2 _ (bw hkl))).ones.2) (by rw [List.length_map,List.length_take];unfold maxLen;omega) (by rw [List.length_map,List.length_take];omega) rfl ?_;intro f w1 v38 h s
   replace s:=s.pick _ (List.sublist_cons_self _ _)
   replace s:=s.resl (m:=((M.take (k+1)).map iD).length) (ys:=aD ((M.take (k+1)).map iD)) 1 rfl (by rw [ot hkl,List.length_append];rfl) (by rw [ot hkl,gQ,f7])
   refine ac h (ai cp (h.ev rfl)) rfl ?_;intro f h
   refine bg 2 h s c4 rfl rfl rfl (by show 0<1;decide) (aX (s.getSl 1 rfl)) ?_;intro w1 s
   replace s:=s.recell (D:=#[v38]) 2 rfl rfl
   refine ah ?_
   refine bF ?_
   refine hK7 _ _ ?_
   refine ae ?_
   refine ac h (cf (h.ev rfl) (h.ev rfl) (by omega)) rfl ?_;intro f h
   refine ac h (ag (h.ev rfl)) rfl ?_;intro f h
   refine ah ?_
   refine bQ ?_
   exact ⟨_,by omega,⟨k+1,v38,h.only ⟨rfl,rfl,rfl,rfl,rfl,rfl,aQ rfl (by omega),trivial⟩,St.as (s.pick _ (List.sublist_append_right [_] _)) ⟨rfl,rfl,rfl,rfl,trivial⟩,rfl,by omega⟩⟩
 ·replace hc:=of_decide_eq_false hc
  refine wpIn_exit ?_
  refine bJ ?_
  refine bJ ?_
  refine cC ?_
  refine hK3 _ _ ?_
  refine al fun K10 hK10=>?_
  refine ae ?_
  refine ar 1 h s a6 rfl rfl (rfl) rfl ?_;intro f h
  refine ax 2 h s a6 rfl rfl rfl (rfl) (rfl) (cn (aX (s.getSl 0 rfl))) ?_;intro w1 s
  refine ah ?_
  refine hK10 _ _ ?_
  refine wpIn_ret ?_
  exact c8 2 rfl h s a6 rfl rfl (rfl) (ru (by obtain rfl:k=M.length:=(by omega);rw [List.take_length,hM]) (s.getSl 0 rfl))
theorem gy (L K:List N3) (vo vp:Value) (e q:Int) (w:World) (hO:dN w vo L) (hL:L.length≤40) (hP:dN w vp K) (hK:K.length≤40) (hbL:RwB L) (hbK:RwB K):Calls Tryz.prog 18 [.agg #[vo],.agg #[vp],.int .i64 e,.int .i64 q].toArray w (cU w (is (.bool (ye L K e q)))):=by
 refine bp Tryz.func18 rfl Tryz.ntmps18 rfl [(0,.agg #[vo]),(1,.agg #[vp]),(2,.int .i64 e),(3,.int .i64 q)] (by simp) fun f h=>?_
 have s:=St.start w
 refine al fun K1 hK1=>?_
 refine ae ?_
 refine bV (#[vo]) h s rfl rfl rfl ?_;intro f w1 b4 h s
 refine bV (#[vp]) h s rfl rfl rfl ?_;intro f w1 b5 h s
 refine ac h (aj (h.ev rfl)) rfl ?_;intro f h
 refine ah ?_
 refine hK1 _ _ ?_
 refine al fun K2 hK2=>?_
 refine al fun K3 hK3=>?_
 refine ae ?_
 refine ac h (ag (h.ev rfl)) rfl ?_;intro f h
 refine ac h (c3 (h.ev rfl) (h.ev rfl)) rfl ?_;intro f h
 refine ah ?_
 refine hK3 _ _ ?_
 refine bM h rfl (fun hc=>?_) (fun hc=>?_)
 ·have h0:¬ q=0:=by simpa using hc
  refine ae ?_
  refine ac h (cG jK) rfl ?_;intro f h
  refine ax 0 h s a6 rfl rfl rfl (rfl) (rfl) (cn (rfl)) ?_;intro w1 s
  refine ah ?_
  refine hK2 _ _ ?_
  refine al fun K4 hK4=>?_
  cases e0:(decide (e=q):Bool)
  ·skip
   refine ae ?_
   refine ac h (ag (h.ev rfl)) rfl ?_;intro f h
   refine ac h (ag (h.ev rfl)) rfl ?_;intro f h
   refine ac h (av (.bool false) (bX (h.ev rfl) (h.ev rfl)) (congrArg Value.bool e0)) rfl ?_;intro f h
   refine ac h (ag (h.ev rfl)) rfl ?_;intro f h
   refine aA (b:=true) h rfl rfl rfl rfl ?_;intro f h
   refine aA (b:=true) h rfl rfl rfl rfl ?_;intro f h
   refine aA (b:=true) h rfl rfl rfl rfl ?_;intro f h
   refine ac h (aG (h.ev rfl) (h.ev rfl)) rfl ?_;intro f h
   refine ac h (aj (h.ev rfl)) rfl ?_;intro f h
   refine ah ?_
   refine hK4 _ _ ?_
   refine wpIn_ret ?_
   exact bf rfl h s rfl (by show _=_;rw [AZ e0])
  ·skip
   refine ae ?_
   refine ac h (ag (h.ev rfl)) rfl ?_;intro f h
   refine ac h (ag (h.ev rfl)) rfl ?_;intro f h
   refine ac h (av (.bool true) (bX (h.ev rfl) (h.ev rfl)) (congrArg Value.bool e0)) rfl ?_;intro f h
   refine ac h (ag (h.ev rfl)) rfl ?_;intro f h
   refine az h rfl rfl rfl ?_
   refine ar 1 h s a6 rfl rfl (rfl) rfl ?_;intro f h
   refine az h rfl rfl rfl ?_
   refine ar 0 h s a6 rfl rfl (rfl) rfl ?_;intro f h
   refine az h rfl rfl rfl ?_
   refine aH h s AB (nQ L [] vo a8 _ (hO.keep s.ext) hL (fq _) (by decide) hbL mM) rfl rfl ?_;intro f w1 v9 hT hE h s;obtain rfl:=hT
   refine ac h (aI (h.ev rfl) (h.ev rfl)) rfl ?_;intro f h
   refine ac h (aj (h.ev rfl)) rfl ?_;intro f h
   refine ah ?_
   refine hK4 _ _ ?_
   refine wpIn_ret ?_
   exact bf rfl h s rfl (by show _=_;rw [D7 e0 h0])
 ·have h0:q=0:=by simpa using hc
  refine wpIn_skip ?_
  refine hK2 _ _ ?_
  refine al fun K5 hK5=>?_
  cases e0:(decide (e=q):Bool)
  ·skip
   refine ae ?_
   refine ac h (ag (h.ev rfl)) rfl ?_;intro f h
   refine ac h (ag (h.ev rfl)) rfl ?_;intro f h
   refine ac h (av (.bool false) (bX (h.ev rfl) (h.ev rfl)) (congrArg Value.bool e0)) rfl ?_;intro f h
   refine ac h (ag (h.ev rfl)) rfl ?_;intro f h
   refine aA (b:=true) h rfl rfl rfl rfl ?_;intro f h
   refine aA (b:=true) h rfl rfl rfl rfl ?_;intro f h
   refine aA (b:=true) h rfl rfl rfl rfl ?_;intro f h
   refine ac h (aG (h.ev rfl) (h.ev rfl)) rfl ?_;intro f h
   refine ac h (aj (h.ev rfl)) rfl ?_;intro f h
   refine ah ?_
   refine hK5 _ _ ?_
   refine wpIn_ret ?_
   exact bf rfl h s rfl (by show _=_;rw [AZ e0])
  ·skip
   refine ae ?_
   refine ac h (ag (h.ev rfl)) rfl ?_;intro f h
   refine ac h (ag (h.ev rfl)) rfl ?_;intro f h
   refine ac h (av (.bool true) (bX (h.ev rfl) (h.ev rfl)) (congrArg Value.bool e0)) rfl ?_;intro f h
   refine ac h (ag (h.ev rfl)) rfl ?_;intro f h
   refine az h rfl rfl rfl ?_
   refine ar 1 h s a6 rfl rfl (rfl) rfl ?_;intro f h
   refine az h rfl rfl rfl ?_
   refine ar 0 h s a6 rfl rfl (rfl) rfl ?_;intro f h
   refine az h rfl rfl rfl ?_
   refine aH h s AB (nQ L K vo vp _ (hO.keep s.ext) hL (hP.keep s.ext) hK hbL hbK) rfl rfl ?_;intro f w1 v9 hT hE h s;obtain rfl:=hT
   refine ac h (aI (h.ev rfl) (h.ev rfl)) rfl ?_;intro f h
   refine ac h (aj (h.ev rfl)) rfl ?_;intro f h
   refine ah ?_
   refine hK5 _ _ ?_
   refine wpIn_ret ?_
   exact bf rfl h s rfl (by show _=_;rw [EG e0 h0])
end Go.Proofs.YthggibfkgofncaaGreat
