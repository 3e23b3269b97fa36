/- What is alike; few; what is wanted. -/
import Derived.Test.YthggibfkgofncaaGreatCon
set_option linter.unusedVariables false
set_option linter.unusedSimpArgs false
set_option linter.unusedSectionVars false
namespace Go.Proofs.YthggibfkgofncaaGreat
open Go.RowKit
theorem lZ (l r:List Mb) (vh vu:Value) (w:World) (hR:bX w vh 33 l.length (ar l)) (hS:bX w vu 33 r.length (ar r)) (hln:l.length≤1000) (hln2:r.length≤1000):Calls Tryz.prog 14 [vh,vu].toArray w (cU w (is (.bool (decide (l=r))))):=by
 refine bq Tryz.func14 rfl Tryz.ntmps14 rfl [(0,vh),(1,vu)] (by simp) fun f h=>?_
 have s:=St.start w
 refine al fun K1 hK1=>?_
 refine ae ?_
 refine ac h (ak (h.ev rfl)) rfl ?_;intro f h
 refine ah ?_
 refine hK1 _ _ ?_
 refine al fun K2 hK2=>?_
 refine al fun K3 hK3=>?_
 refine ae ?_
 refine ac h (ag (h.ev rfl)) rfl ?_;intro f h
 refine ac h (a8 (hR.keep s.ext) Tryz.underlying36 (h.ev rfl)) rfl ?_;intro f h
 refine ac h (ag (h.ev rfl)) rfl ?_;intro f h
 refine ac h (a8 (hS.keep s.ext) Tryz.underlying36 (h.ev rfl)) rfl ?_;intro f h
 refine ac h (cy (h.ev rfl) (h.ev rfl)) rfl ?_;intro f h
 refine ah ?_
 refine hK3 _ _ ?_
 refine bK h rfl (fun hc=>?_) (fun hc=>?_)
 ·replace hc:=hc
  refine al fun K4 hK4=>?_
  refine ae ?_
  refine ac h (ak (h.ev rfl)) rfl ?_;intro f h
  refine ah ?_
  refine hK4 _ _ ?_
  refine wpIn_ret ?_
  refine aY ?_
  exact bo rfl h s rfl ((by show _=_;rw [decide_eq_false (fun e=>by subst e;simp at hc)]))
 ·have hl9:l.length=r.length:=by have:=hc;simp at this;omega
  refine wpIn_skip ?_
  refine hK2 _ _ ?_
  refine al fun K5 hK5=>?_
  refine al fun K6 hK6=>?_
  refine ae ?_
  refine ac h (ag (h.ev rfl)) rfl ?_;intro f h
  refine ac h (a8 (hR.keep s.ext) Tryz.underlying36 (h.ev rfl)) rfl ?_;intro f h
  refine ac h (ag (h.ev rfl)) rfl ?_;intro f h
  refine ah ?_
  refine hK6 _ _ ?_
  refine wpIn_block ?_
  refine wpIn_loop_ghost (fun nn aa ww=>∃ k:Nat,Sl 26 aa [(0,vh),(1,vu),(11,vh),(12,.int .i64 (l.length:Int)),(13,.int .i64 (k:Int))]∧St w [] ww∧nn=l.length - k∧k≤l.length∧∀ j,j<k→l.getD j aZ=r.getD j aZ) (l.length - (0)) ⟨0,h.only ⟨rfl,rfl,rfl,rfl,aO rfl (by omega),trivial⟩,s.as trivial,rfl,Nat.zero_le _,fun j hj=>absurd hj (Nat.not_lt_zero _)⟩ ?_
  rintro _ f w1 ⟨k,h,s,hnn,hp0,hp1⟩
  refine al fun K7 hK7=>?_
  refine ae ?_
  refine ac h (bS (h.ev rfl) (h.ev rfl)) rfl ?_;intro f h
  refine ah ?_
  refine hK7 _ _ ?_
  refine al fun K8 hK8=>?_
  refine bK h rfl (fun hc=>?_) (fun hc=>?_)
  ·replace hc:=of_decide_eq_true hc
   refine wpIn_skip ?_
   refine hK8 _ _ ?_
   refine al fun K9 hK9=>?_
   refine wpIn_block ?_
   refine al fun K10 hK10=>?_
   refine ae ?_
   refine ac h (ag (h.ev rfl)) rfl ?_;intro f h
   refine ac h (ak (h.ev rfl)) rfl ?_;intro f h
   refine ah ?_
   refine hK10 _ _ ?_
   refine al fun K11 hK11=>?_
   refine bH 9 [[],[],[0,1],[0,1,2],[],[],[4,5],[4,5,6],[0,1,2,3,4,5,6,7]] h (by kernel_rfl) (by kernel_rfl) (by kernel_rfl) ?_
   have hka:k<l.length:=by omega
   have hkb:k<r.length:=by omega
   refine ao h (ag (h.ev rfl)) rfl ?_;intro f h
   refine ao h (ag (h.ev rfl)) rfl ?_;intro f h
   refine ao h (cc (hR.keep s.ext) (k) Tryz.underlying36 cD (h.ev rfl) (h.ev rfl) (by omega) (by omega)) rfl ?_;intro f h
   refine bi ((hR.keep s.ext).el (k) (by omega) (by decide) (D:=av (l.getD k aZ)) (cI l k hka)) h aC rfl (aj _) rfl ?_;intro f h
   refine ao h (ag (h.ev rfl)) rfl ?_;intro f h
   refine ao h (ag (h.ev rfl)) rfl ?_;intro f h
   refine ao h (cc (hS.keep s.ext) (k) Tryz.underlying36 cD (h.ev rfl) (h.ev rfl) (by omega) (by omega)) rfl ?_;intro f h
   refine bi ((hS.keep s.ext).el (k) (by omega) (by decide) (D:=av (r.getD k aZ)) (cI r k hkb)) h aC rfl (aj _) rfl ?_;intro f h
   refine ao h (eh (eo _ _) (by kernel_rfl) (by decide) (h.ev rfl) (h.ev rfl) (decide ((l.getD k aZ)=r.getD k aZ)) (cR _ _)) rfl ?_;intro f h
   refine ck s fun w1 s=>?_
   refine ah ?_
   refine hK11 _ _ ?_
   refine bK h rfl (fun hc=>?_) (fun hc=>?_)
   ·refine al fun K12 hK12=>?_
    refine ae ?_
    refine ac h (ak (h.ev rfl)) rfl ?_;intro f h
    refine ah ?_
    refine hK12 _ _ ?_
    refine wpIn_ret ?_
    refine bQ ?_
    refine aY ?_
    refine aY ?_
    refine bQ ?_
    refine aY ?_
    exact bo rfl h s rfl ((by show _=_;rw [decide_eq_false (fun e=>by subst e;simp at hc)]))
   ·refine wpIn_skip ?_
    refine bF ?_
    refine hK9 _ _ ?_
    refine ae ?_
    refine ac h (ce (h.ev rfl) (h.ev rfl) (by omega)) rfl ?_;intro f h
    refine ac h (ag (h.ev rfl)) rfl ?_;intro f h
    refine ah ?_
    refine bT ?_
    exact ⟨_,by omega,⟨k+1,h.only ⟨rfl,rfl,rfl,rfl,aO rfl (by omega),trivial⟩,St.as s trivial,rfl,by omega,pK hp1 (by simpa using hc)⟩⟩
  ·replace hc:=of_decide_eq_false hc
   refine wpIn_exit ?_
   refine bJ ?_
   refine bJ ?_
   refine cC ?_
   refine hK5 _ _ ?_
   refine al fun K13 hK13=>?_
   refine ae ?_
   refine ac h (ak (h.ev rfl)) rfl ?_;intro f h
   refine ah ?_
   refine hK13 _ _ ?_
   refine wpIn_ret ?_
   exact bo rfl h s rfl ((by show _=_;rw [decide_eq_true (rO hl9 (fun j hj=>hp1 j (by omega)))]))
theorem d6 (m:Mb) (w:World):Calls Tryz.prog 75 [.agg (av m)].toArray w (cU w (is (.bool (dO m)))):=by
 refine bq Tryz.func75 rfl Tryz.ntmps75 rfl [(0,.agg (av m))] (by simp) fun f h=>?_
 have s:=St.start w
 refine al fun K1 hK1=>?_
 refine ae ?_
 refine bV ((av m)) h s rfl rfl rfl ?_;intro f w1 b1 h s
 refine ac h (ak (h.ev rfl)) rfl ?_;intro f h
 refine ah ?_
 refine hK1 _ _ ?_
 refine al fun K2 hK2=>?_
 cases h0:(decide (0≤m.1):Bool)
 ·skip
  refine ae ?_
  refine ac h (ai aH (h.ev rfl)) rfl ?_;intro f h
  refine aq (am (aL.of_own s 0 rfl) 0 (aP _)) h bw rfl rfl ?_;intro f h
  refine ac h (aw (.bool false) (dm (h.ev rfl) (h.ev rfl)) (congrArg Value.bool h0)) rfl ?_;intro f h
  refine ac h (ag (h.ev rfl)) rfl ?_;intro f h
  refine aB (b:=true) h rfl rfl rfl rfl ?_;intro f h
  refine aB (b:=true) h rfl rfl rfl rfl ?_;intro f h
  refine aB (b:=true) h rfl rfl rfl rfl ?_;intro f h
  refine ac h (aF (h.ev rfl) (h.ev rfl)) rfl ?_;intro f h
  refine ac h (ak (h.ev rfl)) rfl ?_;intro f h
  refine ah ?_
  refine hK2 _ _ ?_
  refine wpIn_ret ?_
  exact bo rfl h s rfl (by show _=_;rw [zy h0]<;>rfl)
 ·skip
  refine ae ?_
  refine ac h (ai aH (h.ev rfl)) rfl ?_;intro f h
  refine aq (am (aL.of_own s 0 rfl) 0 (aP _)) h bw rfl rfl ?_;intro f h
  refine ac h (aw (.bool true) (dm (h.ev rfl) (h.ev rfl)) (congrArg Value.bool h0)) rfl ?_;intro f h
  refine ac h (ag (h.ev rfl)) rfl ?_;intro f h
  refine aA h rfl rfl rfl ?_
  refine ac h (ai aH (h.ev rfl)) rfl ?_;intro f h
  refine aA h rfl rfl rfl ?_
  refine aq (am (aL.of_own s 0 rfl) 0 (aP _)) h bw rfl rfl ?_;intro f h
  refine aA h rfl rfl rfl ?_
  refine ac h (aw (.bool (decide (m.1<16))) (gL (h.ev rfl) (h.ev rfl)) (congrArg Value.bool (decide_eq_decide.2 (by omega)))) rfl ?_;intro f h
  refine ac h (aD (h.ev rfl) (h.ev rfl)) rfl ?_;intro f h
  refine ac h (ak (h.ev rfl)) rfl ?_;intro f h
  refine ah ?_
  refine hK2 _ _ ?_
  refine wpIn_ret ?_
  exact bo rfl h s rfl (by show _=_;rw [z8 h0]<;>rfl)
theorem dY (m:Mb) (w:World):Calls Tryz.prog 52 [.agg (av m)].toArray w (cU w (is (.bool (decide (m=dB))))):=by
 refine bq Tryz.func52 rfl Tryz.ntmps52 rfl [(0,.agg (av m))] (by simp) fun f h=>?_
 have s:=St.start w
 refine al fun K1 hK1=>?_
 refine ae ?_
 refine bV ((av m)) h s rfl rfl rfl ?_;intro f w1 b1 h s
 refine ac h (ak (h.ev rfl)) rfl ?_;intro f h
 refine ah ?_
 refine hK1 _ _ ?_
 refine al fun K2 hK2=>?_
 cases h0:(decide (m.1 = -1):Bool)
 ·skip
  refine ae ?_
  refine ac h (ai aH (h.ev rfl)) rfl ?_;intro f h
  refine aq (am (aL.of_own s 0 rfl) 0 (aP _)) h bw rfl rfl ?_;intro f h
  refine ac h (aw (.bool false) (bU (h.ev rfl) (h.ev rfl)) (congrArg Value.bool h0)) rfl ?_;intro f h
  refine ac h (ag (h.ev rfl)) rfl ?_;intro f h
  refine aB (b:=true) h rfl rfl rfl rfl ?_;intro f h
  refine aB (b:=true) h rfl rfl rfl rfl ?_;intro f h
  refine aB (b:=true) h rfl rfl rfl rfl ?_;intro f h
  refine aB (b:=true) h rfl rfl rfl rfl ?_;intro f h
  refine ac h (aF (h.ev rfl) (h.ev rfl)) rfl ?_;intro f h
  refine ac h (ak (h.ev rfl)) rfl ?_;intro f h
  refine ah ?_
  refine hK2 _ _ ?_
  refine wpIn_ret ?_
  exact bo rfl h s rfl (by show _=_;rw [Ba h0])
 ·skip
  refine ae ?_
  refine ac h (ai aH (h.ev rfl)) rfl ?_;intro f h
  refine aq (am (aL.of_own s 0 rfl) 0 (aP _)) h bw rfl rfl ?_;intro f h
  refine ac h (aw (.bool true) (bU (h.ev rfl) (h.ev rfl)) (congrArg Value.bool h0)) rfl ?_;intro f h
  refine ac h (ag (h.ev rfl)) rfl ?_;intro f h
  refine aA h rfl rfl rfl ?_
  refine ac h (ai cj (h.ev rfl)) rfl ?_;intro f h
  refine aA h rfl rfl rfl ?_
  refine ax (aL.subL (aL.of_own s 0 rfl) 1 32 (D:=bO (_)) (cw _)) h cA rfl (by first|exact ba _|exact a6 _ _) rfl ?_;intro f h
  refine aA h rfl rfl rfl ?_
  refine ac h (td g6) rfl ?_;intro f h
  refine aA h rfl rfl rfl ?_
  refine ac h (dN g6 (h.ev rfl) (h.ev rfl)) rfl ?_;intro f h
  refine ac h (aD (h.ev rfl) (h.ev rfl)) rfl ?_;intro f h
  refine ac h (ak (h.ev rfl)) rfl ?_;intro f h
  refine ah ?_
  refine hK2 _ _ ?_
  refine wpIn_ret ?_
  exact bo rfl h s rfl (by show _=_;rw [Aw h0]<;>rfl)
theorem ea (l:List Mb) (vh:Value) (no:Int) (w:World) (hR:bX w vh 33 l.length (ar l)) (hln:l.length≤1000):Calls Tryz.prog 76 [vh,.int .i64 no].toArray w (cU w (is (.bool (iv l no)))):=by
 refine bq Tryz.func76 rfl Tryz.ntmps76 rfl [(0,vh),(1,.int .i64 no)] (by simp) fun f h=>?_
 have s:=St.start w
 refine al fun K1 hK1=>?_
 refine ae ?_
 refine ac h (ak (h.ev rfl)) rfl ?_;intro f h
 refine ah ?_
 refine hK1 _ _ ?_
 refine al fun K2 hK2=>?_
 refine al fun K3 hK3=>?_
 refine ae ?_
 refine ac h (ag (h.ev rfl)) rfl ?_;intro f h
 refine ac h (a8 (hR.keep s.ext) Tryz.underlying36 (h.ev rfl)) rfl ?_;intro f h
 refine ac h (ag (h.ev rfl)) rfl ?_;intro f h
 refine ah ?_
 refine hK3 _ _ ?_
 refine wpIn_block ?_
 refine wpIn_loop_ghost (fun nn aa ww=>∃ k:Nat,Sl 40 aa [(0,vh),(1,.int .i64 no),(9,vh),(10,.int .i64 (l.length:Int)),(11,.int .i64 (k:Int))]∧St w [] ww∧nn=l.length - k∧k≤l.length∧∀ j,j<k→iY l no j=false) (l.length - (0)) ⟨0,h.only ⟨rfl,rfl,rfl,rfl,aO rfl (by omega),trivial⟩,s.as trivial,rfl,Nat.zero_le _,fun j hj=>absurd hj (Nat.not_lt_zero _)⟩ ?_
 rintro _ f w1 ⟨k,h,s,hnn,hp0,hp1⟩
 refine al fun K4 hK4=>?_
 refine ae ?_
 refine ac h (bS (h.ev rfl) (h.ev rfl)) rfl ?_;intro f h
 refine ah ?_
 refine hK4 _ _ ?_
 refine al fun K5 hK5=>?_
 refine bK h rfl (fun hc=>?_) (fun hc=>?_)
 ·replace hc:=of_decide_eq_true hc
  refine wpIn_skip ?_
  refine hK5 _ _ ?_
  refine al fun K6 hK6=>?_
  refine wpIn_block ?_
  refine al fun K7 hK7=>?_
  refine ae ?_
  refine ac h (ag (h.ev rfl)) rfl ?_;intro f h
  have hkl:k<l.length:=by omega
  refine ac h (cc (hR.keep s.ext) (k) Tryz.underlying36 cD (h.ev rfl) (h.ev rfl) (by omega) (by omega)) rfl ?_;intro f h
  refine ax ((hR.keep s.ext).el (k) (by omega) (by decide) (D:=av (l.getD k aZ)) (cI l k hkl)) h aC rfl (aj _) rfl ?_;intro f h
  refine bf (av aZ) h s cB rfl rfl ?_;intro f w1 b6 h s
  refine ac h (ak (h.ev rfl)) rfl ?_;intro f h
  refine az 0 h s aC rfl rfl rfl (aj _) (aj _) (aS _) ?_;intro w1 s
  refine ah ?_
  refine hK7 _ _ ?_
  refine al fun K8 hK8=>?_
  refine al fun K9 hK9=>?_
  cases k0:(dO (l.getD k aZ):Bool)
  ·skip
   refine ae ?_
   refine au 0 h s aC rfl rfl (aj _) rfl ?_;intro f h
   refine aI h s ic (aM (.bool false) (d6 (l.getD k aZ) _) (congrArg Value.bool k0)) rfl rfl ?_;intro f w1 v9 hT hE h s;obtain rfl:=hT
   refine ac h (aw (.bool true) (bB (h.ev rfl)) rfl) rfl ?_;intro f h
   refine ac h (ag (h.ev rfl)) rfl ?_;intro f h
   refine aB (b:=false) h rfl rfl rfl rfl ?_;intro f h
   refine aB (b:=false) h rfl rfl rfl rfl ?_;intro f h
   refine aB (b:=false) h rfl rfl rfl rfl ?_;intro f h
   refine aB (b:=false) h rfl rfl rfl rfl ?_;intro f h
   refine ac h (aD (h.ev rfl) (h.ev rfl)) rfl ?_;intro f h
   refine ah ?_
   refine hK9 _ _ ?_
   refine wpIn_cond_true (h.ev rfl) ?_
   refine al fun K10 hK10=>?_
   refine ae ?_
   refine ac h (ak (h.ev rfl)) rfl ?_;intro f h
   refine ah ?_
   refine hK10 _ _ ?_
   refine wpIn_ret ?_
   refine aY ?_
   refine bQ ?_
   refine aY ?_
   refine aY ?_
   refine bQ ?_
   refine aY ?_
   exact bo rfl h s rfl (by show _=_;rw [gj hkl (xj k0)])
  ·skip
   cases k1:(decide ((l.getD k aZ).1=no):Bool)
   ·skip
    refine ae ?_
    refine au 0 h s aC rfl rfl (aj _) rfl ?_;intro f h
    refine aI h s ic (aM (.bool true) (d6 (l.getD k aZ) _) (congrArg Value.bool k0)) rfl rfl ?_;intro f w1 v9 hT hE h s;obtain rfl:=hT
    refine ac h (aw (.bool false) (bB (h.ev rfl)) rfl) rfl ?_;intro f h
    refine ac h (ag (h.ev rfl)) rfl ?_;intro f h
    refine aA h rfl rfl rfl ?_
    refine ac h (ai aH (h.ev rfl)) rfl ?_;intro f h
    refine aA h rfl rfl rfl ?_
    refine aq (am (aL.of_own s 0 rfl) 0 (aP _)) h bw rfl rfl ?_;intro f h
    refine aA h rfl rfl rfl ?_
    refine ac h (ag (h.ev rfl)) rfl ?_;intro f h
    refine aA h rfl rfl rfl ?_
    refine ac h (aw (.bool false) (bU (h.ev rfl) (h.ev rfl)) (congrArg Value.bool k1)) rfl ?_;intro f h
    refine ac h (aF (h.ev rfl) (h.ev rfl)) rfl ?_;intro f h
    refine ah ?_
    refine hK9 _ _ ?_
    refine wpIn_cond_false (h.ev rfl) ?_
    refine wpIn_skip ?_
    refine hK8 _ _ ?_
    refine al fun K11 hK11=>?_
    refine ae ?_
    have hq1:=hp1
    have hlt9:(l.take k).length=k:=by rw [List.length_take];omega
    refine ac h (ag (h.ev rfl)) rfl ?_;intro f h
    refine ac h (ag (h.ev rfl)) rfl ?_;intro f h
    refine ac h (dG (hR.keep s.ext) (k) Tryz.underlying36 cD (h.ev rfl) (h.ev rfl) (rfl) (by omega)) rfl ?_;intro f h
    refine ac h (a8 ((fc hR k (by omega)).keep s.ext) Tryz.underlying36 (h.ev rfl)) rfl ?_;intro f h
    refine ac h (ag (h.ev rfl)) rfl ?_;intro f h
    refine ah ?_
    refine hK11 _ _ ?_
    refine wpIn_block ?_
    refine wpIn_loop_ghost (fun nn aa ww=>∃ j:Nat,Sl 40 aa [(0,vh),(1,.int .i64 no),(6,.pointer (some ⟨b6,0,none⟩)),(9,vh),(10,.int .i64 (l.length:Int)),(11,.int .i64 (k:Int)),(27,gn vh k),(28,.int .i64 ((l.take k).length:Int)),(29,.int .i64 (j:Int))]∧St w [.blk b6 (.cells (av (l.getD k aZ)) 28)] ww∧nn=k - j∧j≤k∧∀ i,i<j→decide ((l.getD i aZ).1=(l.getD k aZ).1)=false) (k - (0)) ⟨0,h.only ⟨rfl,rfl,rfl,rfl,rfl,rfl,rfl,rfl,aO rfl (by omega),trivial⟩,s.as ⟨rfl,trivial⟩,rfl,Nat.zero_le _,fun j hj=>absurd hj (Nat.not_lt_zero _)⟩ ?_
    rintro _ f w1 ⟨j,h,s,hnn,hp0,hp1⟩
    refine al fun K12 hK12=>?_
    refine ae ?_
    refine ac h (bS (h.ev rfl) (h.ev rfl)) rfl ?_;intro f h
    refine ah ?_
    refine hK12 _ _ ?_
    refine al fun K13 hK13=>?_
    refine bK h rfl (fun hc=>?_) (fun hc=>?_)
    ·replace hc:=of_decide_eq_true hc
     refine wpIn_skip ?_
     refine hK13 _ _ ?_
     refine al fun K14 hK14=>?_
     refine wpIn_block ?_
     refine al fun K15 hK15=>?_
     refine ae ?_
     have hjk:j<k:=by omega
     refine ac h (cc ((fc hR k (by omega)).keep s.ext) (j) Tryz.underlying36 cD (h.ev rfl) (h.ev rfl) (by omega) (by omega)) rfl ?_;intro f h
     refine ax (((fc hR k (by omega)).keep s.ext).el (j) (by omega) (by decide) (D:=av (l.getD j aZ)) (wC l hjk (by omega))) h aC rfl (aj _) rfl ?_;intro f h
     refine bf (av aZ) h s cB rfl rfl ?_;intro f w1 b8 h s
     refine az 0 h s aC rfl rfl rfl (aj _) (aj _) (aS _) ?_;intro w1 s
     refine ah ?_
     refine hK15 _ _ ?_
     refine al fun K16 hK16=>?_
     refine ae ?_
     refine ac h (ai aH (h.ev rfl)) rfl ?_;intro f h
     refine aq (am (aL.of_own s 0 rfl) 0 (aP _)) h bw rfl rfl ?_;intro f h
     refine ac h (ai aH (h.ev rfl)) rfl ?_;intro f h
     refine aq (am (aL.of_own s 1 rfl) 0 (aP _)) h bw rfl rfl ?_;intro f h
     refine ac h (bU (h.ev rfl) (h.ev rfl)) rfl ?_;intro f h
     refine ah ?_
     refine hK16 _ _ ?_
     refine bK h rfl (fun hc=>?_) (fun hc=>?_)
     ·refine al fun K17 hK17=>?_
      refine ae ?_
      refine ac h (ak (h.ev rfl)) rfl ?_;intro f h
      refine ah ?_
      refine hK17 _ _ ?_
      refine wpIn_ret ?_
      refine bQ ?_
      refine aY ?_
      refine aY ?_
      refine bQ ?_
      refine bQ ?_
      refine aY ?_
      refine aY ?_
      refine bQ ?_
      refine aY ?_
      exact bo rfl h s rfl (by show _=_;rw [gj hkl ((nB k0 k1).trans (ke (p:=fun x=>decide (x.1=(l.getD k aZ).1)) (by omega) hjk hc))])
     ·refine wpIn_skip ?_
      refine bF ?_
      refine hK14 _ _ ?_
      refine ae ?_
      refine ac h (ce (h.ev rfl) (h.ev rfl) (by omega)) rfl ?_;intro f h
      refine ac h (ag (h.ev rfl)) rfl ?_;intro f h
      refine ah ?_
      refine bT ?_
      exact ⟨_,by omega,⟨j+1,h.only ⟨rfl,rfl,rfl,rfl,rfl,rfl,rfl,rfl,aO rfl (by omega),trivial⟩,St.as (s.pick _ (List.sublist_append_right [_] _)) ⟨rfl,trivial⟩,rfl,by omega,de (q:=fun i=>decide ((l.getD i aZ).1=(l.getD k aZ).1)) hp1 hc⟩⟩
    ·replace hc:=of_decide_eq_false hc
     refine wpIn_exit ?_
     refine bJ ?_
     refine bJ ?_
     refine cC ?_
     refine bF ?_
     refine hK6 _ _ ?_
     refine ae ?_
     refine ac h (ce (h.ev rfl) (h.ev rfl) (by omega)) rfl ?_;intro f h
     refine ac h (ag (h.ev rfl)) rfl ?_;intro f h
     refine ah ?_
     refine bT ?_
     have hb9:iY l no k=false:=(nB k0 k1).trans (pU (p:=fun x=>decide (x.1=(l.getD k aZ).1)) (by omega) (fun i hi=>hp1 i (by omega)))
     exact ⟨_,by omega,⟨k+1,h.only ⟨rfl,rfl,rfl,rfl,aO rfl (by omega),trivial⟩,St.as (s.pick _ (List.sublist_append_right [_] _)) trivial,rfl,by omega,de hq1 hb9⟩⟩
   ·skip
    refine ae ?_
    refine au 0 h s aC rfl rfl (aj _) rfl ?_;intro f h
    refine aI h s ic (aM (.bool true) (d6 (l.getD k aZ) _) (congrArg Value.bool k0)) rfl rfl ?_;intro f w1 v9 hT hE h s;obtain rfl:=hT
    refine ac h (aw (.bool false) (bB (h.ev rfl)) rfl) rfl ?_;intro f h
    refine ac h (ag (h.ev rfl)) rfl ?_;intro f h
    refine aA h rfl rfl rfl ?_
    refine ac h (ai aH (h.ev rfl)) rfl ?_;intro f h
    refine aA h rfl rfl rfl ?_
    refine aq (am (aL.of_own s 0 rfl) 0 (aP _)) h bw rfl rfl ?_;intro f h
    refine aA h rfl rfl rfl ?_
    refine ac h (ag (h.ev rfl)) rfl ?_;intro f h
    refine aA h rfl rfl rfl ?_
    refine ac h (aw (.bool true) (bU (h.ev rfl) (h.ev rfl)) (congrArg Value.bool k1)) rfl ?_;intro f h
    refine ac h (aF (h.ev rfl) (h.ev rfl)) rfl ?_;intro f h
    refine ah ?_
    refine hK9 _ _ ?_
    refine wpIn_cond_true (h.ev rfl) ?_
    refine al fun K18 hK18=>?_
    refine ae ?_
    refine ac h (ak (h.ev rfl)) rfl ?_;intro f h
    refine ah ?_
    refine hK18 _ _ ?_
    refine wpIn_ret ?_
    refine aY ?_
    refine bQ ?_
    refine aY ?_
    refine aY ?_
    refine bQ ?_
    refine aY ?_
    exact bo rfl h s rfl (by show _=_;rw [gj hkl (vV k1)])
 ·replace hc:=of_decide_eq_false hc
  refine wpIn_exit ?_
  refine bJ ?_
  refine bJ ?_
  refine cC ?_
  refine hK2 _ _ ?_
  refine al fun K19 hK19=>?_
  refine ae ?_
  refine ac h (ak (h.ev rfl)) rfl ?_;intro f h
  refine ah ?_
  refine hK19 _ _ ?_
  refine wpIn_ret ?_
  exact bo rfl h s rfl (by show _=_;rw [pv (by omega) hp1])
theorem pJ (a b:Nd) (u1 u2 v1 v2:Value) (w:World) (hA1:bX w u1 33 a.sc.length (ar a.sc)) (hA2:bX w u2 33 a.fg.length (ar a.fg)) (hB1:bX w v1 33 b.sc.length (ar b.sc)) (hB2:bX w v2 33 b.fg.length (ar b.fg)) (ha1:a.sc.length≤1000) (ha2:a.fg.length≤1000) (hb1:b.sc.length≤1000) (hb2:b.fg.length≤1000):Calls Tryz.prog 67 [.agg (ay a.me a.pr u1 u2),.agg (ay b.me b.pr v1 v2)].toArray w (cU w (is (.bool (eP a b)))):=by
 refine bq Tryz.func67 rfl Tryz.ntmps67 rfl [(0,.agg (ay a.me a.pr u1 u2)),(1,.agg (ay b.me b.pr v1 v2))] (by simp) fun f h=>?_
 have s:=St.start w
 refine al fun K1 hK1=>?_
 refine ae ?_
 refine bV (ay a.me a.pr u1 u2) h s rfl rfl rfl ?_;intro f w1 b2 h s
 refine bV (ay b.me b.pr v1 v2) h s rfl rfl rfl ?_;intro f w1 b3 h s
 refine ac h (ak (h.ev rfl)) rfl ?_;intro f h
 refine ah ?_
 refine hK1 _ _ ?_
 refine al fun K2 hK2=>?_
 cases e0:(decide (a.me=b.me):Bool)
 ·skip
  refine ae ?_
  refine ac h (ai aK (h.ev rfl)) rfl ?_;intro f h
  refine ax (aL.subL (aL.of_own s 1 rfl) 0 33 (D:=av a.me) (bj _ _ _ _)) h aC rfl (aj _) rfl ?_;intro f h
  refine ac h (ai aK (h.ev rfl)) rfl ?_;intro f h
  refine ax (aL.subL (aL.of_own s 0 rfl) 0 33 (D:=av b.me) (bj _ _ _ _)) h aC rfl (aj _) rfl ?_;intro f h
  refine ac h (aw (.bool false) (bW (eo _ _) (by kernel_rfl) (by decide) (h.ev rfl) (h.ev rfl) (decide (a.me=b.me)) (cR _ _)) (congrArg Value.bool e0)) rfl ?_;intro f h
  refine ac h (ag (h.ev rfl)) rfl ?_;intro f h
  refine aB (b:=true) h rfl rfl rfl rfl ?_;intro f h
  refine aB (b:=true) h rfl rfl rfl rfl ?_;intro f h
  refine aB (b:=true) h rfl rfl rfl rfl ?_;intro f h
  refine aB (b:=true) h rfl rfl rfl rfl ?_;intro f h
  refine aB (b:=true) h rfl rfl rfl rfl ?_;intro f h
  refine ac h (aF (h.ev rfl) (h.ev rfl)) rfl ?_;intro f h
  refine ac h (ag (h.ev rfl)) rfl ?_;intro f h
  refine aB (b:=true) h rfl rfl rfl rfl ?_;intro f h
  refine aB (b:=true) h rfl rfl rfl rfl ?_;intro f h
  refine aB (b:=true) h rfl rfl rfl rfl ?_;intro f h
  refine aB (b:=true) h rfl rfl rfl rfl ?_;intro f h
  refine aB (b:=true) h rfl rfl rfl rfl ?_;intro f h
  refine ac h (aF (h.ev rfl) (h.ev rfl)) rfl ?_;intro f h
  refine ac h (ag (h.ev rfl)) rfl ?_;intro f h
  refine aB (b:=true) h rfl rfl rfl rfl ?_;intro f h
  refine aB (b:=true) h rfl rfl rfl rfl ?_;intro f h
  refine aB (b:=true) h rfl rfl rfl rfl ?_;intro f h
  refine aB (b:=true) h rfl rfl rfl rfl ?_;intro f h
  refine aB (b:=true) h rfl rfl rfl rfl ?_;intro f h
  refine ac h (aF (h.ev rfl) (h.ev rfl)) rfl ?_;intro f h
  refine ac h (ak (h.ev rfl)) rfl ?_;intro f h
  refine ah ?_
  refine hK2 _ _ ?_
  refine wpIn_ret ?_
  exact bo rfl h s rfl (by show _=_;rw [D4 e0])
 ·skip
  cases e1:(decide (a.pr=b.pr):Bool)
  ·skip
   refine ae ?_
   refine ac h (ai aK (h.ev rfl)) rfl ?_;intro f h
   refine ax (aL.subL (aL.of_own s 1 rfl) 0 33 (D:=av a.me) (bj _ _ _ _)) h aC rfl (aj _) rfl ?_;intro f h
   refine ac h (ai aK (h.ev rfl)) rfl ?_;intro f h
   refine ax (aL.subL (aL.of_own s 0 rfl) 0 33 (D:=av b.me) (bj _ _ _ _)) h aC rfl (aj _) rfl ?_;intro f h
   refine ac h (aw (.bool true) (bW (eo _ _) (by kernel_rfl) (by decide) (h.ev rfl) (h.ev rfl) (decide (a.me=b.me)) (cR _ _)) (congrArg Value.bool e0)) rfl ?_;intro f h
   refine ac h (ag (h.ev rfl)) rfl ?_;intro f h
   refine aA h rfl rfl rfl ?_
   refine ac h (ai aV (h.ev rfl)) rfl ?_;intro f h
   refine aA h rfl rfl rfl ?_
   refine ax (aL.subL (aL.of_own s 1 rfl) 33 33 (D:=av a.pr) (bc _ _ _ _)) h aC rfl (aj _) rfl ?_;intro f h
   refine aA h rfl rfl rfl ?_
   refine ac h (ai aV (h.ev rfl)) rfl ?_;intro f h
   refine aA h rfl rfl rfl ?_
   refine ax (aL.subL (aL.of_own s 0 rfl) 33 33 (D:=av b.pr) (bc _ _ _ _)) h aC rfl (aj _) rfl ?_;intro f h
   refine aA h rfl rfl rfl ?_
   refine ac h (aw (.bool false) (bW (eo _ _) (by kernel_rfl) (by decide) (h.ev rfl) (h.ev rfl) (decide (a.pr=b.pr)) (cR _ _)) (congrArg Value.bool e1)) rfl ?_;intro f h
   refine ac h (aD (h.ev rfl) (h.ev rfl)) rfl ?_;intro f h
   refine ac h (ag (h.ev rfl)) rfl ?_;intro f h
   refine aB (b:=true) h rfl rfl rfl rfl ?_;intro f h
   refine aB (b:=true) h rfl rfl rfl rfl ?_;intro f h
   refine aB (b:=true) h rfl rfl rfl rfl ?_;intro f h
   refine aB (b:=true) h rfl rfl rfl rfl ?_;intro f h
   refine aB (b:=true) h rfl rfl rfl rfl ?_;intro f h
   refine ac h (aF (h.ev rfl) (h.ev rfl)) rfl ?_;intro f h
   refine ac h (ag (h.ev rfl)) rfl ?_;intro f h
   refine aB (b:=true) h rfl rfl rfl rfl ?_;intro f h
   refine aB (b:=true) h rfl rfl rfl rfl ?_;intro f h
   refine aB (b:=true) h rfl rfl rfl rfl ?_;intro f h
   refine aB (b:=true) h rfl rfl rfl rfl ?_;intro f h
   refine aB (b:=true) h rfl rfl rfl rfl ?_;intro f h
   refine ac h (aF (h.ev rfl) (h.ev rfl)) rfl ?_;intro f h
   refine ac h (ak (h.ev rfl)) rfl ?_;intro f h
   refine ah ?_
   refine hK2 _ _ ?_
   refine wpIn_ret ?_
   exact bo rfl h s rfl (by show _=_;rw [DJ e1])
  ·skip
   cases e2:(decide (a.sc=b.sc):Bool)
   ·skip
    refine ae ?_
    refine ac h (ai aK (h.ev rfl)) rfl ?_;intro f h
    refine ax (aL.subL (aL.of_own s 1 rfl) 0 33 (D:=av a.me) (bj _ _ _ _)) h aC rfl (aj _) rfl ?_;intro f h
    refine ac h (ai aK (h.ev rfl)) rfl ?_;intro f h
    refine ax (aL.subL (aL.of_own s 0 rfl) 0 33 (D:=av b.me) (bj _ _ _ _)) h aC rfl (aj _) rfl ?_;intro f h
    refine ac h (aw (.bool true) (bW (eo _ _) (by kernel_rfl) (by decide) (h.ev rfl) (h.ev rfl) (decide (a.me=b.me)) (cR _ _)) (congrArg Value.bool e0)) rfl ?_;intro f h
    refine ac h (ag (h.ev rfl)) rfl ?_;intro f h
    refine aA h rfl rfl rfl ?_
    refine ac h (ai aV (h.ev rfl)) rfl ?_;intro f h
    refine aA h rfl rfl rfl ?_
    refine ax (aL.subL (aL.of_own s 1 rfl) 33 33 (D:=av a.pr) (bc _ _ _ _)) h aC rfl (aj _) rfl ?_;intro f h
    refine aA h rfl rfl rfl ?_
    refine ac h (ai aV (h.ev rfl)) rfl ?_;intro f h
    refine aA h rfl rfl rfl ?_
    refine ax (aL.subL (aL.of_own s 0 rfl) 33 33 (D:=av b.pr) (bc _ _ _ _)) h aC rfl (aj _) rfl ?_;intro f h
    refine aA h rfl rfl rfl ?_
    refine ac h (aw (.bool true) (bW (eo _ _) (by kernel_rfl) (by decide) (h.ev rfl) (h.ev rfl) (decide (a.pr=b.pr)) (cR _ _)) (congrArg Value.bool e1)) rfl ?_;intro f h
    refine ac h (aD (h.ev rfl) (h.ev rfl)) rfl ?_;intro f h
    refine ac h (ag (h.ev rfl)) rfl ?_;intro f h
    refine aA h rfl rfl rfl ?_
    refine ac h (ai bC (h.ev rfl)) rfl ?_;intro f h
    refine aA h rfl rfl rfl ?_
    refine aq (V:=u1) (am (aL.of_own s 1 rfl) 66 (bA _ _ _ _)) h bE rfl rfl ?_;intro f h
    refine aA h rfl rfl rfl ?_
    refine ac h (ai bC (h.ev rfl)) rfl ?_;intro f h
    refine aA h rfl rfl rfl ?_
    refine aq (V:=v1) (am (aL.of_own s 0 rfl) 66 (bA _ _ _ _)) h bE rfl rfl ?_;intro f h
    refine aA h rfl rfl rfl ?_
    refine aI h s wH (aM (.bool false) (lZ a.sc b.sc u1 v1 _ (hA1.keep s.ext) (hB1.keep s.ext) ha1 hb1) (congrArg Value.bool e2)) rfl rfl ?_;intro f w1 v9 hT hE h s;obtain rfl:=hT
    refine ac h (aD (h.ev rfl) (h.ev rfl)) rfl ?_;intro f h
    refine ac h (ag (h.ev rfl)) rfl ?_;intro f h
    refine aB (b:=true) h rfl rfl rfl rfl ?_;intro f h
    refine aB (b:=true) h rfl rfl rfl rfl ?_;intro f h
    refine aB (b:=true) h rfl rfl rfl rfl ?_;intro f h
    refine aB (b:=true) h rfl rfl rfl rfl ?_;intro f h
    refine aB (b:=true) h rfl rfl rfl rfl ?_;intro f h
    refine ac h (aF (h.ev rfl) (h.ev rfl)) rfl ?_;intro f h
    refine ac h (ak (h.ev rfl)) rfl ?_;intro f h
    refine ah ?_
    refine hK2 _ _ ?_
    refine wpIn_ret ?_
    exact bo rfl h s rfl (by show _=_;rw [Ds e2])
   ·skip
    refine ae ?_
    refine ac h (ai aK (h.ev rfl)) rfl ?_;intro f h
    refine ax (aL.subL (aL.of_own s 1 rfl) 0 33 (D:=av a.me) (bj _ _ _ _)) h aC rfl (aj _) rfl ?_;intro f h
    refine ac h (ai aK (h.ev rfl)) rfl ?_;intro f h
    refine ax (aL.subL (aL.of_own s 0 rfl) 0 33 (D:=av b.me) (bj _ _ _ _)) h aC rfl (aj _) rfl ?_;intro f h
    refine ac h (aw (.bool true) (bW (eo _ _) (by kernel_rfl) (by decide) (h.ev rfl) (h.ev rfl) (decide (a.me=b.me)) (cR _ _)) (congrArg Value.bool e0)) rfl ?_;intro f h
    refine ac h (ag (h.ev rfl)) rfl ?_;intro f h
    refine aA h rfl rfl rfl ?_
    refine ac h (ai aV (h.ev rfl)) rfl ?_;intro f h
    refine aA h rfl rfl rfl ?_
    refine ax (aL.subL (aL.of_own s 1 rfl) 33 33 (D:=av a.pr) (bc _ _ _ _)) h aC rfl (aj _) rfl ?_;intro f h
    refine aA h rfl rfl rfl ?_
    refine ac h (ai aV (h.ev rfl)) rfl ?_;intro f h
    refine aA h rfl rfl rfl ?_
    refine ax (aL.subL (aL.of_own s 0 rfl) 33 33 (D:=av b.pr) (bc _ _ _ _)) h aC rfl (aj _) rfl ?_;intro f h
    refine aA h rfl rfl rfl ?_
    refine ac h (aw (.bool true) (bW (eo _ _) (by kernel_rfl) (by decide) (h.ev rfl) (h.ev rfl) (decide (a.pr=b.pr)) (cR _ _)) (congrArg Value.bool e1)) rfl ?_;intro f h
    refine ac h (aD (h.ev rfl) (h.ev rfl)) rfl ?_;intro f h
    refine ac h (ag (h.ev rfl)) rfl ?_;intro f h
    refine aA h rfl rfl rfl ?_
    refine ac h (ai bC (h.ev rfl)) rfl ?_;intro f h
    refine aA h rfl rfl rfl ?_
    refine aq (V:=u1) (am (aL.of_own s 1 rfl) 66 (bA _ _ _ _)) h bE rfl rfl ?_;intro f h
    refine aA h rfl rfl rfl ?_
    refine ac h (ai bC (h.ev rfl)) rfl ?_;intro f h
    refine aA h rfl rfl rfl ?_
    refine aq (V:=v1) (am (aL.of_own s 0 rfl) 66 (bA _ _ _ _)) h bE rfl rfl ?_;intro f h
    refine aA h rfl rfl rfl ?_
    refine aI h s wH (aM (.bool true) (lZ a.sc b.sc u1 v1 _ (hA1.keep s.ext) (hB1.keep s.ext) ha1 hb1) (congrArg Value.bool e2)) rfl rfl ?_;intro f w1 v9 hT hE h s;obtain rfl:=hT
    refine ac h (aD (h.ev rfl) (h.ev rfl)) rfl ?_;intro f h
    refine ac h (ag (h.ev rfl)) rfl ?_;intro f h
    refine aA h rfl rfl rfl ?_
    refine ac h (ai cP (h.ev rfl)) rfl ?_;intro f h
    refine aA h rfl rfl rfl ?_
    refine aq (V:=u2) (am (aL.of_own s 1 rfl) 67 (cO _ _ _ _)) h bE rfl rfl ?_;intro f h
    refine aA h rfl rfl rfl ?_
    refine ac h (ai cP (h.ev rfl)) rfl ?_;intro f h
    refine aA h rfl rfl rfl ?_
    refine aq (V:=v2) (am (aL.of_own s 0 rfl) 67 (cO _ _ _ _)) h bE rfl rfl ?_;intro f h
    refine aA h rfl rfl rfl ?_
    refine aI h s wH (lZ a.fg b.fg u2 v2 _ (hA2.keep s.ext) (hB2.keep s.ext) ha2 hb2) rfl rfl ?_;intro f w1 v9 hT hE h s;obtain rfl:=hT
    refine ac h (aD (h.ev rfl) (h.ev rfl)) rfl ?_;intro f h
    refine ac h (ak (h.ev rfl)) rfl ?_;intro f h
    refine ah ?_
    refine hK2 _ _ ?_
    refine wpIn_ret ?_
    exact bo rfl h s rfl (by show _=_;rw [DF e0 e1 e2])
theorem nj (L K:List N3) (vo vp:Value) (w:World) (hO:eN w vo L) (hL:L.length≤40) (hP:eN w vp K) (hK:K.length≤40) (hbL:RwB L) (hbK:RwB K):Calls Tryz.prog 32 [.agg #[vo],.agg #[vp]].toArray w (cU w (is (.bool (mv (nds L) (nds K))))):=by
 refine bq Tryz.func32 rfl Tryz.ntmps32 rfl [(0,.agg #[vo]),(1,.agg #[vp])] (by simp) fun f h=>?_
 have s:=St.start w
 refine al fun K1 hK1=>?_
 refine ae ?_
 refine bV (#[vo]) h s rfl rfl rfl ?_;intro f w1 b2 h s
 refine bV (#[vp]) h s rfl rfl rfl ?_;intro f w1 b3 h s
 refine ac h (ak (h.ev rfl)) rfl ?_;intro f h
 refine ah ?_
 refine hK1 _ _ ?_
 refine al fun K2 hK2=>?_
 refine al fun K3 hK3=>?_
 refine ae ?_
 refine ac h (ai cp (h.ev rfl)) rfl ?_;intro f h
 refine aq (V:=vo) (am (aL.of_own s 1 rfl) 0 rfl) h da rfl rfl ?_;intro f h
 refine ac h (a8 (hO.1.keep s.ext) Tryz.underlying22 (h.ev rfl)) rfl ?_;intro f h
 refine ac h (ai cp (h.ev rfl)) rfl ?_;intro f h
 refine aq (V:=vp) (am (aL.of_own s 0 rfl) 0 rfl) h da rfl rfl ?_;intro f h
 refine ac h (a8 (hP.1.keep s.ext) Tryz.underlying22 (h.ev rfl)) rfl ?_;intro f h
 refine ac h (cy (h.ev rfl) (h.ev rfl)) rfl ?_;intro f h
 refine ah ?_
 refine hK3 _ _ ?_
 refine bK h rfl (fun hc=>?_) (fun hc=>?_)
 ·have hne:¬ (nds L).length=(nds K).length:=by rw [List.length_map,List.length_map];intro e9;exact(of_decide_eq_true hc) (by omega)
  refine al fun K4 hK4=>?_
  refine ae ?_
  refine ac h (ak (h.ev rfl)) rfl ?_;intro f h
  refine ah ?_
  refine hK4 _ _ ?_
  refine wpIn_ret ?_
  refine aY ?_
  exact bo rfl h s rfl (by show _=_;rw [tB hne])
 ·have hle:L.length=K.length:=by have:=of_decide_eq_false hc;omega
  refine wpIn_skip ?_
  refine hK2 _ _ ?_
  refine al fun K5 hK5=>?_
  refine al fun K6 hK6=>?_
  refine ae ?_
  refine ac h (ai cp (h.ev rfl)) rfl ?_;intro f h
  refine aq (V:=vo) (am (aL.of_own s 1 rfl) 0 rfl) h da rfl rfl ?_;intro f h
  refine ac h (a8 (hO.1.keep s.ext) Tryz.underlying22 (h.ev rfl)) rfl ?_;intro f h
  refine ac h (ag (h.ev rfl)) rfl ?_;intro f h
  refine ah ?_
  refine hK6 _ _ ?_
  refine wpIn_block ?_
  refine wpIn_loop_ghost (fun nn aa ww=>∃ k:Nat,Sl 32 aa [(0,.agg #[vo]),(1,.agg #[vp]),(2,.pointer (some ⟨b2,0,none⟩)),(3,.pointer (some ⟨b3,0,none⟩)),(15,.int .i64 (L.length:Int)),(16,.int .i64 (k:Int))]∧St w [.blk b3 (.cells (#[vp]) 24),.blk b2 (.cells (#[vo]) 24)] ww∧nn=L.length - k∧k≤L.length∧∀ j,j<k→eP (L.getD j z3).1 (K.getD j z3).1=true) (L.length - (0)) ⟨0,h.only ⟨rfl,rfl,rfl,rfl,rfl,aO rfl (by omega),trivial⟩,s.as ⟨rfl,rfl,trivial⟩,rfl,Nat.zero_le _,fun j hj=>absurd hj (Nat.not_lt_zero _)⟩ ?_
  rintro _ f w1 ⟨k,h,s,hnn,hp0,hp1⟩
  refine al fun K7 hK7=>?_
  refine ae ?_
  refine ac h (bS (h.ev rfl) (h.ev rfl)) rfl ?_;intro f h
  refine ah ?_
  refine hK7 _ _ ?_
  refine al fun K8 hK8=>?_
  refine bK h rfl (fun hc=>?_) (fun hc=>?_)
  ·replace hc:=of_decide_eq_true hc
   refine wpIn_skip ?_
   refine hK8 _ _ ?_
   refine al fun K9 hK9=>?_
   refine wpIn_block ?_
   refine al fun K10 hK10=>?_
   refine ae ?_
   have hkl:k<L.length:=by omega
   have hkk:k<K.length:=by omega
   have hx9:=hbL.each _ (bu hkl)
   have hy9:=hbK.each _ (bu hkk)
   refine ac h (ag (h.ev rfl)) rfl ?_;intro f h
   refine ac h (ak (h.ev rfl)) rfl ?_;intro f h
   refine ah ?_
   refine hK10 _ _ ?_
   refine al fun K11 hK11=>?_
   cases hl9:(eP (L.getD k z3).1 (K.getD k z3).1:Bool)
   ·skip
    refine bH 12 [[],[0],[],[0,1,2],[0,1,2,3],[],[5],[],[5,6,7],[5,6,7,8],[0,1,2,3,4,5,6,7,8,9],[0,1,2,3,4,5,6,7,8,9,10]] h (by kernel_rfl) (by kernel_rfl) (by kernel_rfl) ?_
    refine ao h (ai cp (h.ev rfl)) rfl ?_;intro f h
    refine aU (V:=vo) (am (aL.of_own s 1 rfl) 0 rfl) h da rfl rfl ?_;intro f h
    refine ao h (ag (h.ev rfl)) rfl ?_;intro f h
    refine ao h (cc (hO.1.keep s.ext) (k) Tryz.underlying22 eA (h.ev rfl) (h.ev rfl) (rfl) (by omega)) rfl ?_;intro f h
    refine bi ((hO.1.keep s.ext).el (k) (by omega) (by decide) (D:=ay (L.getD k z3).1.me (L.getD k z3).1.pr (L.getD k z3).2.1 (L.getD k z3).2.2) (df L k hkl)) h aW rfl (ap _ _ _ _) rfl ?_;intro f h
    refine ao h (ai cp (h.ev rfl)) rfl ?_;intro f h
    refine aU (V:=vp) (am (aL.of_own s 0 rfl) 0 rfl) h da rfl rfl ?_;intro f h
    refine ao h (ag (h.ev rfl)) rfl ?_;intro f h
    refine ao h (cc (hP.1.keep s.ext) (k) Tryz.underlying22 eA (h.ev rfl) (h.ev rfl) (rfl) (by omega)) rfl ?_;intro f h
    refine bi ((hP.1.keep s.ext).el (k) (by omega) (by decide) (D:=ay (K.getD k z3).1.me (K.getD k z3).1.pr (K.getD k z3).2.1 (K.getD k z3).2.2) (df K k hkk)) h aW rfl (ap _ _ _ _) rfl ?_;intro f h
    refine cn h zn (fun w9 hE9=>aM (.bool false) (pJ (L.getD k z3).1 (K.getD k z3).1 (L.getD k z3).2.1 (L.getD k z3).2.2 (K.getD k z3).2.1 (K.getD k z3).2.2 w9 (((hO.2 _ (bu hkl)).1).keep (s.ext.trans hE9)) (((hO.2 _ (bu hkl)).2).keep (s.ext.trans hE9)) (((hP.2 _ (bu hkk)).1).keep (s.ext.trans hE9)) (((hP.2 _ (bu hkk)).2).keep (s.ext.trans hE9)) (by omega) (by omega) (by omega) (by omega)) (congrArg Value.bool hl9)) rfl rfl ?_;intro f h
    refine ao h (aw (.bool true) (bB (h.ev rfl)) rfl) rfl ?_;intro f h
    refine ck s fun w1 s=>?_
    refine ah ?_
    refine hK11 _ _ ?_
    refine wpIn_cond_true (h.ev rfl) ?_
    refine al fun K12 hK12=>?_
    refine ae ?_
    refine ac h (ak (h.ev rfl)) rfl ?_;intro f h
    refine ah ?_
    refine hK12 _ _ ?_
    refine wpIn_ret ?_
    refine bQ ?_
    refine aY ?_
    refine aY ?_
    refine bQ ?_
    refine aY ?_
    exact bo rfl h s rfl (by show _=_;rw [w8 hkl hkk hl9])
   ·skip
    refine bH 12 [[],[0],[],[0,1,2],[0,1,2,3],[],[5],[],[5,6,7],[5,6,7,8],[0,1,2,3,4,5,6,7,8,9],[0,1,2,3,4,5,6,7,8,9,10]] h (by kernel_rfl) (by kernel_rfl) (by kernel_rfl) ?_
    refine ao h (ai cp (h.ev rfl)) rfl ?_;intro f h
    refine aU (V:=vo) (am (aL.of_own s 1 rfl) 0 rfl) h da rfl rfl ?_;intro f h
    refine ao h (ag (h.ev rfl)) rfl ?_;intro f h
    refine ao h (cc (hO.1.keep s.ext) (k) Tryz.underlying22 eA (h.ev rfl) (h.ev rfl) (rfl) (by omega)) rfl ?_;intro f h
    refine bi ((hO.1.keep s.ext).el (k) (by omega) (by decide) (D:=ay (L.getD k z3).1.me (L.getD k z3).1.pr (L.getD k z3).2.1 (L.getD k z3).2.2) (df L k hkl)) h aW rfl (ap _ _ _ _) rfl ?_;intro f h
    refine ao h (ai cp (h.ev rfl)) rfl ?_;intro f h
    refine aU (V:=vp) (am (aL.of_own s 0 rfl) 0 rfl) h da rfl rfl ?_;intro f h
    refine ao h (ag (h.ev rfl)) rfl ?_;intro f h
    refine ao h (cc (hP.1.keep s.ext) (k) Tryz.underlying22 eA (h.ev rfl) (h.ev rfl) (rfl) (by omega)) rfl ?_;intro f h
    refine bi ((hP.1.keep s.ext).el (k) (by omega) (by decide) (D:=ay (K.getD k z3).1.me (K.getD k z3).1.pr (K.getD k z3).2.1 (K.getD k z3).2.2) (df K k hkk)) h aW rfl (ap _ _ _ _) rfl ?_;intro f h
    refine cn h zn (fun w9 hE9=>aM (.bool true) (pJ (L.getD k z3).1 (K.getD k z3).1 (L.getD k z3).2.1 (L.getD k z3).2.2 (K.getD k z3).2.1 (K.getD k z3).2.2 w9 (((hO.2 _ (bu hkl)).1).keep (s.ext.trans hE9)) (((hO.2 _ (bu hkl)).2).keep (s.ext.trans hE9)) (((hP.2 _ (bu hkk)).1).keep (s.ext.trans hE9)) (((hP.2 _ (bu hkk)).2).keep (s.ext.trans hE9)) (by omega) (by omega) (by omega) (by omega)) (congrArg Value.bool hl9)) rfl rfl ?_;intro f h
    refine ao h (aw (.bool false) (bB (h.ev rfl)) rfl) rfl ?_;intro f h
    refine ck s fun w1 s=>?_
    refine ah ?_
    refine hK11 _ _ ?_
    refine wpIn_cond_false (h.ev rfl) ?_
    refine wpIn_skip ?_
    refine bF ?_
    refine hK9 _ _ ?_
    refine ae ?_
    refine ac h (ce (h.ev rfl) (h.ev rfl) (by omega)) rfl ?_;intro f h
    refine ac h (ag (h.ev rfl)) rfl ?_;intro f h
    refine ah ?_
    refine bT ?_
    exact ⟨_,by omega,⟨k+1,h.only ⟨rfl,rfl,rfl,rfl,rfl,aO rfl (by omega),trivial⟩,St.as s ⟨rfl,rfl,trivial⟩,rfl,by omega,AA hp1 hl9⟩⟩
  ·replace hc:=of_decide_eq_false hc
   refine wpIn_exit ?_
   refine bJ ?_
   refine bJ ?_
   refine cC ?_
   refine hK5 _ _ ?_
   refine al fun K13 hK13=>?_
   refine ae ?_
   refine ac h (ak (h.ev rfl)) rfl ?_;intro f h
   refine ah ?_
   refine hK13 _ _ ?_
   refine wpIn_ret ?_
   exact bo rfl h s rfl (by show _=_;rw [sR hle (fun j hj=>hp1 j (by omega))])
set_option maxHeartbeats 1000000 in
theorem wJ (L:List N3) (vo:Value) (w:World) (hO:eN w vo L):Calls Tryz.prog 7 [.agg #[vo]].toArray w (cU w (BR w 42 ((L.take (min L.length 18)).map ig))):=by
 have hT:=hO.take (min L.length 18) (Nat.min_le_left _ _)
 obtain ⟨M,hM⟩:∃ x9,x9=L.take (min L.length 18):=⟨_,rfl⟩
 rw [← hM] at hT
 have hM18:M.length≤18:=by rw [hM,List.length_take];omega
 refine bq Tryz.func7 rfl Tryz.ntmps7 rfl [(0,.agg #[vo])] (by simp) fun f h=>?_
 have s:=St.start w
 refine al fun K1 hK1=>?_
 refine ae ?_
 refine bV (#[vo]) h s rfl rfl rfl ?_;intro f w1 b1 h s
 refine bf (#[bp]) h s d3 rfl rfl ?_;intro f w1 b2 h s
 refine ah ?_
 refine hK1 _ _ ?_
 refine al fun K2 hK2=>?_
 refine ae ?_
 refine bf (#[bp]) h s d3 rfl rfl ?_;intro f w1 b3 h s
 refine ah ?_
 refine hK2 _ _ ?_
 refine al fun K3 hK3=>?_
 refine al fun K4 hK4=>?_
 refine ae ?_
 replace s:=s.nilSl 42 68
 refine ac h (ai cp (h.ev rfl)) rfl ?_;intro f h
 refine aq (V:=vo) (am (aL.of_own s 3 rfl) 0 rfl) h da rfl rfl ?_;intro f h
 refine ac h (ai cp (h.ev rfl)) rfl ?_;intro f h
 refine aq (V:=vo) (am (aL.of_own s 3 rfl) 0 rfl) h da rfl rfl ?_;intro f h
 refine ac h (a8 (hO.1.keep s.ext) Tryz.underlying22 (h.ev rfl)) rfl ?_;intro f h
 refine ac h (om (h.ev rfl) (h.ev rfl)) rfl ?_;intro f h
 refine ac h (dG (hO.1.keep s.ext) (min L.length 18) Tryz.underlying22 eA (h.ev rfl) (h.ev rfl) (by split<;>omega) (by omega)) rfl ?_;intro f h
 refine ac h (a8 (hT.1.keep s.ext) Tryz.underlying22 (h.ev rfl)) rfl ?_;intro f h
 refine ac h (ag (h.ev rfl)) rfl ?_;intro f h
 refine ah ?_
 refine hK4 _ _ ?_
 refine wpIn_block ?_
 refine wpIn_loop_ghost (fun nn aa ww=>∃ k:Nat,∃ vb:Value,Sl 42 aa [(0,.agg #[vo]),(1,.pointer (some ⟨b1,0,none⟩)),(2,.pointer (some ⟨b2,0,none⟩)),(3,.pointer (some ⟨b3,0,none⟩)),(12,(gn vo (min L.length 18))),(13,.int .i64 (M.length:Int)),(14,.int .i64 (k:Int))]∧St w [.sl vb 42 68 ((M.take k).map ig).length (aG ((M.take k).map ig)),.blk b3 (.cells (#[vb]) 24),.blk b2 (.cells (#[bp]) 24),.blk b1 (.cells (#[vo]) 24)] ww∧nn=M.length - k∧k≤M.length) (M.length - (0)) ⟨0,bp,h.only ⟨rfl,rfl,rfl,rfl,rfl,rfl,aO rfl (by omega),trivial⟩,s.as ⟨rfl,rfl,rfl,rfl,trivial⟩,rfl,Nat.zero_le _⟩ ?_
 rintro _ f w1 ⟨k,vb,h,s,hnn,hp0⟩
 refine al fun K5 hK5=>?_
 refine ae ?_
 refine ac h (bS (h.ev rfl) (h.ev rfl)) rfl ?_;intro f h
 refine ah ?_
 refine hK5 _ _ ?_
 refine al fun K6 hK6=>?_
 refine bK h rfl (fun hc=>?_) (fun hc=>?_)
 ·replace hc:=of_decide_eq_true hc
  refine wpIn_skip ?_
  refine hK6 _ _ ?_
  refine al fun K7 hK7=>?_
  refine wpIn_block ?_
  refine al fun K8 hK8=>?_
  refine ae ?_
  have hkl:k<M.length:=by omega
  refine ac h (cc (hT.1.keep s.ext) (k) Tryz.underlying22 eA (h.ev rfl) (h.ev rfl) (by omega) (by omega)) rfl ?_;intro f h
  refine ax ((hT.1.keep s.ext).el (k) (by omega) (by decide) (D:=ay (M.getD k z3).1.me (M.getD k z3).1.pr (M.getD k z3).2.1 (M.getD k z3).2.2) (df M k hkl)) h aW rfl (ap _ _ _ _) rfl ?_;intro f h
  refine bf (ay aZ aZ bp bp) h s dL rfl rfl ?_;intro f w1 b5 h s
  refine az 0 h s aW rfl rfl rfl (ap _ _ _ _) (ap _ _ _ _) (a7 (dc ((hT.2 _ (bu hkl)).1.keep s.ext)) (dc ((hT.2 _ (bu hkl)).2.keep s.ext))) ?_;intro w1 s
  refine ah ?_
  refine hK8 _ _ ?_
  refine al fun K9 hK9=>?_
  have hbs:=s.ext.le
  refine' AW 11 [0,2,7,9,11,12,13,14,16] [8,10] [] [[],[0],[],[2],[2,3],[2,3,4],[0,1,2,3,4,5],[],[7],[],[9],[9,10],[9,10,11],[7,8,9,10,11,12],[0,1,2,3,4,5,6,7,8,9,10],[0,1,2,3,4,5,6,7,8,9,10,14],[0,1,2,3,4,5,6,7,8,9,10,11,12,13,14,15],[0,1,2,3,4,5,6,7,8,9,10,11,12,13,14,15,16]] (is _::is _::is _::is _::is _::is _::is _::is _::(is ((M.getD k z3).2.2))::is _::(is ((M.getD k z3).2.2))::is _::is _::is _::is _::is undef::is _::is undef::[]) (fun _=>True) h s (by kernel_rfl) (by kernel_rfl) (by kernel_rfl) (by kernel_rfl) rfl (fun _ _ h _=>h) (trivial) ⟨⟨_,rfl⟩,⟨_,rfl⟩,⟨_,rfl⟩,⟨_,rfl⟩,⟨_,rfl⟩,⟨_,rfl⟩,⟨_,rfl⟩,⟨_,rfl⟩,⟨_,rfl⟩,trivial⟩ ⟨⟨_,rfl⟩,⟨_,rfl⟩,trivial⟩ ⟨aN _,aN _,aN _,aN _,aN _,aN _,aN _,aN _,aN _,aN _,aN _,aN _,aN _,aN _,aN _,aN _,aN _,aN _,trivial⟩ (And.intro ?_ (And.intro ?_ (And.intro ?_ (And.intro ?_ (And.intro ?_ (And.intro ?_ (And.intro ?_ (And.intro ?_ (And.intro ?_ (And.intro ?_ (And.intro ?_ (And.intro ?_ (And.intro ?_ (And.intro ?_ (And.intro ?_ (And.intro ?_ (And.intro ?_ (And.intro ?_ (trivial))))))))))))))))))) ?_
  rotate_left 14
  ·refine dQ 18 rfl (by decide) ?_
   intro f9 w2 hE hs hl
   have e5:f9.tmps.getD 5 undef=_:=cL hl 5 (by kernel_rfl) (by kernel_rfl) (h.holds 5 _ rfl)
   have h:=aE [(5,_)] hs rfl (holds_lk ⟨e5,trivial⟩)
   refine ac h (ai bC (h.ev rfl)) rfl ?_;intro f h
   refine ah ?_
   have e9:=h.holds 18 _ rfl
   refine ⟨?_,rfl⟩
   refine e9.trans ?_
   exact rfl
  ·refine bN 19 rfl (by decide) (by decide) ?_
   intro f9 w2 hE hs hd9 hl
   have e18:f9.tmps.getD 18 undef=_:=bh hl 18 0 (by kernel_rfl) (by kernel_rfl)
   have h:=aE [(18,_)] hs hd9 (holds_lk ⟨e18,trivial⟩)
   have s:=s.more hE
   have z:=St.start w2
   refine aq (V:=(M.getD k z3).2.1) (am (aL.of_own s 0 rfl) 66 (bA _ _ _ _)) h bE rfl rfl ?_;intro f h
   refine ah ?_
   have e9:=h.holds 19 _ rfl
   refine ⟨?_,Ext.refl _,fun h9=>absurd h9 (by decide)⟩
   refine e9.trans ?_
   exact rfl
  ·refine dQ 20 rfl (by decide) ?_
   intro f9 w2 hE hs hl
   have e5:f9.tmps.getD 5 undef=_:=cL hl 5 (by kernel_rfl) (by kernel_rfl) (h.holds 5 _ rfl)
   have h:=aE [(5,_)] hs rfl (holds_lk ⟨e5,trivial⟩)
   refine ac h (ai bC (h.ev rfl)) rfl ?_;intro f h
   refine ah ?_
   have e9:=h.holds 20 _ rfl
   refine ⟨?_,rfl⟩
   refine e9.trans ?_
   exact rfl
  ·refine bN 21 rfl (by decide) (by decide) ?_
   intro f9 w2 hE hs hd9 hl
   have e20:f9.tmps.getD 20 undef=_:=bh hl 20 2 (by kernel_rfl) (by kernel_rfl)
   have h:=aE [(20,_)] hs hd9 (holds_lk ⟨e20,trivial⟩)
   have s:=s.more hE
   have z:=St.start w2
   refine aq (V:=(M.getD k z3).2.1) (am (aL.of_own s 0 rfl) 66 (bA _ _ _ _)) h bE rfl rfl ?_;intro f h
   refine ah ?_
   have e9:=h.holds 21 _ rfl
   refine ⟨?_,Ext.refl _,fun h9=>absurd h9 (by decide)⟩
   refine e9.trans ?_
   exact rfl
  ·refine bN 22 rfl (by decide) (by decide) ?_
   intro f9 w2 hE hs hd9 hl
   have e21:f9.tmps.getD 21 undef=_:=bh hl 21 3 (by kernel_rfl) (by kernel_rfl)
   have h:=aE [(21,_)] hs hd9 (holds_lk ⟨e21,trivial⟩)
   have s:=s.more hE
   have z:=St.start w2
   refine ac h (a8 ((hT.2 _ (bu hkl)).1.keep s.ext) Tryz.underlying36 (h.ev rfl)) rfl ?_;intro f h
   refine ah ?_
   have e9:=h.holds 22 _ rfl
   refine ⟨?_,Ext.refl _,fun h9=>absurd h9 (by decide)⟩
   refine e9.trans ?_
   exact rfl
  ·refine bN 23 rfl (by decide) (by decide) ?_
   intro f9 w2 hE hs hd9 hl
   have e22:f9.tmps.getD 22 undef=_:=bh hl 22 4 (by kernel_rfl) (by kernel_rfl)
   have h:=aE [(22,_)] hs hd9 (holds_lk ⟨e22,trivial⟩)
   have s:=s.more hE
   have z:=St.start w2
   refine ac h (om (h.ev rfl) (h.ev rfl)) rfl ?_;intro f h
   refine ah ?_
   have e9:=h.holds 23 _ rfl
   refine ⟨?_,Ext.refl _,fun h9=>absurd h9 (by decide)⟩
   refine e9.trans ?_
   exact rfl
  ·refine bN 24 rfl (by decide) (by decide) ?_
   intro f9 w2 hE hs hd9 hl
   have e19:f9.tmps.getD 19 undef=_:=bh hl 19 1 (by kernel_rfl) (by kernel_rfl)
   have e23:f9.tmps.getD 23 undef=_:=bh hl 23 5 (by kernel_rfl) (by kernel_rfl)
   have h:=aE [(19,_),(23,_)] hs hd9 (holds_lk ⟨e19,e23,trivial⟩)
   have s:=s.more hE
   have z:=St.start w2
   refine ac h (dG ((hT.2 _ (bu hkl)).1.keep s.ext) (min (M.getD k z3).1.sc.length 6) Tryz.underlying36 cD (h.ev rfl) (h.ev rfl) (by split<;>omega) (by omega)) rfl ?_;intro f h
   refine ah ?_
   have e9:=h.holds 24 _ rfl
   refine ⟨?_,Ext.refl _,fun h9=>absurd h9 (by decide)⟩
   refine e9.trans ?_
   exact rfl
  ·refine dQ 25 rfl (by decide) ?_
   intro f9 w2 hE hs hl
   have e5:f9.tmps.getD 5 undef=_:=cL hl 5 (by kernel_rfl) (by kernel_rfl) (h.holds 5 _ rfl)
   have h:=aE [(5,_)] hs rfl (holds_lk ⟨e5,trivial⟩)
   refine ac h (ai cP (h.ev rfl)) rfl ?_;intro f h
   refine ah ?_
   have e9:=h.holds 25 _ rfl
   refine ⟨?_,rfl⟩
   refine e9.trans ?_
   exact rfl
  ·refine bN 26 rfl (by decide) (by decide) ?_
   intro f9 w2 hE hs hd9 hl
   have e25:f9.tmps.getD 25 undef=_:=bh hl 25 7 (by kernel_rfl) (by kernel_rfl)
   have h:=aE [(25,_)] hs hd9 (holds_lk ⟨e25,trivial⟩)
   have s:=s.more hE
   have z:=St.start w2
   refine aq (V:=(M.getD k z3).2.2) (am (aL.of_own s 0 rfl) 67 (cO _ _ _ _)) h bE rfl rfl ?_;intro f h
   refine ah ?_
   have e9:=h.holds 26 _ rfl
   refine ⟨?_,Ext.refl _,fun h9=>absurd h9 (by decide)⟩
   refine e9.trans ?_
   exact rfl
  ·refine dQ 27 rfl (by decide) ?_
   intro f9 w2 hE hs hl
   have e5:f9.tmps.getD 5 undef=_:=cL hl 5 (by kernel_rfl) (by kernel_rfl) (h.holds 5 _ rfl)
   have h:=aE [(5,_)] hs rfl (holds_lk ⟨e5,trivial⟩)
   refine ac h (ai cP (h.ev rfl)) rfl ?_;intro f h
   refine ah ?_
   have e9:=h.holds 27 _ rfl
   refine ⟨?_,rfl⟩
   refine e9.trans ?_
   exact rfl
  ·refine bN 28 rfl (by decide) (by decide) ?_
   intro f9 w2 hE hs hd9 hl
   have e27:f9.tmps.getD 27 undef=_:=bh hl 27 9 (by kernel_rfl) (by kernel_rfl)
   have h:=aE [(27,_)] hs hd9 (holds_lk ⟨e27,trivial⟩)
   have s:=s.more hE
   have z:=St.start w2
   refine aq (V:=(M.getD k z3).2.2) (am (aL.of_own s 0 rfl) 67 (cO _ _ _ _)) h bE rfl rfl ?_;intro f h
   refine ah ?_
   have e9:=h.holds 28 _ rfl
   refine ⟨?_,Ext.refl _,fun h9=>absurd h9 (by decide)⟩
   refine e9.trans ?_
   exact rfl
  ·refine dQ 29 rfl (by decide) ?_
   intro f9 w2 hE hs hl
   have e28:f9.tmps.getD 28 undef=_:=bh hl 28 10 (by kernel_rfl) (by kernel_rfl)
   have h:=aE [(28,_)] hs rfl (holds_lk ⟨e28,trivial⟩)
   refine ac h (a8 ((hT.2 _ (bu hkl)).2.keep s.ext) Tryz.underlying36 (h.ev rfl)) rfl ?_;intro f h
   refine ah ?_
   have e9:=h.holds 29 _ rfl
   refine ⟨?_,rfl⟩
   refine e9.trans ?_
   exact rfl
  ·refine dQ 30 rfl (by decide) ?_
   intro f9 w2 hE hs hl
   have e29:f9.tmps.getD 29 undef=_:=bh hl 29 11 (by kernel_rfl) (by kernel_rfl)
   have h:=aE [(29,_)] hs rfl (holds_lk ⟨e29,trivial⟩)
   refine ac h (om (h.ev rfl) (h.ev rfl)) rfl ?_;intro f h
   refine ah ?_
   have e9:=h.holds 30 _ rfl
   refine ⟨?_,rfl⟩
   refine e9.trans ?_
   exact rfl
  ·refine dQ 31 rfl (by decide) ?_
   intro f9 w2 hE hs hl
   have e26:f9.tmps.getD 26 undef=_:=bh hl 26 8 (by kernel_rfl) (by kernel_rfl)
   have e30:f9.tmps.getD 30 undef=_:=bh hl 30 12 (by kernel_rfl) (by kernel_rfl)
   have h:=aE [(26,_),(30,_)] hs rfl (holds_lk ⟨e26,e30,trivial⟩)
   refine ac h (dG ((hT.2 _ (bu hkl)).2.keep s.ext) (min (M.getD k z3).1.fg.length 18) Tryz.underlying36 cD (h.ev rfl) (h.ev rfl) (by split<;>omega) (by omega)) rfl ?_;intro f h
   refine ah ?_
   have e9:=h.holds 31 _ rfl
   refine ⟨?_,rfl⟩
   refine e9.trans ?_
   exact rfl
  ·refine dQ 32 rfl (by decide) ?_
   intro f9 w2 hE hs hl
   have e5:f9.tmps.getD 5 undef=_:=cL hl 5 (by kernel_rfl) (by kernel_rfl) (h.holds 5 _ rfl)
   have h:=aE [(5,_)] hs rfl (holds_lk ⟨e5,trivial⟩)
   refine ac h (ai bC (h.ev rfl)) rfl ?_;intro f h
   refine ah ?_
   have e9:=h.holds 32 _ rfl
   refine ⟨?_,rfl⟩
   refine e9.trans ?_
   exact rfl
  ·exact cG (by decide) (by decide)
  ·refine dQ 33 rfl (by decide) ?_
   intro f9 w2 hE hs hl
   have e5:f9.tmps.getD 5 undef=_:=cL hl 5 (by kernel_rfl) (by kernel_rfl) (h.holds 5 _ rfl)
   have h:=aE [(5,_)] hs rfl (holds_lk ⟨e5,trivial⟩)
   refine ac h (ai cP (h.ev rfl)) rfl ?_;intro f h
   refine ah ?_
   have e9:=h.holds 33 _ rfl
   refine ⟨?_,rfl⟩
   refine e9.trans ?_
   exact rfl
  ·exact cG (by decide) (by decide)
  ·intro f9 w2 hE hs hd9 hWp hT hR hFr hDj
   replace h:=sl_new (ops:=_) [(18,_),(19,_),(20,_),(21,_),(22,_),(23,_),(24,_),(25,_),(26,_),(27,_),(28,_),(29,_),(30,_),(31,_),(32,_),(33,_)] h hs hd9 hR ⟨hT 0 18 (by decide) rfl,hT 1 19 (by decide) rfl,hT 2 20 (by decide) rfl,hT 3 21 (by decide) rfl,hT 4 22 (by decide) rfl,hT 5 23 (by decide) rfl,hT 6 24 (by decide) rfl,hT 7 25 (by decide) rfl,hT 8 26 (by decide) rfl,hT 9 27 (by decide) rfl,hT 10 28 (by decide) rfl,hT 11 29 (by decide) rfl,hT 12 30 (by decide) rfl,hT 13 31 (by decide) rfl,hT 14 32 (by decide) rfl,hT 16 33 (by decide) rfl,trivial⟩ (by kernel_rfl)
   replace s:=s.more hE
   clear hT hR hFr hDj
   refine ju.cons ?_
   refine br 0 h s bE rfl rfl rfl (by rw [ap];omega) (dc (((hT.2 _ (bu hkl)).1.cut _ (Nat.min_le_left _ _)).keep s.ext)) ?_;intro w1 s
   replace s:=s.recell (D:=ay (M.getD k z3).1.me (M.getD k z3).1.pr (gn (M.getD k z3).2.1 (min (M.getD k z3).1.sc.length 6)) (M.getD k z3).2.2) 0 rfl (fo _ _ _ _ _)
   refine ah ⟨trivial,ye.no (by kernel_rfl),?_⟩
   refine ju.cons ?_
   refine br 0 h s bE rfl rfl rfl (by rw [ap];omega) (dc (((hT.2 _ (bu hkl)).2.cut _ (Nat.min_le_left _ _)).keep s.ext)) ?_;intro w1 s
   replace s:=s.recell (D:=ay (M.getD k z3).1.me (M.getD k z3).1.pr (gn (M.getD k z3).2.1 (min (M.getD k z3).1.sc.length 6)) (gn (M.getD k z3).2.2 (min (M.getD k z3).1.fg.length 18))) 0 rfl (il _ _ _ _ _)
   refine ah ⟨trivial,ye.no (by kernel_rfl),?_⟩
   refine ju.nil ?_
   refine hK9 _ _ ?_
   refine ae ?_
   refine ac h (ai cp (h.ev rfl)) rfl ?_;intro f h
   refine aq (V:=vb) (am (aL.of_own s 2 rfl) 0 rfl) h da rfl rfl ?_;intro f h
   refine au 0 h s aW rfl rfl (ap _ _ _ _) rfl ?_;intro f h
   refine cm (vs:=[.agg (ay (ig (M.getD k z3)).1.me (ig (M.getD k z3)).1.pr (ig (M.getD k z3)).2.1 (ig (M.getD k z3)).2.2)]) [.tmp 36] h s Tryz.underlying22 gY rfl rfl (jU (ig (M.getD k z3))) rfl rfl rfl ?_;intro f w1 v37 h s
   refine dP 2 0 h s Tryz.underlying22 gY rfl rfl rfl rfl (by decide) (rH (oq (hT.2 _ (bu hkl))).ones.1 (oq (hT.2 _ (bu hkl))).ones.2) (by rw [List.length_map,List.length_take];unfold maxLen;omega) (by rw [List.length_map,List.length_take];omega) rfl ?_;intro f w1 v38 h s
   replace s:=s.pick _ (List.sublist_cons_self _ _)
   replace s:=s.resl (m:=((M.take (k+1)).map ig).length) (ys:=aG ((M.take (k+1)).map ig)) 1 rfl (by rw [nc hkl,List.length_append];rfl) (by rw [nc hkl,kp,jM])
   refine ac h (ai cp (h.ev rfl)) rfl ?_;intro f h
   refine br 2 h s da rfl rfl rfl (by show 0<1;decide) (aQ (s.getSl 1 rfl)) ?_;intro w1 s
   replace s:=s.recell (D:=#[v38]) 2 rfl rfl
   refine ah ?_
   refine bF ?_
   refine hK7 _ _ ?_
   refine ae ?_
   refine ac h (ce (h.ev rfl) (h.ev rfl) (by omega)) rfl ?_;intro f h
   refine ac h (ag (h.ev rfl)) rfl ?_;intro f h
   refine ah ?_
   refine bT ?_
   exact ⟨_,by omega,⟨k+1,v38,h.only ⟨rfl,rfl,rfl,rfl,rfl,rfl,aO rfl (by omega),trivial⟩,St.as (s.pick _ (List.sublist_append_right [_] _)) ⟨rfl,rfl,rfl,rfl,trivial⟩,rfl,by omega⟩⟩
 ·replace hc:=of_decide_eq_false hc
  refine wpIn_exit ?_
  refine bJ ?_
  refine bJ ?_
  refine cC ?_
  refine hK3 _ _ ?_
  refine al fun K10 hK10=>?_
  refine ae ?_
  refine au 1 h s bk rfl rfl (rfl) rfl ?_;intro f h
  refine az 2 h s bk rfl rfl rfl (rfl) (rfl) (cq (aQ (s.getSl 0 rfl))) ?_;intro w1 s
  refine ah ?_
  refine hK10 _ _ ?_
  refine wpIn_ret ?_
  exact c5 2 rfl h s bk rfl rfl (rfl) (wD (by obtain rfl:k=M.length:=(by omega);rw [List.take_length,hM]) (s.getSl 0 rfl))
theorem fB (L K:List N3) (vo vp:Value) (e q:Int) (w:World) (hO:eN w vo L) (hL:L.length≤40) (hP:eN w vp K) (hK:K.length≤40) (hbL:RwB L) (hbK:RwB K):Calls Tryz.prog 18 [.agg #[vo],.agg #[vp],.int .i64 e,.int .i64 q].toArray w (cU w (is (.bool (uU L K e q)))):=by
 refine bq Tryz.func18 rfl Tryz.ntmps18 rfl [(0,.agg #[vo]),(1,.agg #[vp]),(2,.int .i64 e),(3,.int .i64 q)] (by simp) fun f h=>?_
 have s:=St.start w
 refine al fun K1 hK1=>?_
 refine ae ?_
 refine bV (#[vo]) h s rfl rfl rfl ?_;intro f w1 b4 h s
 refine bV (#[vp]) h s rfl rfl rfl ?_;intro f w1 b5 h s
 refine ac h (ak (h.ev rfl)) rfl ?_;intro f h
 refine ah ?_
 refine hK1 _ _ ?_
 refine al fun K2 hK2=>?_
 refine al fun K3 hK3=>?_
 refine ae ?_
 refine ac h (ag (h.ev rfl)) rfl ?_;intro f h
 refine ac h (cy (h.ev rfl) (h.ev rfl)) rfl ?_;intro f h
 refine ah ?_
 refine hK3 _ _ ?_
 refine bK h rfl (fun hc=>?_) (fun hc=>?_)
 ·have h0:¬ q=0:=by simpa using hc
  refine ae ?_
  refine ac h (co g5) rfl ?_;intro f h
  refine az 0 h s bk rfl rfl rfl (rfl) (rfl) (cq (rfl)) ?_;intro w1 s
  refine ah ?_
  refine hK2 _ _ ?_
  refine al fun K4 hK4=>?_
  cases e0:(decide (e=q):Bool)
  ·skip
   refine ae ?_
   refine ac h (ag (h.ev rfl)) rfl ?_;intro f h
   refine ac h (ag (h.ev rfl)) rfl ?_;intro f h
   refine ac h (aw (.bool false) (bU (h.ev rfl) (h.ev rfl)) (congrArg Value.bool e0)) rfl ?_;intro f h
   refine ac h (ag (h.ev rfl)) rfl ?_;intro f h
   refine aB (b:=true) h rfl rfl rfl rfl ?_;intro f h
   refine aB (b:=true) h rfl rfl rfl rfl ?_;intro f h
   refine aB (b:=true) h rfl rfl rfl rfl ?_;intro f h
   refine ac h (aF (h.ev rfl) (h.ev rfl)) rfl ?_;intro f h
   refine ac h (ak (h.ev rfl)) rfl ?_;intro f h
   refine ah ?_
   refine hK4 _ _ ?_
   refine wpIn_ret ?_
   exact bo rfl h s rfl (by show _=_;rw [zW e0])
  ·skip
   refine ae ?_
   refine ac h (ag (h.ev rfl)) rfl ?_;intro f h
   refine ac h (ag (h.ev rfl)) rfl ?_;intro f h
   refine ac h (aw (.bool true) (bU (h.ev rfl) (h.ev rfl)) (congrArg Value.bool e0)) rfl ?_;intro f h
   refine ac h (ag (h.ev rfl)) rfl ?_;intro f h
   refine aA h rfl rfl rfl ?_
   refine au 1 h s bk rfl rfl (rfl) rfl ?_;intro f h
   refine aA h rfl rfl rfl ?_
   refine au 0 h s bk rfl rfl (rfl) rfl ?_;intro f h
   refine aA h rfl rfl rfl ?_
   refine aI h s zp (nj L [] vo bp _ (hO.keep s.ext) hL (eH _) (by decide) hbL kf) rfl rfl ?_;intro f w1 v9 hT hE h s;obtain rfl:=hT
   refine ac h (aD (h.ev rfl) (h.ev rfl)) rfl ?_;intro f h
   refine ac h (ak (h.ev rfl)) rfl ?_;intro f h
   refine ah ?_
   refine hK4 _ _ ?_
   refine wpIn_ret ?_
   exact bo rfl h s rfl (by show _=_;rw [DT e0 h0])
 ·have h0:q=0:=by simpa using hc
  refine wpIn_skip ?_
  refine hK2 _ _ ?_
  refine al fun K5 hK5=>?_
  cases e0:(decide (e=q):Bool)
  ·skip
   refine ae ?_
   refine ac h (ag (h.ev rfl)) rfl ?_;intro f h
   refine ac h (ag (h.ev rfl)) rfl ?_;intro f h
   refine ac h (aw (.bool false) (bU (h.ev rfl) (h.ev rfl)) (congrArg Value.bool e0)) rfl ?_;intro f h
   refine ac h (ag (h.ev rfl)) rfl ?_;intro f h
   refine aB (b:=true) h rfl rfl rfl rfl ?_;intro f h
   refine aB (b:=true) h rfl rfl rfl rfl ?_;intro f h
   refine aB (b:=true) h rfl rfl rfl rfl ?_;intro f h
   refine ac h (aF (h.ev rfl) (h.ev rfl)) rfl ?_;intro f h
   refine ac h (ak (h.ev rfl)) rfl ?_;intro f h
   refine ah ?_
   refine hK5 _ _ ?_
   refine wpIn_ret ?_
   exact bo rfl h s rfl (by show _=_;rw [zW e0])
  ·skip
   refine ae ?_
   refine ac h (ag (h.ev rfl)) rfl ?_;intro f h
   refine ac h (ag (h.ev rfl)) rfl ?_;intro f h
   refine ac h (aw (.bool true) (bU (h.ev rfl) (h.ev rfl)) (congrArg Value.bool e0)) rfl ?_;intro f h
   refine ac h (ag (h.ev rfl)) rfl ?_;intro f h
   refine aA h rfl rfl rfl ?_
   refine au 1 h s bk rfl rfl (rfl) rfl ?_;intro f h
   refine aA h rfl rfl rfl ?_
   refine au 0 h s bk rfl rfl (rfl) rfl ?_;intro f h
   refine aA h rfl rfl rfl ?_
   refine aI h s zp (nj L K vo vp _ (hO.keep s.ext) hL (hP.keep s.ext) hK hbL hbK) rfl rfl ?_;intro f w1 v9 hT hE h s;obtain rfl:=hT
   refine ac h (aD (h.ev rfl) (h.ev rfl)) rfl ?_;intro f h
   refine ac h (ak (h.ev rfl)) rfl ?_;intro f h
   refine ah ?_
   refine hK5 _ _ ?_
   refine wpIn_ret ?_
   exact bo rfl h s rfl (by show _=_;rw [DY e0 h0])
end Go.Proofs.YthggibfkgofncaaGreat
