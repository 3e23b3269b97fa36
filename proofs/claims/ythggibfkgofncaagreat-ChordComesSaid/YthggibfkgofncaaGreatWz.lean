/- What package ident answers: ways, comparisons, what is on the way: for all identifiers. -/
import Derived.Test.YthggibfkgofncaaGreatCon
set_option linter.unusedVariables false
set_option linter.unusedSimpArgs false
set_option linter.unusedSectionVars false
namespace Go.Proofs.YthggibfkgofncaaGreat
open Go.RowKit
theorem mY (x:Int) (w:World):Calls Tryz.prog 150 [.int .u8 x].toArray w (cT w (is (.bool false))):=by
 refine bj Tryz.func150 rfl Tryz.ntmps150 rfl [(0,.int .u8 x)] (by simp) fun f h=>?_
 have s:=St.start w
 refine aj fun K1 hK1=>?_
 refine ae ?_
 refine ac h (ai (h.ev rfl)) rfl ?_;intro f h
 refine ah ?_
 refine hK1 _ _ ?_
 refine aj fun K2 hK2=>?_
 refine ae ?_
 refine ac h (ag (h.ev rfl)) rfl ?_;intro f h
 refine ac h (ag (h.ev rfl)) rfl ?_;intro f h
 refine ac h (aw (.bool false) (cO (h.ev rfl) (h.ev rfl)) (by simp)) rfl ?_;intro f h
 refine ac h (ai (h.ev rfl)) rfl ?_;intro f h
 refine ah ?_
 refine hK2 _ _ ?_
 refine wpIn_ret ?_
 exact aX rfl h s rfl (rfl)
theorem tx (x y:Int) (w:World):Calls Tryz.prog 146 [.int .u8 x,.int .u8 y].toArray w (cT w (is (.int .i64 (dI x y)))):=by
 refine bj Tryz.func146 rfl Tryz.ntmps146 rfl [(0,.int .u8 x),(1,.int .u8 y)] (by simp) fun f h=>?_
 have s:=St.start w
 refine aj fun K1 hK1=>?_
 refine ae ?_
 refine ac h (ai (h.ev rfl)) rfl ?_;intro f h
 refine ah ?_
 refine hK1 _ _ ?_
 refine aj fun K2 hK2=>?_
 refine ae ?_
 refine ac h (ag (h.ev rfl)) rfl ?_;intro f h
 refine aF h s tQ (mY _ _) rfl rfl ?_;intro f w1 v9 hT hE h s;obtain rfl:=hT
 refine ac h (ai (h.ev rfl)) rfl ?_;intro f h
 refine ah ?_
 refine hK2 _ _ ?_
 refine aj fun K3 hK3=>?_
 refine ae ?_
 refine ac h (ag (h.ev rfl)) rfl ?_;intro f h
 refine aF h s tQ (mY _ _) rfl rfl ?_;intro f w1 v9 hT hE h s;obtain rfl:=hT
 refine ac h (ai (h.ev rfl)) rfl ?_;intro f h
 refine ah ?_
 refine hK3 _ _ ?_
 refine aj fun K4 hK4=>?_
 refine aj fun K5 hK5=>?_
 refine ae ?_
 refine ac h (ag (h.ev rfl)) rfl ?_;intro f h
 refine ah ?_
 refine hK5 _ _ ?_
 refine wpIn_cond_false (h.ev rfl) ?_
 refine wpIn_skip ?_
 refine hK4 _ _ ?_
 refine aj fun K6 hK6=>?_
 refine aj fun K7 hK7=>?_
 refine ae ?_
 refine ac h (ag (h.ev rfl)) rfl ?_;intro f h
 refine ah ?_
 refine hK7 _ _ ?_
 refine wpIn_cond_false (h.ev rfl) ?_
 refine wpIn_skip ?_
 refine hK6 _ _ ?_
 refine aj fun K8 hK8=>?_
 refine aj fun K9 hK9=>?_
 refine ae ?_
 refine ac h (ag (h.ev rfl)) rfl ?_;intro f h
 refine ac h (ag (h.ev rfl)) rfl ?_;intro f h
 refine ac h (bD (h.ev rfl) (h.ev rfl)) rfl ?_;intro f h
 refine ah ?_
 refine hK9 _ _ ?_
 refine bA h rfl (fun hc=>?_) (fun hc=>?_)
 ·have hc:=of_decide_eq_true hc
  refine aj fun K10 hK10=>?_
  refine ae ?_
  refine ac h (ai (h.ev rfl)) rfl ?_;intro f h
  refine ah ?_
  refine hK10 _ _ ?_
  refine wpIn_ret ?_
  refine aQ ?_
  exact aX rfl h s rfl (by show _=_;unfold dI;rw [if_pos hc])
 ·have hc1:=of_decide_eq_false hc
  refine wpIn_skip ?_
  refine hK8 _ _ ?_
  refine aj fun K11 hK11=>?_
  refine aj fun K12 hK12=>?_
  refine ae ?_
  refine ac h (ag (h.ev rfl)) rfl ?_;intro f h
  refine ac h (ag (h.ev rfl)) rfl ?_;intro f h
  refine ac h (cL (h.ev rfl) (h.ev rfl)) rfl ?_;intro f h
  refine ah ?_
  refine hK12 _ _ ?_
  refine bA h rfl (fun hc=>?_) (fun hc=>?_)
  ·replace hc:=of_decide_eq_true hc
   refine aj fun K13 hK13=>?_
   refine ae ?_
   refine ac h (ai (h.ev rfl)) rfl ?_;intro f h
   refine ah ?_
   refine hK13 _ _ ?_
   refine wpIn_ret ?_
   refine aQ ?_
   exact aX rfl h s rfl (by show _=_;unfold dI;rw [if_neg (by omega),if_pos hc])
  ·replace hc:=of_decide_eq_false hc
   refine wpIn_skip ?_
   refine hK11 _ _ ?_
   refine aj fun K14 hK14=>?_
   refine ae ?_
   refine ac h (ai (h.ev rfl)) rfl ?_;intro f h
   refine ah ?_
   refine hK14 _ _ ?_
   refine wpIn_ret ?_
   exact aX rfl h s rfl (by show _=_;unfold dI;rw [if_neg (by omega),if_neg (by omega)])
theorem k7 (a b:Id) (w:World):Calls Tryz.prog 139 [dC a,dC b].toArray w (cT w (is (dC (b - a)))):=by
 refine bj Tryz.func139 rfl Tryz.ntmps139 rfl [(0,dC a),(1,dC b)] (by simp) fun f h=>?_
 have s:=St.start w
 refine aj fun K1 hK1=>?_
 refine ae ?_
 refine bT (bq a) h s rfl rfl rfl ?_;intro f w1 b2 h s
 refine bT (bq b) h s rfl rfl rfl ?_;intro f w1 b3 h s
 refine ba (bq 0#256) h s gn rfl rfl ?_;intro f w1 b4 h s
 refine ah ?_
 refine hK1 _ _ ?_
 refine aj fun K2 hK2=>?_
 refine ae ?_
 refine ba (bq 0#256) h s gn rfl rfl ?_;intro f w1 b5 h s
 refine ah ?_
 refine hK2 _ _ ?_
 refine aj fun K3 hK3=>?_
 refine ae ?_
 refine ac h (ai (h.ev rfl)) rfl ?_;intro f h
 refine ah ?_
 refine hK3 _ _ ?_
 refine aj fun K4 hK4=>?_
 refine aj fun K5 hK5=>?_
 refine ae ?_
 refine ac h (ai (h.ev rfl)) rfl ?_;intro f h
 refine ah ?_
 refine hK5 _ _ ?_
 refine wpIn_block ?_
 refine wpIn_loop_ghost (fun nn aa ww=>∃ k:Nat,Sl 31 aa [(0,dC a),(1,dC b),(2,.pointer (some ⟨b2,0,none⟩)),(3,.pointer (some ⟨b3,0,none⟩)),(4,.pointer (some ⟨b4,0,none⟩)),(5,.pointer (some ⟨b5,0,none⟩)),(6,.int .i64 (gT a.toNat b.toNat (32 - k):Int)),(7,.int .i64 ((k:Int) - 1))]∧St w [.blk b5 (.cells (bq (nS a b (32 - k))) 26),.blk b4 (.cells (bq 0#256) 26),.blk b3 (.cells (bq b) 26),.blk b2 (.cells (bq a) 26)] ww∧nn=k∧k≤32) ((32)) ⟨32,h.only ⟨rfl,rfl,rfl,rfl,rfl,rfl,aR rfl (by rw [Nat.sub_self,sf];rfl),aR rfl (by omega),trivial⟩,s.as ⟨dv (by rw [Nat.sub_self,se]),rfl,rfl,rfl,trivial⟩,rfl,by omega⟩ ?_
 rintro _ f w1 ⟨k,h,s,hnn,hp0⟩
 have ha:=c7 a (k - 1)
 have hb:=c7 b (k - 1)
 have hc9:=wk a.toNat b.toNat (32 - k)
 refine aj fun K6 hK6=>?_
 refine aj fun K7 hK7=>?_
 refine ae ?_
 refine ac h (ag (h.ev rfl)) rfl ?_;intro f h
 refine ac h (c0 (h.ev rfl) (h.ev rfl)) rfl ?_;intro f h
 refine ah ?_
 refine hK7 _ _ ?_
 refine bA h rfl (fun hc=>?_) (fun hc=>?_)
 ·replace hc:=of_decide_eq_true hc
  refine wpIn_skip ?_
  refine hK6 _ _ ?_
  refine aj fun K8 hK8=>?_
  refine wpIn_block ?_
  refine aj fun K9 hK9=>?_
  refine bJ 12 [[],[0],[0,1],[0,1,2],[],[4],[4,5],[4,5,6],[0,1,2,3,4,5,6,7],[],[0,1,2,3,4,5,6,7,8,9],[0,1,2,3,4,5,6,7,8,9,10]] h (by kernel_rfl) (by kernel_rfl) (by kernel_rfl) ?_
  refine ap h (ag (h.ev rfl)) rfl ?_;intro f h
  refine ap h (fD (k - 1) Tryz.underlying26 fy (h.ev rfl) (h.ev rfl) (by omega) (by omega)) rfl ?_;intro f h
  refine dp 2 h s jj rfl rfl (cU _ _ (by omega)) rfl ?_;intro f h
  refine ap h (fw Tryz.underlying5 Tryz.underlying3 (h.ev rfl) (IntWalk.i64_in _ (by omega))) rfl ?_;intro f h
  refine ap h (ag (h.ev rfl)) rfl ?_;intro f h
  refine ap h (fD (k - 1) Tryz.underlying26 fy (h.ev rfl) (h.ev rfl) (by omega) (by omega)) rfl ?_;intro f h
  refine dp 3 h s jj rfl rfl (cU _ _ (by omega)) rfl ?_;intro f h
  refine ap h (fw Tryz.underlying5 Tryz.underlying3 (h.ev rfl) (IntWalk.i64_in _ (by omega))) rfl ?_;intro f h
  refine ap h (dP (h.ev rfl) (h.ev rfl) (by omega)) rfl ?_;intro f h
  refine ap h (ag (h.ev rfl)) rfl ?_;intro f h
  refine ap h (dP (h.ev rfl) (h.ev rfl) (by omega)) rfl ?_;intro f h
  refine ap h (ai (h.ev rfl)) rfl ?_;intro f h
  refine cn s fun w1 s=>?_
  refine ah ?_
  refine hK9 _ _ ?_
  refine aj fun K10 hK10=>?_
  refine ae ?_
  refine ac h (ai (h.ev rfl)) rfl ?_;intro f h
  refine ah ?_
  refine hK10 _ _ ?_
  refine aj fun K11 hK11=>?_
  refine aj fun K12 hK12=>?_
  refine ae ?_
  refine ac h (ag (h.ev rfl)) rfl ?_;intro f h
  refine ac h (bD (h.ev rfl) (h.ev rfl)) rfl ?_;intro f h
  refine ah ?_
  refine hK12 _ _ ?_
  refine bA h rfl (fun hc=>?_) (fun hc=>?_)
  ·replace hc:=of_decide_eq_true hc
   refine ae ?_
   refine ac h (ai (h.ev rfl)) rfl ?_;intro f h
   refine ah ?_
   refine hK11 _ _ ?_
   refine ae ?_
   refine ac h (ag (h.ev rfl)) rfl ?_;intro f h
   refine ac h (ag (h.ev rfl)) rfl ?_;intro f h
   refine ac h (jh Tryz.underlying3 Tryz.underlying5 (h.ev rfl)) rfl ?_;intro f h
   refine ac h (fD (k - 1) Tryz.underlying26 fy (h.ev rfl) (h.ev rfl) (by omega) (by omega)) rfl ?_;intro f h
   refine bp 0 h s jj rfl rfl rfl (by simp;omega) (rfl) ?_;intro w1 s
   refine ah ?_
   refine bF ?_
   refine hK8 _ _ ?_
   refine ae ?_
   refine ac h (ag (h.ev rfl)) rfl ?_;intro f h
   refine ac h (dP (h.ev rfl) (h.ev rfl) (by omega)) rfl ?_;intro f h
   refine ac h (ai (h.ev rfl)) rfl ?_;intro f h
   refine ah ?_
   refine bQ ?_
   exact ⟨_,by omega,⟨k - 1,h.only ⟨rfl,rfl,rfl,rfl,rfl,rfl,aR rfl (by rw [uL a b k (by omega) (by omega) hc];rfl),aR rfl (by omega),trivial⟩,St.as s ⟨dv (qX a b k (by omega) (by omega)),rfl,rfl,rfl,trivial⟩,rfl,by omega⟩⟩
  ·replace hc:=of_decide_eq_false hc
   refine wpIn_skip ?_
   refine hK11 _ _ ?_
   refine ae ?_
   refine ac h (ag (h.ev rfl)) rfl ?_;intro f h
   refine ac h (ag (h.ev rfl)) rfl ?_;intro f h
   refine ac h (jh Tryz.underlying3 Tryz.underlying5 (h.ev rfl)) rfl ?_;intro f h
   refine ac h (fD (k - 1) Tryz.underlying26 fy (h.ev rfl) (h.ev rfl) (by omega) (by omega)) rfl ?_;intro f h
   refine bp 0 h s jj rfl rfl rfl (by simp;omega) (rfl) ?_;intro w1 s
   refine ah ?_
   refine bF ?_
   refine hK8 _ _ ?_
   refine ae ?_
   refine ac h (ag (h.ev rfl)) rfl ?_;intro f h
   refine ac h (dP (h.ev rfl) (h.ev rfl) (by omega)) rfl ?_;intro f h
   refine ac h (ai (h.ev rfl)) rfl ?_;intro f h
   refine ah ?_
   refine bQ ?_
   exact ⟨_,by omega,⟨k - 1,h.only ⟨rfl,rfl,rfl,rfl,rfl,rfl,aR rfl (by rw [sU a b k (by omega) (by omega) hc];rfl),aR rfl (by omega),trivial⟩,St.as s ⟨dv (qX a b k (by omega) (by omega)),rfl,rfl,rfl,trivial⟩,rfl,by omega⟩⟩
 ·replace hc:=of_decide_eq_false hc
  refine wpIn_exit ?_
  refine bw ?_
  refine bw ?_
  refine cq ?_
  refine hK4 _ _ ?_
  refine aj fun K13 hK13=>?_
  refine ae ?_
  refine ao 0 h s bV rfl rfl (by first|exact aI _|exact aG _ _) rfl ?_;intro f h
  refine ay 1 h s bV rfl rfl rfl (by first|exact aI _|exact aG _ _) (by first|exact aI _|exact aG _ _) (by first|exact dS _|exact dm _ _) ?_;intro w1 s
  refine ah ?_
  refine hK13 _ _ ?_
  refine wpIn_ret ?_
  exact d7 1 rfl h s bV rfl rfl (by first|exact aI _|exact aG _ _) (by show _=_;rw [vO a b k (by omega)])
theorem kC (a b:Id) (w:World):Calls Tryz.prog 138 [dC a,dC b].toArray w (cT w (is (.int .i64 (fk a b)))):=by
 refine bj Tryz.func138 rfl Tryz.ntmps138 rfl [(0,dC a),(1,dC b)] (by simp) fun f h=>?_
 have s:=St.start w
 refine aj fun K1 hK1=>?_
 refine ae ?_
 refine bT (bq a) h s rfl rfl rfl ?_;intro f w1 b2 h s
 refine bT (bq b) h s rfl rfl rfl ?_;intro f w1 b3 h s
 refine ac h (ai (h.ev rfl)) rfl ?_;intro f h
 refine ah ?_
 refine hK1 _ _ ?_
 refine aj fun K2 hK2=>?_
 refine aj fun K3 hK3=>?_
 refine ae ?_
 refine ac h (ag (h.ev rfl)) rfl ?_;intro f h
 refine ah ?_
 refine hK3 _ _ ?_
 refine wpIn_block ?_
 refine wpIn_loop_ghost (fun nn aa ww=>∃ k:Nat,Sl 24 aa [(0,dC a),(1,dC b),(2,.pointer (some ⟨b2,0,none⟩)),(3,.pointer (some ⟨b3,0,none⟩)),(6,.int .i64 (k:Int))]∧St w [.blk b3 (.cells (bq b) 26),.blk b2 (.cells (bq a) 26)] ww∧nn=32 - k∧k≤32∧a.toNat / 256 ^ (32 - k)=b.toNat / 256 ^ (32 - k)) (32 - (0)) ⟨0,h.only ⟨rfl,rfl,rfl,rfl,aR rfl (by omega),trivial⟩,s.as ⟨rfl,rfl,trivial⟩,rfl,by omega,uI a b⟩ ?_
 rintro _ f w1 ⟨k,h,s,hnn,hp0,hp1⟩
 refine aj fun K4 hK4=>?_
 refine ae ?_
 refine ac h (bD (h.ev rfl) (h.ev rfl)) rfl ?_;intro f h
 refine ah ?_
 refine hK4 _ _ ?_
 refine aj fun K5 hK5=>?_
 refine bA h rfl (fun hc=>?_) (fun hc=>?_)
 ·replace hc:=of_decide_eq_true hc
  refine wpIn_skip ?_
  refine hK5 _ _ ?_
  refine aj fun K6 hK6=>?_
  refine wpIn_block ?_
  refine aj fun K7 hK7=>?_
  refine ae ?_
  refine ac h (ag (h.ev rfl)) rfl ?_;intro f h
  refine ac h (ai (h.ev rfl)) rfl ?_;intro f h
  refine ah ?_
  refine hK7 _ _ ?_
  refine aj fun K8 hK8=>?_
  refine bJ 7 [[],[0],[0,1],[],[3],[3,4],[0,1,2,3,4,5]] h (by kernel_rfl) (by kernel_rfl) (by kernel_rfl) ?_
  refine ap h (ag (h.ev rfl)) rfl ?_;intro f h
  refine ap h (fD (k) Tryz.underlying26 fy (h.ev rfl) (h.ev rfl) (by omega) (by omega)) rfl ?_;intro f h
  refine dp 1 h s jj rfl rfl (cU _ _ (by omega)) rfl ?_;intro f h
  refine ap h (ag (h.ev rfl)) rfl ?_;intro f h
  refine ap h (fD (k) Tryz.underlying26 fy (h.ev rfl) (h.ev rfl) (by omega) (by omega)) rfl ?_;intro f h
  refine dp 0 h s jj rfl rfl (cU _ _ (by omega)) rfl ?_;intro f h
  refine ap h (cO (h.ev rfl) (h.ev rfl)) rfl ?_;intro f h
  refine cn s fun w1 s=>?_
  refine ah ?_
  refine hK8 _ _ ?_
  refine bA h rfl (fun hc=>?_) (fun hc=>?_)
  ·replace hc:=of_decide_eq_true hc
   refine aj fun K9 hK9=>?_
   refine bJ 8 [[],[0],[0,1],[],[3],[3,4],[0,1,2,3,4,5],[0,1,2,3,4,5,6]] h (by kernel_rfl) (by kernel_rfl) (by kernel_rfl) ?_
   refine ap h (ag (h.ev rfl)) rfl ?_;intro f h
   refine ap h (fD (k) Tryz.underlying26 fy (h.ev rfl) (h.ev rfl) (by omega) (by omega)) rfl ?_;intro f h
   refine dp 1 h s jj rfl rfl (cU _ _ (by omega)) rfl ?_;intro f h
   refine ap h (ag (h.ev rfl)) rfl ?_;intro f h
   refine ap h (fD (k) Tryz.underlying26 fy (h.ev rfl) (h.ev rfl) (by omega) (by omega)) rfl ?_;intro f h
   refine dp 0 h s jj rfl rfl (cU _ _ (by omega)) rfl ?_;intro f h
   refine cm h za (fun w9 hE9=>tx _ _ w9) rfl rfl ?_;intro f h
   refine ap h (ai (h.ev rfl)) rfl ?_;intro f h
   refine cn s fun w1 s=>?_
   refine ah ?_
   refine hK9 _ _ ?_
   refine wpIn_ret ?_
   refine bu ?_
   refine aQ ?_
   refine aQ ?_
   refine bu ?_
   refine aQ ?_
   exact aX rfl h s rfl (by show _=_;rw [yM a b k (by omega) hp1 hc])
  ·replace hc:=of_decide_eq_false hc
   refine wpIn_skip ?_
   refine bF ?_
   refine hK6 _ _ ?_
   refine ae ?_
   refine ac h (cg (h.ev rfl) (h.ev rfl) (by omega)) rfl ?_;intro f h
   refine ac h (ag (h.ev rfl)) rfl ?_;intro f h
   refine ah ?_
   refine bQ ?_
   exact ⟨_,by omega,⟨k+1,h.only ⟨rfl,rfl,rfl,rfl,aR rfl (by omega),trivial⟩,St.as s ⟨rfl,rfl,trivial⟩,rfl,by omega,tW a b k (by omega) hp1 (by omega)⟩⟩
 ·replace hc:=of_decide_eq_false hc
  refine wpIn_exit ?_
  refine bw ?_
  refine bw ?_
  refine cq ?_
  refine hK2 _ _ ?_
  refine aj fun K10 hK10=>?_
  refine ae ?_
  refine ac h (ai (h.ev rfl)) rfl ?_;intro f h
  refine ah ?_
  refine hK10 _ _ ?_
  refine wpIn_ret ?_
  exact aX rfl h s rfl (by show _=_;rw [xd a b k (by omega) hp1,mE])
theorem Bn (x a b:Id) (w:World):Calls Tryz.prog 125 [dC x,dC a,dC b].toArray w (cT w (is (.bool (sO x a b)))):=by
 refine bj Tryz.func125 rfl Tryz.ntmps125 rfl [(0,dC x),(1,dC a),(2,dC b)] (by simp) fun f h=>?_
 have s:=St.start w
 refine aj fun K1 hK1=>?_
 refine ae ?_
 refine bT (bq x) h s rfl rfl rfl ?_;intro f w1 b3 h s
 refine bT (bq a) h s rfl rfl rfl ?_;intro f w1 b4 h s
 refine bT (bq b) h s rfl rfl rfl ?_;intro f w1 b5 h s
 refine ac h (ai (h.ev rfl)) rfl ?_;intro f h
 refine ah ?_
 refine hK1 _ _ ?_
 refine aj fun K2 hK2=>?_
 refine aj fun K3 hK3=>?_
 refine ae ?_
 refine ao 1 h s bV rfl rfl (by first|exact aI _|exact aG _ _) rfl ?_;intro f h
 refine ao 0 h s bV rfl rfl (by first|exact aI _|exact aG _ _) rfl ?_;intro f h
 refine ac h (dU fv (h.ev rfl) (h.ev rfl)) rfl ?_;intro f h
 refine ah ?_
 refine hK3 _ _ ?_
 refine bA h rfl (fun hc=>?_) (fun hc=>?_)
 ·have hc:=of_decide_eq_true hc
  refine aj fun K4 hK4=>?_
  refine ae ?_
  refine ac h (ai (h.ev rfl)) rfl ?_;intro f h
  refine ah ?_
  refine hK4 _ _ ?_
  refine wpIn_ret ?_
  refine aQ ?_
  exact aX rfl h s rfl (by show _=_;subst hc;rw [pE])
 ·have hc:=of_decide_eq_false hc
  refine wpIn_skip ?_
  refine hK2 _ _ ?_
  refine aj fun K5 hK5=>?_
  cases hx:(decide (x≠a):Bool)
  ·skip
   refine bJ 14 [[],[],[0,1],[0,1,2],[0,1,2,3],[0,1,2,3],[0,1,2,3,4,5],[0,1,2,3],[0,1,2,3],[0,1,2,3,4,5,6,7,8],[0,1,2,3,4,5,6,7,8,9],[0,1,2,3,4,5,6,7,8,9,10],[0,1,2,3,4,5,6,7,8,9,10,11],[0,1,2,3,4,5,6,7,8,9,10,11,12]] h (by kernel_rfl) (by kernel_rfl) (by kernel_rfl) ?_
   refine br 2 h s bV rfl rfl (by first|exact aI _|exact aG _ _) rfl ?_;intro f h
   refine br 1 h s bV rfl rfl (by first|exact aI _|exact aG _ _) rfl ?_;intro f h
   refine ap h (aw (.bool false) (eI fv (h.ev rfl) (h.ev rfl)) (congrArg Value.bool hx)) rfl ?_;intro f h
   refine ap h (ag (h.ev rfl)) rfl ?_;intro f h
   refine bm (b:=true) h rfl rfl rfl rfl ?_;intro f h
   refine bm (b:=true) h rfl rfl rfl rfl ?_;intro f h
   refine bm (b:=true) h rfl rfl rfl rfl ?_;intro f h
   refine bm (b:=true) h rfl rfl rfl rfl ?_;intro f h
   refine bm (b:=true) h rfl rfl rfl rfl ?_;intro f h
   refine bm (b:=true) h rfl rfl rfl rfl ?_;intro f h
   refine bm (b:=true) h rfl rfl rfl rfl ?_;intro f h
   refine bm (b:=true) h rfl rfl rfl rfl ?_;intro f h
   refine ap h (aE (h.ev rfl) (h.ev rfl)) rfl ?_;intro f h
   refine ap h (ai (h.ev rfl)) rfl ?_;intro f h
   refine cn s fun w1 s=>?_
   refine ah ?_
   refine hK5 _ _ ?_
   refine wpIn_ret ?_
   exact aX rfl h s rfl (by show _=_;unfold sO;rw [hx];simp [hc])
  ·skip
   refine bJ 14 [[],[],[0,1],[0,1,2],[0,1,2,3],[0,1,2,3],[0,1,2,3,4,5],[0,1,2,3],[0,1,2,3],[0,1,2,3,4,5,6,7,8],[0,1,2,3,4,5,6,7,8,9],[0,1,2,3,4,5,6,7,8,9,10],[0,1,2,3,4,5,6,7,8,9,10,11],[0,1,2,3,4,5,6,7,8,9,10,11,12]] h (by kernel_rfl) (by kernel_rfl) (by kernel_rfl) ?_
   refine br 2 h s bV rfl rfl (by first|exact aI _|exact aG _ _) rfl ?_;intro f h
   refine br 1 h s bV rfl rfl (by first|exact aI _|exact aG _ _) rfl ?_;intro f h
   refine ap h (aw (.bool true) (eI fv (h.ev rfl) (h.ev rfl)) (congrArg Value.bool hx)) rfl ?_;intro f h
   refine ap h (ag (h.ev rfl)) rfl ?_;intro f h
   refine bi h rfl rfl rfl ?_
   refine br 1 h s bV rfl rfl (by first|exact aI _|exact aG _ _) rfl ?_;intro f h
   refine bi h rfl rfl rfl ?_
   refine br 2 h s bV rfl rfl (by first|exact aI _|exact aG _ _) rfl ?_;intro f h
   refine bi h rfl rfl rfl ?_
   refine cm h nA (fun w9 hE9=>k7 _ _ w9) rfl rfl ?_;intro f h
   refine bi h rfl rfl rfl ?_
   refine br 1 h s bV rfl rfl (by first|exact aI _|exact aG _ _) rfl ?_;intro f h
   refine bi h rfl rfl rfl ?_
   refine br 0 h s bV rfl rfl (by first|exact aI _|exact aG _ _) rfl ?_;intro f h
   refine bi h rfl rfl rfl ?_
   refine cm h nA (fun w9 hE9=>k7 _ _ w9) rfl rfl ?_;intro f h
   refine bi h rfl rfl rfl ?_
   refine cm h uS (fun w9 hE9=>kC _ _ w9) rfl rfl ?_;intro f h
   refine bi h rfl rfl rfl ?_
   refine ap h (aw (.bool (decide ((x - a).toNat≤(b - a).toNat))) (fH (h.ev rfl) (h.ev rfl)) (congrArg Value.bool (og _ _))) rfl ?_;intro f h
   refine ap h (aJ (h.ev rfl) (h.ev rfl)) rfl ?_;intro f h
   refine ap h (ai (h.ev rfl)) rfl ?_;intro f h
   refine cn s fun w1 s=>?_
   refine ah ?_
   refine hK5 _ _ ?_
   refine wpIn_ret ?_
   exact aX rfl h s rfl (by show _=_;unfold sO;rw [hx];simp [hc])
end Go.Proofs.YthggibfkgofncaaGreat
