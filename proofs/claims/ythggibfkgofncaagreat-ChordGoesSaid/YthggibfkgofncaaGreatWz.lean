/- What package ident answers: ways, comparisons, what is on the way: for all identifiers. -/
import Derived.Test.YthggibfkgofncaaGreatCon
set_option linter.unusedVariables false
set_option linter.unusedSimpArgs false
set_option linter.unusedSectionVars false
namespace Go.Proofs.YthggibfkgofncaaGreat
open Go.RowKit
theorem ni (x:Int) (w:World):Calls Tryz.prog 150 [.int .u8 x].toArray w (cU w (is (.bool false))):=by
 refine bq Tryz.func150 rfl Tryz.ntmps150 rfl [(0,.int .u8 x)] (by simp) fun f h=>?_
 have s:=St.start w
 refine al fun K1 hK1=>?_
 refine ae ?_
 refine ac h (ak (h.ev rfl)) rfl ?_;intro f h
 refine ah ?_
 refine hK1 _ _ ?_
 refine al fun K2 hK2=>?_
 refine ae ?_
 refine ac h (ag (h.ev rfl)) rfl ?_;intro f h
 refine ac h (ag (h.ev rfl)) rfl ?_;intro f h
 refine ac h (aw (.bool false) (cy (h.ev rfl) (h.ev rfl)) (by simp)) rfl ?_;intro f h
 refine ac h (ak (h.ev rfl)) rfl ?_;intro f h
 refine ah ?_
 refine hK2 _ _ ?_
 refine wpIn_ret ?_
 exact bo rfl h s rfl (rfl)
theorem vB (x y:Int) (w:World):Calls Tryz.prog 146 [.int .u8 x,.int .u8 y].toArray w (cU w (is (.int .i64 (d4 x y)))):=by
 refine bq Tryz.func146 rfl Tryz.ntmps146 rfl [(0,.int .u8 x),(1,.int .u8 y)] (by simp) fun f h=>?_
 have s:=St.start w
 refine al fun K1 hK1=>?_
 refine ae ?_
 refine ac h (ak (h.ev rfl)) rfl ?_;intro f h
 refine ah ?_
 refine hK1 _ _ ?_
 refine al fun K2 hK2=>?_
 refine ae ?_
 refine ac h (ag (h.ev rfl)) rfl ?_;intro f h
 refine aI h s wS (ni _ _) rfl rfl ?_;intro f w1 v9 hT hE h s;obtain rfl:=hT
 refine ac h (ak (h.ev rfl)) rfl ?_;intro f h
 refine ah ?_
 refine hK2 _ _ ?_
 refine al fun K3 hK3=>?_
 refine ae ?_
 refine ac h (ag (h.ev rfl)) rfl ?_;intro f h
 refine aI h s wS (ni _ _) rfl rfl ?_;intro f w1 v9 hT hE h s;obtain rfl:=hT
 refine ac h (ak (h.ev rfl)) rfl ?_;intro f h
 refine ah ?_
 refine hK3 _ _ ?_
 refine al fun K4 hK4=>?_
 refine al fun K5 hK5=>?_
 refine ae ?_
 refine ac h (ag (h.ev rfl)) rfl ?_;intro f h
 refine ah ?_
 refine hK5 _ _ ?_
 refine wpIn_cond_false (h.ev rfl) ?_
 refine wpIn_skip ?_
 refine hK4 _ _ ?_
 refine al fun K6 hK6=>?_
 refine al fun K7 hK7=>?_
 refine ae ?_
 refine ac h (ag (h.ev rfl)) rfl ?_;intro f h
 refine ah ?_
 refine hK7 _ _ ?_
 refine wpIn_cond_false (h.ev rfl) ?_
 refine wpIn_skip ?_
 refine hK6 _ _ ?_
 refine al fun K8 hK8=>?_
 refine al fun K9 hK9=>?_
 refine ae ?_
 refine ac h (ag (h.ev rfl)) rfl ?_;intro f h
 refine ac h (ag (h.ev rfl)) rfl ?_;intro f h
 refine ac h (bS (h.ev rfl) (h.ev rfl)) rfl ?_;intro f h
 refine ah ?_
 refine hK9 _ _ ?_
 refine bK h rfl (fun hc=>?_) (fun hc=>?_)
 ·have hc:=of_decide_eq_true hc
  refine al fun K10 hK10=>?_
  refine ae ?_
  refine ac h (ak (h.ev rfl)) rfl ?_;intro f h
  refine ah ?_
  refine hK10 _ _ ?_
  refine wpIn_ret ?_
  refine aY ?_
  exact bo rfl h s rfl (by show _=_;unfold d4;rw [if_pos hc])
 ·have hc1:=of_decide_eq_false hc
  refine wpIn_skip ?_
  refine hK8 _ _ ?_
  refine al fun K11 hK11=>?_
  refine al fun K12 hK12=>?_
  refine ae ?_
  refine ac h (ag (h.ev rfl)) rfl ?_;intro f h
  refine ac h (ag (h.ev rfl)) rfl ?_;intro f h
  refine ac h (cY (h.ev rfl) (h.ev rfl)) rfl ?_;intro f h
  refine ah ?_
  refine hK12 _ _ ?_
  refine bK h rfl (fun hc=>?_) (fun hc=>?_)
  ·replace hc:=of_decide_eq_true hc
   refine al fun K13 hK13=>?_
   refine ae ?_
   refine ac h (ak (h.ev rfl)) rfl ?_;intro f h
   refine ah ?_
   refine hK13 _ _ ?_
   refine wpIn_ret ?_
   refine aY ?_
   exact bo rfl h s rfl (by show _=_;unfold d4;rw [if_neg (by omega),if_pos hc])
  ·replace hc:=of_decide_eq_false hc
   refine wpIn_skip ?_
   refine hK11 _ _ ?_
   refine al fun K14 hK14=>?_
   refine ae ?_
   refine ac h (ak (h.ev rfl)) rfl ?_;intro f h
   refine ah ?_
   refine hK14 _ _ ?_
   refine wpIn_ret ?_
   exact bo rfl h s rfl (by show _=_;unfold d4;rw [if_neg (by omega),if_neg (by omega)])
theorem lh (a b:Id) (w:World):Calls Tryz.prog 139 [ia a,ia b].toArray w (cU w (is (ia (b - a)))):=by
 refine bq Tryz.func139 rfl Tryz.ntmps139 rfl [(0,ia a),(1,ia b)] (by simp) fun f h=>?_
 have s:=St.start w
 refine al fun K1 hK1=>?_
 refine ae ?_
 refine bV (bO a) h s rfl rfl rfl ?_;intro f w1 b2 h s
 refine bV (bO b) h s rfl rfl rfl ?_;intro f w1 b3 h s
 refine bf (bO 0#256) h s wW rfl rfl ?_;intro f w1 b4 h s
 refine ah ?_
 refine hK1 _ _ ?_
 refine al fun K2 hK2=>?_
 refine ae ?_
 refine bf (bO 0#256) h s wW rfl rfl ?_;intro f w1 b5 h s
 refine ah ?_
 refine hK2 _ _ ?_
 refine al fun K3 hK3=>?_
 refine ae ?_
 refine ac h (ak (h.ev rfl)) rfl ?_;intro f h
 refine ah ?_
 refine hK3 _ _ ?_
 refine al fun K4 hK4=>?_
 refine al fun K5 hK5=>?_
 refine ae ?_
 refine ac h (ak (h.ev rfl)) rfl ?_;intro f h
 refine ah ?_
 refine hK5 _ _ ?_
 refine wpIn_block ?_
 refine wpIn_loop_ghost (fun nn aa ww=>∃ k:Nat,Sl 31 aa [(0,ia a),(1,ia b),(2,.pointer (some ⟨b2,0,none⟩)),(3,.pointer (some ⟨b3,0,none⟩)),(4,.pointer (some ⟨b4,0,none⟩)),(5,.pointer (some ⟨b5,0,none⟩)),(6,.int .i64 (iq a.toNat b.toNat (32 - k):Int)),(7,.int .i64 ((k:Int) - 1))]∧St w [.blk b5 (.cells (bO (nR a b (32 - k))) 26),.blk b4 (.cells (bO 0#256) 26),.blk b3 (.cells (bO b) 26),.blk b2 (.cells (bO a) 26)] ww∧nn=k∧k≤32) ((32)) ⟨32,h.only ⟨rfl,rfl,rfl,rfl,rfl,rfl,aO rfl (by rw [Nat.sub_self,sL];rfl),aO rfl (by omega),trivial⟩,s.as ⟨ii (by rw [Nat.sub_self,sD]),rfl,rfl,rfl,trivial⟩,rfl,by omega⟩ ?_
 rintro _ f w1 ⟨k,h,s,hnn,hp0⟩
 have ha:=f7 a (k - 1)
 have hb:=f7 b (k - 1)
 have hc9:=xR a.toNat b.toNat (32 - k)
 refine al fun K6 hK6=>?_
 refine al fun K7 hK7=>?_
 refine ae ?_
 refine ac h (ag (h.ev rfl)) rfl ?_;intro f h
 refine ac h (dm (h.ev rfl) (h.ev rfl)) rfl ?_;intro f h
 refine ah ?_
 refine hK7 _ _ ?_
 refine bK h rfl (fun hc=>?_) (fun hc=>?_)
 ·replace hc:=of_decide_eq_true hc
  refine wpIn_skip ?_
  refine hK6 _ _ ?_
  refine al fun K8 hK8=>?_
  refine wpIn_block ?_
  refine al fun K9 hK9=>?_
  refine bH 12 [[],[0],[0,1],[0,1,2],[],[4],[4,5],[4,5,6],[0,1,2,3,4,5,6,7],[],[0,1,2,3,4,5,6,7,8,9],[0,1,2,3,4,5,6,7,8,9,10]] h (by kernel_rfl) (by kernel_rfl) (by kernel_rfl) ?_
  refine ao h (ag (h.ev rfl)) rfl ?_;intro f h
  refine ao h (kQ (k - 1) Tryz.underlying26 kS (h.ev rfl) (h.ev rfl) (by omega) (by omega)) rfl ?_;intro f h
  refine dq 2 h s pu rfl rfl (dD _ _ (by omega)) rfl ?_;intro f h
  refine ao h (lV Tryz.underlying5 Tryz.underlying3 (h.ev rfl) (IntWalk.i64_in _ (by omega))) rfl ?_;intro f h
  refine ao h (ag (h.ev rfl)) rfl ?_;intro f h
  refine ao h (kQ (k - 1) Tryz.underlying26 kS (h.ev rfl) (h.ev rfl) (by omega) (by omega)) rfl ?_;intro f h
  refine dq 3 h s pu rfl rfl (dD _ _ (by omega)) rfl ?_;intro f h
  refine ao h (lV Tryz.underlying5 Tryz.underlying3 (h.ev rfl) (IntWalk.i64_in _ (by omega))) rfl ?_;intro f h
  refine ao h (eS (h.ev rfl) (h.ev rfl) (by omega)) rfl ?_;intro f h
  refine ao h (ag (h.ev rfl)) rfl ?_;intro f h
  refine ao h (eS (h.ev rfl) (h.ev rfl) (by omega)) rfl ?_;intro f h
  refine ao h (ak (h.ev rfl)) rfl ?_;intro f h
  refine ck s fun w1 s=>?_
  refine ah ?_
  refine hK9 _ _ ?_
  refine al fun K10 hK10=>?_
  refine ae ?_
  refine ac h (ak (h.ev rfl)) rfl ?_;intro f h
  refine ah ?_
  refine hK10 _ _ ?_
  refine al fun K11 hK11=>?_
  refine al fun K12 hK12=>?_
  refine ae ?_
  refine ac h (ag (h.ev rfl)) rfl ?_;intro f h
  refine ac h (bS (h.ev rfl) (h.ev rfl)) rfl ?_;intro f h
  refine ah ?_
  refine hK12 _ _ ?_
  refine bK h rfl (fun hc=>?_) (fun hc=>?_)
  ·replace hc:=of_decide_eq_true hc
   refine ae ?_
   refine ac h (ak (h.ev rfl)) rfl ?_;intro f h
   refine ah ?_
   refine hK11 _ _ ?_
   refine ae ?_
   refine ac h (ag (h.ev rfl)) rfl ?_;intro f h
   refine ac h (ag (h.ev rfl)) rfl ?_;intro f h
   refine ac h (mx Tryz.underlying3 Tryz.underlying5 (h.ev rfl)) rfl ?_;intro f h
   refine ac h (kQ (k - 1) Tryz.underlying26 kS (h.ev rfl) (h.ev rfl) (by omega) (by omega)) rfl ?_;intro f h
   refine br 0 h s pu rfl rfl rfl (by simp;omega) (rfl) ?_;intro w1 s
   refine ah ?_
   refine bF ?_
   refine hK8 _ _ ?_
   refine ae ?_
   refine ac h (ag (h.ev rfl)) rfl ?_;intro f h
   refine ac h (eS (h.ev rfl) (h.ev rfl) (by omega)) rfl ?_;intro f h
   refine ac h (ak (h.ev rfl)) rfl ?_;intro f h
   refine ah ?_
   refine bT ?_
   exact ⟨_,by omega,⟨k - 1,h.only ⟨rfl,rfl,rfl,rfl,rfl,rfl,aO rfl (by rw [vZ a b k (by omega) (by omega) hc];rfl),aO rfl (by omega),trivial⟩,St.as s ⟨ii (si a b k (by omega) (by omega)),rfl,rfl,rfl,trivial⟩,rfl,by omega⟩⟩
  ·replace hc:=of_decide_eq_false hc
   refine wpIn_skip ?_
   refine hK11 _ _ ?_
   refine ae ?_
   refine ac h (ag (h.ev rfl)) rfl ?_;intro f h
   refine ac h (ag (h.ev rfl)) rfl ?_;intro f h
   refine ac h (mx Tryz.underlying3 Tryz.underlying5 (h.ev rfl)) rfl ?_;intro f h
   refine ac h (kQ (k - 1) Tryz.underlying26 kS (h.ev rfl) (h.ev rfl) (by omega) (by omega)) rfl ?_;intro f h
   refine br 0 h s pu rfl rfl rfl (by simp;omega) (rfl) ?_;intro w1 s
   refine ah ?_
   refine bF ?_
   refine hK8 _ _ ?_
   refine ae ?_
   refine ac h (ag (h.ev rfl)) rfl ?_;intro f h
   refine ac h (eS (h.ev rfl) (h.ev rfl) (by omega)) rfl ?_;intro f h
   refine ac h (ak (h.ev rfl)) rfl ?_;intro f h
   refine ah ?_
   refine bT ?_
   exact ⟨_,by omega,⟨k - 1,h.only ⟨rfl,rfl,rfl,rfl,rfl,rfl,aO rfl (by rw [wM a b k (by omega) (by omega) hc];rfl),aO rfl (by omega),trivial⟩,St.as s ⟨ii (si a b k (by omega) (by omega)),rfl,rfl,rfl,trivial⟩,rfl,by omega⟩⟩
 ·replace hc:=of_decide_eq_false hc
  refine wpIn_exit ?_
  refine bJ ?_
  refine bJ ?_
  refine cC ?_
  refine hK4 _ _ ?_
  refine al fun K13 hK13=>?_
  refine ae ?_
  refine au 0 h s cA rfl rfl (by first|exact ba _|exact a6 _ _) rfl ?_;intro f h
  refine az 1 h s cA rfl rfl rfl (by first|exact ba _|exact a6 _ _) (by first|exact ba _|exact a6 _ _) (by first|exact qT _|exact kV _ _) ?_;intro w1 s
  refine ah ?_
  refine hK13 _ _ ?_
  refine wpIn_ret ?_
  exact c5 1 rfl h s cA rfl rfl (by first|exact ba _|exact a6 _ _) (by show _=_;rw [ze a b k (by omega)])
theorem kM (a b:Id) (w:World):Calls Tryz.prog 138 [ia a,ia b].toArray w (cU w (is (.int .i64 (gE a b)))):=by
 refine bq Tryz.func138 rfl Tryz.ntmps138 rfl [(0,ia a),(1,ia b)] (by simp) fun f h=>?_
 have s:=St.start w
 refine al fun K1 hK1=>?_
 refine ae ?_
 refine bV (bO a) h s rfl rfl rfl ?_;intro f w1 b2 h s
 refine bV (bO b) h s rfl rfl rfl ?_;intro f w1 b3 h s
 refine ac h (ak (h.ev rfl)) rfl ?_;intro f h
 refine ah ?_
 refine hK1 _ _ ?_
 refine al fun K2 hK2=>?_
 refine al fun K3 hK3=>?_
 refine ae ?_
 refine ac h (ag (h.ev rfl)) rfl ?_;intro f h
 refine ah ?_
 refine hK3 _ _ ?_
 refine wpIn_block ?_
 refine wpIn_loop_ghost (fun nn aa ww=>∃ k:Nat,Sl 24 aa [(0,ia a),(1,ia b),(2,.pointer (some ⟨b2,0,none⟩)),(3,.pointer (some ⟨b3,0,none⟩)),(6,.int .i64 (k:Int))]∧St w [.blk b3 (.cells (bO b) 26),.blk b2 (.cells (bO a) 26)] ww∧nn=32 - k∧k≤32∧a.toNat / 256 ^ (32 - k)=b.toNat / 256 ^ (32 - k)) (32 - (0)) ⟨0,h.only ⟨rfl,rfl,rfl,rfl,aO rfl (by omega),trivial⟩,s.as ⟨rfl,rfl,trivial⟩,rfl,by omega,xl a b⟩ ?_
 rintro _ f w1 ⟨k,h,s,hnn,hp0,hp1⟩
 refine al fun K4 hK4=>?_
 refine ae ?_
 refine ac h (bS (h.ev rfl) (h.ev rfl)) rfl ?_;intro f h
 refine ah ?_
 refine hK4 _ _ ?_
 refine al fun K5 hK5=>?_
 refine bK h rfl (fun hc=>?_) (fun hc=>?_)
 ·replace hc:=of_decide_eq_true hc
  refine wpIn_skip ?_
  refine hK5 _ _ ?_
  refine al fun K6 hK6=>?_
  refine wpIn_block ?_
  refine al fun K7 hK7=>?_
  refine ae ?_
  refine ac h (ag (h.ev rfl)) rfl ?_;intro f h
  refine ac h (ak (h.ev rfl)) rfl ?_;intro f h
  refine ah ?_
  refine hK7 _ _ ?_
  refine al fun K8 hK8=>?_
  refine bH 7 [[],[0],[0,1],[],[3],[3,4],[0,1,2,3,4,5]] h (by kernel_rfl) (by kernel_rfl) (by kernel_rfl) ?_
  refine ao h (ag (h.ev rfl)) rfl ?_;intro f h
  refine ao h (kQ (k) Tryz.underlying26 kS (h.ev rfl) (h.ev rfl) (by omega) (by omega)) rfl ?_;intro f h
  refine dq 1 h s pu rfl rfl (dD _ _ (by omega)) rfl ?_;intro f h
  refine ao h (ag (h.ev rfl)) rfl ?_;intro f h
  refine ao h (kQ (k) Tryz.underlying26 kS (h.ev rfl) (h.ev rfl) (by omega) (by omega)) rfl ?_;intro f h
  refine dq 0 h s pu rfl rfl (dD _ _ (by omega)) rfl ?_;intro f h
  refine ao h (cy (h.ev rfl) (h.ev rfl)) rfl ?_;intro f h
  refine ck s fun w1 s=>?_
  refine ah ?_
  refine hK8 _ _ ?_
  refine bK h rfl (fun hc=>?_) (fun hc=>?_)
  ·replace hc:=of_decide_eq_true hc
   refine al fun K9 hK9=>?_
   refine bH 8 [[],[0],[0,1],[],[3],[3,4],[0,1,2,3,4,5],[0,1,2,3,4,5,6]] h (by kernel_rfl) (by kernel_rfl) (by kernel_rfl) ?_
   refine ao h (ag (h.ev rfl)) rfl ?_;intro f h
   refine ao h (kQ (k) Tryz.underlying26 kS (h.ev rfl) (h.ev rfl) (by omega) (by omega)) rfl ?_;intro f h
   refine dq 1 h s pu rfl rfl (dD _ _ (by omega)) rfl ?_;intro f h
   refine ao h (ag (h.ev rfl)) rfl ?_;intro f h
   refine ao h (kQ (k) Tryz.underlying26 kS (h.ev rfl) (h.ev rfl) (by omega) (by omega)) rfl ?_;intro f h
   refine dq 0 h s pu rfl rfl (dD _ _ (by omega)) rfl ?_;intro f h
   refine cn h AJ (fun w9 hE9=>vB _ _ w9) rfl rfl ?_;intro f h
   refine ao h (ak (h.ev rfl)) rfl ?_;intro f h
   refine ck s fun w1 s=>?_
   refine ah ?_
   refine hK9 _ _ ?_
   refine wpIn_ret ?_
   refine bQ ?_
   refine aY ?_
   refine aY ?_
   refine bQ ?_
   refine aY ?_
   exact bo rfl h s rfl (by show _=_;rw [AU a b k (by omega) hp1 hc])
  ·replace hc:=of_decide_eq_false hc
   refine wpIn_skip ?_
   refine bF ?_
   refine hK6 _ _ ?_
   refine ae ?_
   refine ac h (ce (h.ev rfl) (h.ev rfl) (by omega)) rfl ?_;intro f h
   refine ac h (ag (h.ev rfl)) rfl ?_;intro f h
   refine ah ?_
   refine bT ?_
   exact ⟨_,by omega,⟨k+1,h.only ⟨rfl,rfl,rfl,rfl,aO rfl (by omega),trivial⟩,St.as s ⟨rfl,rfl,trivial⟩,rfl,by omega,wB a b k (by omega) hp1 (by omega)⟩⟩
 ·replace hc:=of_decide_eq_false hc
  refine wpIn_exit ?_
  refine bJ ?_
  refine bJ ?_
  refine cC ?_
  refine hK2 _ _ ?_
  refine al fun K10 hK10=>?_
  refine ae ?_
  refine ac h (ak (h.ev rfl)) rfl ?_;intro f h
  refine ah ?_
  refine hK10 _ _ ?_
  refine wpIn_ret ?_
  exact bo rfl h s rfl (by show _=_;rw [y1 a b k (by omega) hp1,sT])
theorem ow (x a b:Id) (w:World):Calls Tryz.prog 125 [ia x,ia a,ia b].toArray w (cU w (is (.bool (tv x a b)))):=by
 refine bq Tryz.func125 rfl Tryz.ntmps125 rfl [(0,ia x),(1,ia a),(2,ia b)] (by simp) fun f h=>?_
 have s:=St.start w
 refine al fun K1 hK1=>?_
 refine ae ?_
 refine bV (bO x) h s rfl rfl rfl ?_;intro f w1 b3 h s
 refine bV (bO a) h s rfl rfl rfl ?_;intro f w1 b4 h s
 refine bV (bO b) h s rfl rfl rfl ?_;intro f w1 b5 h s
 refine ac h (ak (h.ev rfl)) rfl ?_;intro f h
 refine ah ?_
 refine hK1 _ _ ?_
 refine al fun K2 hK2=>?_
 refine al fun K3 hK3=>?_
 refine ae ?_
 refine au 1 h s cA rfl rfl (by first|exact ba _|exact a6 _ _) rfl ?_;intro f h
 refine au 0 h s cA rfl rfl (by first|exact ba _|exact a6 _ _) rfl ?_;intro f h
 refine ac h (dN g6 (h.ev rfl) (h.ev rfl)) rfl ?_;intro f h
 refine ah ?_
 refine hK3 _ _ ?_
 refine bK h rfl (fun hc=>?_) (fun hc=>?_)
 ·have hc:=of_decide_eq_true hc
  refine al fun K4 hK4=>?_
  refine ae ?_
  refine ac h (ak (h.ev rfl)) rfl ?_;intro f h
  refine ah ?_
  refine hK4 _ _ ?_
  refine wpIn_ret ?_
  refine aY ?_
  exact bo rfl h s rfl (by show _=_;subst hc;rw [ut])
 ·have hc:=of_decide_eq_false hc
  refine wpIn_skip ?_
  refine hK2 _ _ ?_
  refine al fun K5 hK5=>?_
  cases hx:(decide (x≠a):Bool)
  ·skip
   refine bH 14 [[],[],[0,1],[0,1,2],[0,1,2,3],[0,1,2,3],[0,1,2,3,4,5],[0,1,2,3],[0,1,2,3],[0,1,2,3,4,5,6,7,8],[0,1,2,3,4,5,6,7,8,9],[0,1,2,3,4,5,6,7,8,9,10],[0,1,2,3,4,5,6,7,8,9,10,11],[0,1,2,3,4,5,6,7,8,9,10,11,12]] h (by kernel_rfl) (by kernel_rfl) (by kernel_rfl) ?_
   refine bM 2 h s cA rfl rfl (by first|exact ba _|exact a6 _ _) rfl ?_;intro f h
   refine bM 1 h s cA rfl rfl (by first|exact ba _|exact a6 _ _) rfl ?_;intro f h
   refine ao h (aw (.bool false) (iO g6 (h.ev rfl) (h.ev rfl)) (congrArg Value.bool hx)) rfl ?_;intro f h
   refine ao h (ag (h.ev rfl)) rfl ?_;intro f h
   refine aX (b:=true) h rfl rfl rfl rfl ?_;intro f h
   refine aX (b:=true) h rfl rfl rfl rfl ?_;intro f h
   refine aX (b:=true) h rfl rfl rfl rfl ?_;intro f h
   refine aX (b:=true) h rfl rfl rfl rfl ?_;intro f h
   refine aX (b:=true) h rfl rfl rfl rfl ?_;intro f h
   refine aX (b:=true) h rfl rfl rfl rfl ?_;intro f h
   refine aX (b:=true) h rfl rfl rfl rfl ?_;intro f h
   refine aX (b:=true) h rfl rfl rfl rfl ?_;intro f h
   refine ao h (aF (h.ev rfl) (h.ev rfl)) rfl ?_;intro f h
   refine ao h (ak (h.ev rfl)) rfl ?_;intro f h
   refine ck s fun w1 s=>?_
   refine ah ?_
   refine hK5 _ _ ?_
   refine wpIn_ret ?_
   exact bo rfl h s rfl (by show _=_;unfold tv;rw [hx];simp [hc])
  ·skip
   refine bH 14 [[],[],[0,1],[0,1,2],[0,1,2,3],[0,1,2,3],[0,1,2,3,4,5],[0,1,2,3],[0,1,2,3],[0,1,2,3,4,5,6,7,8],[0,1,2,3,4,5,6,7,8,9],[0,1,2,3,4,5,6,7,8,9,10],[0,1,2,3,4,5,6,7,8,9,10,11],[0,1,2,3,4,5,6,7,8,9,10,11,12]] h (by kernel_rfl) (by kernel_rfl) (by kernel_rfl) ?_
   refine bM 2 h s cA rfl rfl (by first|exact ba _|exact a6 _ _) rfl ?_;intro f h
   refine bM 1 h s cA rfl rfl (by first|exact ba _|exact a6 _ _) rfl ?_;intro f h
   refine ao h (aw (.bool true) (iO g6 (h.ev rfl) (h.ev rfl)) (congrArg Value.bool hx)) rfl ?_;intro f h
   refine ao h (ag (h.ev rfl)) rfl ?_;intro f h
   refine aT h rfl rfl rfl ?_
   refine bM 1 h s cA rfl rfl (by first|exact ba _|exact a6 _ _) rfl ?_;intro f h
   refine aT h rfl rfl rfl ?_
   refine bM 2 h s cA rfl rfl (by first|exact ba _|exact a6 _ _) rfl ?_;intro f h
   refine aT h rfl rfl rfl ?_
   refine cn h n5 (fun w9 hE9=>lh _ _ w9) rfl rfl ?_;intro f h
   refine aT h rfl rfl rfl ?_
   refine bM 1 h s cA rfl rfl (by first|exact ba _|exact a6 _ _) rfl ?_;intro f h
   refine aT h rfl rfl rfl ?_
   refine bM 0 h s cA rfl rfl (by first|exact ba _|exact a6 _ _) rfl ?_;intro f h
   refine aT h rfl rfl rfl ?_
   refine cn h n5 (fun w9 hE9=>lh _ _ w9) rfl rfl ?_;intro f h
   refine aT h rfl rfl rfl ?_
   refine cn h wK (fun w9 hE9=>kM _ _ w9) rfl rfl ?_;intro f h
   refine aT h rfl rfl rfl ?_
   refine ao h (aw (.bool (decide ((x - a).toNat≤(b - a).toNat))) (gL (h.ev rfl) (h.ev rfl)) (congrArg Value.bool (xC _ _))) rfl ?_;intro f h
   refine ao h (aD (h.ev rfl) (h.ev rfl)) rfl ?_;intro f h
   refine ao h (ak (h.ev rfl)) rfl ?_;intro f h
   refine ck s fun w1 s=>?_
   refine ah ?_
   refine hK5 _ _ ?_
   refine wpIn_ret ?_
   exact bo rfl h s rfl (by show _=_;unfold tv;rw [hx];simp [hc])
end Go.Proofs.YthggibfkgofncaaGreat
