/- What package ident answers: ways, comparisons, what is on the way: for all identifiers. -/
import Derived.Test.YthggibfkgofncaaGreatCon
set_option linter.unusedVariables false
set_option linter.unusedSimpArgs false
set_option linter.unusedSectionVars false
namespace Go.Proofs.YthggibfkgofncaaGreat
open Go.RowKit
theorem n5 (x:Int) (w:World):Calls Tryz.prog 150 [.int .u8 x].toArray w (cU w (is (.bool false))):=by
 refine bp Tryz.func150 rfl Tryz.ntmps150 rfl [(0,.int .u8 x)] (by simp) fun f h=>?_
 have s:=St.start w
 refine al fun K1 hK1=>?_
 refine ae ?_
 refine ac h (aj (h.ev rfl)) rfl ?_;intro f h
 refine ah ?_
 refine hK1 _ _ ?_
 refine al fun K2 hK2=>?_
 refine ae ?_
 refine ac h (ag (h.ev rfl)) rfl ?_;intro f h
 refine ac h (ag (h.ev rfl)) rfl ?_;intro f h
 refine ac h (av (.bool false) (c3 (h.ev rfl) (h.ev rfl)) (by simp)) rfl ?_;intro f h
 refine ac h (aj (h.ev rfl)) rfl ?_;intro f h
 refine ah ?_
 refine hK2 _ _ ?_
 refine wpIn_ret ?_
 exact bf rfl h s rfl (rfl)
theorem yd (x y:Int) (w:World):Calls Tryz.prog 146 [.int .u8 x,.int .u8 y].toArray w (cU w (is (.int .i64 (ei x y)))):=by
 refine bp Tryz.func146 rfl Tryz.ntmps146 rfl [(0,.int .u8 x),(1,.int .u8 y)] (by simp) fun f h=>?_
 have s:=St.start w
 refine al fun K1 hK1=>?_
 refine ae ?_
 refine ac h (aj (h.ev rfl)) rfl ?_;intro f h
 refine ah ?_
 refine hK1 _ _ ?_
 refine al fun K2 hK2=>?_
 refine ae ?_
 refine ac h (ag (h.ev rfl)) rfl ?_;intro f h
 refine aH h s wQ (n5 _ _) rfl rfl ?_;intro f w1 v9 hT hE h s;obtain rfl:=hT
 refine ac h (aj (h.ev rfl)) rfl ?_;intro f h
 refine ah ?_
 refine hK2 _ _ ?_
 refine al fun K3 hK3=>?_
 refine ae ?_
 refine ac h (ag (h.ev rfl)) rfl ?_;intro f h
 refine aH h s wQ (n5 _ _) rfl rfl ?_;intro f w1 v9 hT hE h s;obtain rfl:=hT
 refine ac h (aj (h.ev rfl)) rfl ?_;intro f h
 refine ah ?_
 refine hK3 _ _ ?_
 refine al fun K4 hK4=>?_
 refine al fun K5 hK5=>?_
 refine ae ?_
 refine ac h (ag (h.ev rfl)) rfl ?_;intro f h
 refine ah ?_
 refine hK5 _ _ ?_
 refine wpIn_cond_false (h.ev rfl) ?_
 refine wpIn_skip ?_
 refine hK4 _ _ ?_
 refine al fun K6 hK6=>?_
 refine al fun K7 hK7=>?_
 refine ae ?_
 refine ac h (ag (h.ev rfl)) rfl ?_;intro f h
 refine ah ?_
 refine hK7 _ _ ?_
 refine wpIn_cond_false (h.ev rfl) ?_
 refine wpIn_skip ?_
 refine hK6 _ _ ?_
 refine al fun K8 hK8=>?_
 refine al fun K9 hK9=>?_
 refine ae ?_
 refine ac h (ag (h.ev rfl)) rfl ?_;intro f h
 refine ac h (ag (h.ev rfl)) rfl ?_;intro f h
 refine ac h (bN (h.ev rfl) (h.ev rfl)) rfl ?_;intro f h
 refine ah ?_
 refine hK9 _ _ ?_
 refine bM h rfl (fun hc=>?_) (fun hc=>?_)
 ·have hc:=of_decide_eq_true hc
  refine al fun K10 hK10=>?_
  refine ae ?_
  refine ac h (aj (h.ev rfl)) rfl ?_;intro f h
  refine ah ?_
  refine hK10 _ _ ?_
  refine wpIn_ret ?_
  refine aW ?_
  exact bf rfl h s rfl (by show _=_;unfold ei;rw [if_pos hc])
 ·have hc1:=of_decide_eq_false hc
  refine wpIn_skip ?_
  refine hK8 _ _ ?_
  refine al fun K11 hK11=>?_
  refine al fun K12 hK12=>?_
  refine ae ?_
  refine ac h (ag (h.ev rfl)) rfl ?_;intro f h
  refine ac h (ag (h.ev rfl)) rfl ?_;intro f h
  refine ac h (c6 (h.ev rfl) (h.ev rfl)) rfl ?_;intro f h
  refine ah ?_
  refine hK12 _ _ ?_
  refine bM h rfl (fun hc=>?_) (fun hc=>?_)
  ·replace hc:=of_decide_eq_true hc
   refine al fun K13 hK13=>?_
   refine ae ?_
   refine ac h (aj (h.ev rfl)) rfl ?_;intro f h
   refine ah ?_
   refine hK13 _ _ ?_
   refine wpIn_ret ?_
   refine aW ?_
   exact bf rfl h s rfl (by show _=_;unfold ei;rw [if_neg (by omega),if_pos hc])
  ·replace hc:=of_decide_eq_false hc
   refine wpIn_skip ?_
   refine hK11 _ _ ?_
   refine al fun K14 hK14=>?_
   refine ae ?_
   refine ac h (aj (h.ev rfl)) rfl ?_;intro f h
   refine ah ?_
   refine hK14 _ _ ?_
   refine wpIn_ret ?_
   exact bf rfl h s rfl (by show _=_;unfold ei;rw [if_neg (by omega),if_neg (by omega)])
theorem l6 (a b:Id) (w:World):Calls Tryz.prog 139 [fa a,fa b].toArray w (cU w (is (fa (b - a)))):=by
 refine bp Tryz.func139 rfl Tryz.ntmps139 rfl [(0,fa a),(1,fa b)] (by simp) fun f h=>?_
 have s:=St.start w
 refine al fun K1 hK1=>?_
 refine ae ?_
 refine bV (bA a) h s rfl rfl rfl ?_;intro f w1 b2 h s
 refine bV (bA b) h s rfl rfl rfl ?_;intro f w1 b3 h s
 refine bj (bA 0#256) h s xr rfl rfl ?_;intro f w1 b4 h s
 refine ah ?_
 refine hK1 _ _ ?_
 refine al fun K2 hK2=>?_
 refine ae ?_
 refine bj (bA 0#256) h s xr rfl rfl ?_;intro f w1 b5 h s
 refine ah ?_
 refine hK2 _ _ ?_
 refine al fun K3 hK3=>?_
 refine ae ?_
 refine ac h (aj (h.ev rfl)) rfl ?_;intro f h
 refine ah ?_
 refine hK3 _ _ ?_
 refine al fun K4 hK4=>?_
 refine al fun K5 hK5=>?_
 refine ae ?_
 refine ac h (aj (h.ev rfl)) rfl ?_;intro f h
 refine ah ?_
 refine hK5 _ _ ?_
 refine wpIn_block ?_
 refine wpIn_loop_ghost (fun nn aa ww=>∃ k:Nat,Sl 31 aa [(0,fa a),(1,fa b),(2,.pointer (some ⟨b2,0,none⟩)),(3,.pointer (some ⟨b3,0,none⟩)),(4,.pointer (some ⟨b4,0,none⟩)),(5,.pointer (some ⟨b5,0,none⟩)),(6,.int .i64 (iB a.toNat b.toNat (32 - k):Int)),(7,.int .i64 ((k:Int) - 1))]∧St w [.blk b5 (.cells (bA (pw a b (32 - k))) 26),.blk b4 (.cells (bA 0#256) 26),.blk b3 (.cells (bA b) 26),.blk b2 (.cells (bA a) 26)] ww∧nn=k∧k≤32) ((32)) ⟨32,h.only ⟨rfl,rfl,rfl,rfl,rfl,rfl,aQ rfl (by rw [Nat.sub_self,t8];rfl),aQ rfl (by omega),trivial⟩,s.as ⟨il (by rw [Nat.sub_self,uA]),rfl,rfl,rfl,trivial⟩,rfl,by omega⟩ ?_
 rintro _ f w1 ⟨k,h,s,hnn,hp0⟩
 have ha:=fR a (k - 1)
 have hb:=fR b (k - 1)
 have hc9:=zo a.toNat b.toNat (32 - k)
 refine al fun K6 hK6=>?_
 refine al fun K7 hK7=>?_
 refine ae ?_
 refine ac h (ag (h.ev rfl)) rfl ?_;intro f h
 refine ac h (dg (h.ev rfl) (h.ev rfl)) rfl ?_;intro f h
 refine ah ?_
 refine hK7 _ _ ?_
 refine bM h rfl (fun hc=>?_) (fun hc=>?_)
 ·replace hc:=of_decide_eq_true hc
  refine wpIn_skip ?_
  refine hK6 _ _ ?_
  refine al fun K8 hK8=>?_
  refine wpIn_block ?_
  refine al fun K9 hK9=>?_
  refine bI 12 [[],[0],[0,1],[0,1,2],[],[4],[4,5],[4,5,6],[0,1,2,3,4,5,6,7],[],[0,1,2,3,4,5,6,7,8,9],[0,1,2,3,4,5,6,7,8,9,10]] h (by kernel_rfl) (by kernel_rfl) (by kernel_rfl) ?_
  refine ao h (ag (h.ev rfl)) rfl ?_;intro f h
  refine ao h (j4 (k - 1) Tryz.underlying26 ko (h.ev rfl) (h.ev rfl) (by omega) (by omega)) rfl ?_;intro f h
  refine d5 2 h s oV rfl rfl (dA _ _ (by omega)) rfl ?_;intro f h
  refine ao h (jo Tryz.underlying5 Tryz.underlying3 (h.ev rfl) (IntWalk.i64_in _ (by omega))) rfl ?_;intro f h
  refine ao h (ag (h.ev rfl)) rfl ?_;intro f h
  refine ao h (j4 (k - 1) Tryz.underlying26 ko (h.ev rfl) (h.ev rfl) (by omega) (by omega)) rfl ?_;intro f h
  refine d5 3 h s oV rfl rfl (dA _ _ (by omega)) rfl ?_;intro f h
  refine ao h (jo Tryz.underlying5 Tryz.underlying3 (h.ev rfl) (IntWalk.i64_in _ (by omega))) rfl ?_;intro f h
  refine ao h (eU (h.ev rfl) (h.ev rfl) (by omega)) rfl ?_;intro f h
  refine ao h (ag (h.ev rfl)) rfl ?_;intro f h
  refine ao h (eU (h.ev rfl) (h.ev rfl) (by omega)) rfl ?_;intro f h
  refine ao h (aj (h.ev rfl)) rfl ?_;intro f h
  refine cq s fun w1 s=>?_
  refine ah ?_
  refine hK9 _ _ ?_
  refine al fun K10 hK10=>?_
  refine ae ?_
  refine ac h (aj (h.ev rfl)) rfl ?_;intro f h
  refine ah ?_
  refine hK10 _ _ ?_
  refine al fun K11 hK11=>?_
  refine al fun K12 hK12=>?_
  refine ae ?_
  refine ac h (ag (h.ev rfl)) rfl ?_;intro f h
  refine ac h (bN (h.ev rfl) (h.ev rfl)) rfl ?_;intro f h
  refine ah ?_
  refine hK12 _ _ ?_
  refine bM h rfl (fun hc=>?_) (fun hc=>?_)
  ·replace hc:=of_decide_eq_true hc
   refine ae ?_
   refine ac h (aj (h.ev rfl)) rfl ?_;intro f h
   refine ah ?_
   refine hK11 _ _ ?_
   refine ae ?_
   refine ac h (ag (h.ev rfl)) rfl ?_;intro f h
   refine ac h (ag (h.ev rfl)) rfl ?_;intro f h
   refine ac h (nt Tryz.underlying3 Tryz.underlying5 (h.ev rfl)) rfl ?_;intro f h
   refine ac h (j4 (k - 1) Tryz.underlying26 ko (h.ev rfl) (h.ev rfl) (by omega) (by omega)) rfl ?_;intro f h
   refine bg 0 h s oV rfl rfl rfl (by simp;omega) (rfl) ?_;intro w1 s
   refine ah ?_
   refine bF ?_
   refine hK8 _ _ ?_
   refine ae ?_
   refine ac h (ag (h.ev rfl)) rfl ?_;intro f h
   refine ac h (eU (h.ev rfl) (h.ev rfl) (by omega)) rfl ?_;intro f h
   refine ac h (aj (h.ev rfl)) rfl ?_;intro f h
   refine ah ?_
   refine bQ ?_
   exact ⟨_,by omega,⟨k - 1,h.only ⟨rfl,rfl,rfl,rfl,rfl,rfl,aQ rfl (by rw [wi a b k (by omega) (by omega) hc];rfl),aQ rfl (by omega),trivial⟩,St.as s ⟨il (sH a b k (by omega) (by omega)),rfl,rfl,rfl,trivial⟩,rfl,by omega⟩⟩
  ·replace hc:=of_decide_eq_false hc
   refine wpIn_skip ?_
   refine hK11 _ _ ?_
   refine ae ?_
   refine ac h (ag (h.ev rfl)) rfl ?_;intro f h
   refine ac h (ag (h.ev rfl)) rfl ?_;intro f h
   refine ac h (nt Tryz.underlying3 Tryz.underlying5 (h.ev rfl)) rfl ?_;intro f h
   refine ac h (j4 (k - 1) Tryz.underlying26 ko (h.ev rfl) (h.ev rfl) (by omega) (by omega)) rfl ?_;intro f h
   refine bg 0 h s oV rfl rfl rfl (by simp;omega) (rfl) ?_;intro w1 s
   refine ah ?_
   refine bF ?_
   refine hK8 _ _ ?_
   refine ae ?_
   refine ac h (ag (h.ev rfl)) rfl ?_;intro f h
   refine ac h (eU (h.ev rfl) (h.ev rfl) (by omega)) rfl ?_;intro f h
   refine ac h (aj (h.ev rfl)) rfl ?_;intro f h
   refine ah ?_
   refine bQ ?_
   exact ⟨_,by omega,⟨k - 1,h.only ⟨rfl,rfl,rfl,rfl,rfl,rfl,aQ rfl (by rw [ya a b k (by omega) (by omega) hc];rfl),aQ rfl (by omega),trivial⟩,St.as s ⟨il (sH a b k (by omega) (by omega)),rfl,rfl,rfl,trivial⟩,rfl,by omega⟩⟩
 ·replace hc:=of_decide_eq_false hc
  refine wpIn_exit ?_
  refine bJ ?_
  refine bJ ?_
  refine cC ?_
  refine hK4 _ _ ?_
  refine al fun K13 hK13=>?_
  refine ae ?_
  refine ar 0 h s bP rfl rfl (by first|exact aK _|exact aF _ _) rfl ?_;intro f h
  refine ax 1 h s bP rfl rfl rfl (by first|exact aK _|exact aF _ _) (by first|exact aK _|exact aF _ _) (by first|exact rr _|exact k6 _ _) ?_;intro w1 s
  refine ah ?_
  refine hK13 _ _ ?_
  refine wpIn_ret ?_
  exact c8 1 rfl h s bP rfl rfl (by first|exact aK _|exact aF _ _) (by show _=_;rw [yS a b k (by omega)])
theorem lh (a b:Id) (w:World):Calls Tryz.prog 138 [fa a,fa b].toArray w (cU w (is (.int .i64 (fJ a b)))):=by
 refine bp Tryz.func138 rfl Tryz.ntmps138 rfl [(0,fa a),(1,fa b)] (by simp) fun f h=>?_
 have s:=St.start w
 refine al fun K1 hK1=>?_
 refine ae ?_
 refine bV (bA a) h s rfl rfl rfl ?_;intro f w1 b2 h s
 refine bV (bA b) h s rfl rfl rfl ?_;intro f w1 b3 h s
 refine ac h (aj (h.ev rfl)) rfl ?_;intro f h
 refine ah ?_
 refine hK1 _ _ ?_
 refine al fun K2 hK2=>?_
 refine al fun K3 hK3=>?_
 refine ae ?_
 refine ac h (ag (h.ev rfl)) rfl ?_;intro f h
 refine ah ?_
 refine hK3 _ _ ?_
 refine wpIn_block ?_
 refine wpIn_loop_ghost (fun nn aa ww=>∃ k:Nat,Sl 24 aa [(0,fa a),(1,fa b),(2,.pointer (some ⟨b2,0,none⟩)),(3,.pointer (some ⟨b3,0,none⟩)),(6,.int .i64 (k:Int))]∧St w [.blk b3 (.cells (bA b) 26),.blk b2 (.cells (bA a) 26)] ww∧nn=32 - k∧k≤32∧a.toNat / 256 ^ (32 - k)=b.toNat / 256 ^ (32 - k)) (32 - (0)) ⟨0,h.only ⟨rfl,rfl,rfl,rfl,aQ rfl (by omega),trivial⟩,s.as ⟨rfl,rfl,trivial⟩,rfl,by omega,wk a b⟩ ?_
 rintro _ f w1 ⟨k,h,s,hnn,hp0,hp1⟩
 refine al fun K4 hK4=>?_
 refine ae ?_
 refine ac h (bN (h.ev rfl) (h.ev rfl)) rfl ?_;intro f h
 refine ah ?_
 refine hK4 _ _ ?_
 refine al fun K5 hK5=>?_
 refine bM h rfl (fun hc=>?_) (fun hc=>?_)
 ·replace hc:=of_decide_eq_true hc
  refine wpIn_skip ?_
  refine hK5 _ _ ?_
  refine al fun K6 hK6=>?_
  refine wpIn_block ?_
  refine al fun K7 hK7=>?_
  refine ae ?_
  refine ac h (ag (h.ev rfl)) rfl ?_;intro f h
  refine ac h (aj (h.ev rfl)) rfl ?_;intro f h
  refine ah ?_
  refine hK7 _ _ ?_
  refine al fun K8 hK8=>?_
  refine bI 7 [[],[0],[0,1],[],[3],[3,4],[0,1,2,3,4,5]] h (by kernel_rfl) (by kernel_rfl) (by kernel_rfl) ?_
  refine ao h (ag (h.ev rfl)) rfl ?_;intro f h
  refine ao h (j4 (k) Tryz.underlying26 ko (h.ev rfl) (h.ev rfl) (by omega) (by omega)) rfl ?_;intro f h
  refine d5 1 h s oV rfl rfl (dA _ _ (by omega)) rfl ?_;intro f h
  refine ao h (ag (h.ev rfl)) rfl ?_;intro f h
  refine ao h (j4 (k) Tryz.underlying26 ko (h.ev rfl) (h.ev rfl) (by omega) (by omega)) rfl ?_;intro f h
  refine d5 0 h s oV rfl rfl (dA _ _ (by omega)) rfl ?_;intro f h
  refine ao h (c3 (h.ev rfl) (h.ev rfl)) rfl ?_;intro f h
  refine cq s fun w1 s=>?_
  refine ah ?_
  refine hK8 _ _ ?_
  refine bM h rfl (fun hc=>?_) (fun hc=>?_)
  ·replace hc:=of_decide_eq_true hc
   refine al fun K9 hK9=>?_
   refine bI 8 [[],[0],[0,1],[],[3],[3,4],[0,1,2,3,4,5],[0,1,2,3,4,5,6]] h (by kernel_rfl) (by kernel_rfl) (by kernel_rfl) ?_
   refine ao h (ag (h.ev rfl)) rfl ?_;intro f h
   refine ao h (j4 (k) Tryz.underlying26 ko (h.ev rfl) (h.ev rfl) (by omega) (by omega)) rfl ?_;intro f h
   refine d5 1 h s oV rfl rfl (dA _ _ (by omega)) rfl ?_;intro f h
   refine ao h (ag (h.ev rfl)) rfl ?_;intro f h
   refine ao h (j4 (k) Tryz.underlying26 ko (h.ev rfl) (h.ev rfl) (by omega) (by omega)) rfl ?_;intro f h
   refine d5 0 h s oV rfl rfl (dA _ _ (by omega)) rfl ?_;intro f h
   refine cm h BN (fun w9 hE9=>yd _ _ w9) rfl rfl ?_;intro f h
   refine ao h (aj (h.ev rfl)) rfl ?_;intro f h
   refine cq s fun w1 s=>?_
   refine ah ?_
   refine hK9 _ _ ?_
   refine wpIn_ret ?_
   refine bU ?_
   refine aW ?_
   refine aW ?_
   refine bU ?_
   refine aW ?_
   exact bf rfl h s rfl (by show _=_;rw [Bw a b k (by omega) hp1 hc])
  ·replace hc:=of_decide_eq_false hc
   refine wpIn_skip ?_
   refine bF ?_
   refine hK6 _ _ ?_
   refine ae ?_
   refine ac h (cf (h.ev rfl) (h.ev rfl) (by omega)) rfl ?_;intro f h
   refine ac h (ag (h.ev rfl)) rfl ?_;intro f h
   refine ah ?_
   refine bQ ?_
   exact ⟨_,by omega,⟨k+1,h.only ⟨rfl,rfl,rfl,rfl,aQ rfl (by omega),trivial⟩,St.as s ⟨rfl,rfl,trivial⟩,rfl,by omega,xu a b k (by omega) hp1 (by omega)⟩⟩
 ·replace hc:=of_decide_eq_false hc
  refine wpIn_exit ?_
  refine bJ ?_
  refine bJ ?_
  refine cC ?_
  refine hK2 _ _ ?_
  refine al fun K10 hK10=>?_
  refine ae ?_
  refine ac h (aj (h.ev rfl)) rfl ?_;intro f h
  refine ah ?_
  refine hK10 _ _ ?_
  refine wpIn_ret ?_
  exact bf rfl h s rfl (by show _=_;rw [zt a b k (by omega) hp1,nX])
theorem pq (x a b:Id) (w:World):Calls Tryz.prog 125 [fa x,fa a,fa b].toArray w (cU w (is (.bool (nk x a b)))):=by
 refine bp Tryz.func125 rfl Tryz.ntmps125 rfl [(0,fa x),(1,fa a),(2,fa b)] (by simp) fun f h=>?_
 have s:=St.start w
 refine al fun K1 hK1=>?_
 refine ae ?_
 refine bV (bA x) h s rfl rfl rfl ?_;intro f w1 b3 h s
 refine bV (bA a) h s rfl rfl rfl ?_;intro f w1 b4 h s
 refine bV (bA b) h s rfl rfl rfl ?_;intro f w1 b5 h s
 refine ac h (aj (h.ev rfl)) rfl ?_;intro f h
 refine ah ?_
 refine hK1 _ _ ?_
 refine al fun K2 hK2=>?_
 refine al fun K3 hK3=>?_
 refine ae ?_
 refine ar 1 h s bP rfl rfl (by first|exact aK _|exact aF _ _) rfl ?_;intro f h
 refine ar 0 h s bP rfl rfl (by first|exact aK _|exact aF _ _) rfl ?_;intro f h
 refine ac h (dp fC (h.ev rfl) (h.ev rfl)) rfl ?_;intro f h
 refine ah ?_
 refine hK3 _ _ ?_
 refine bM h rfl (fun hc=>?_) (fun hc=>?_)
 ·have hc:=of_decide_eq_true hc
  refine al fun K4 hK4=>?_
  refine ae ?_
  refine ac h (aj (h.ev rfl)) rfl ?_;intro f h
  refine ah ?_
  refine hK4 _ _ ?_
  refine wpIn_ret ?_
  refine aW ?_
  exact bf rfl h s rfl (by show _=_;subst hc;rw [qT])
 ·have hc:=of_decide_eq_false hc
  refine wpIn_skip ?_
  refine hK2 _ _ ?_
  refine al fun K5 hK5=>?_
  cases hx:(decide (x≠a):Bool)
  ·skip
   refine bI 14 [[],[],[0,1],[0,1,2],[0,1,2,3],[0,1,2,3],[0,1,2,3,4,5],[0,1,2,3],[0,1,2,3],[0,1,2,3,4,5,6,7,8],[0,1,2,3,4,5,6,7,8,9],[0,1,2,3,4,5,6,7,8,9,10],[0,1,2,3,4,5,6,7,8,9,10,11],[0,1,2,3,4,5,6,7,8,9,10,11,12]] h (by kernel_rfl) (by kernel_rfl) (by kernel_rfl) ?_
   refine bB 2 h s bP rfl rfl (by first|exact aK _|exact aF _ _) rfl ?_;intro f h
   refine bB 1 h s bP rfl rfl (by first|exact aK _|exact aF _ _) rfl ?_;intro f h
   refine ao h (av (.bool false) (eF fC (h.ev rfl) (h.ev rfl)) (congrArg Value.bool hx)) rfl ?_;intro f h
   refine ao h (ag (h.ev rfl)) rfl ?_;intro f h
   refine aY (b:=true) h rfl rfl rfl rfl ?_;intro f h
   refine aY (b:=true) h rfl rfl rfl rfl ?_;intro f h
   refine aY (b:=true) h rfl rfl rfl rfl ?_;intro f h
   refine aY (b:=true) h rfl rfl rfl rfl ?_;intro f h
   refine aY (b:=true) h rfl rfl rfl rfl ?_;intro f h
   refine aY (b:=true) h rfl rfl rfl rfl ?_;intro f h
   refine aY (b:=true) h rfl rfl rfl rfl ?_;intro f h
   refine aY (b:=true) h rfl rfl rfl rfl ?_;intro f h
   refine ao h (aG (h.ev rfl) (h.ev rfl)) rfl ?_;intro f h
   refine ao h (aj (h.ev rfl)) rfl ?_;intro f h
   refine cq s fun w1 s=>?_
   refine ah ?_
   refine hK5 _ _ ?_
   refine wpIn_ret ?_
   exact bf rfl h s rfl (by show _=_;unfold nk;rw [hx];simp [hc])
  ·skip
   refine bI 14 [[],[],[0,1],[0,1,2],[0,1,2,3],[0,1,2,3],[0,1,2,3,4,5],[0,1,2,3],[0,1,2,3],[0,1,2,3,4,5,6,7,8],[0,1,2,3,4,5,6,7,8,9],[0,1,2,3,4,5,6,7,8,9,10],[0,1,2,3,4,5,6,7,8,9,10,11],[0,1,2,3,4,5,6,7,8,9,10,11,12]] h (by kernel_rfl) (by kernel_rfl) (by kernel_rfl) ?_
   refine bB 2 h s bP rfl rfl (by first|exact aK _|exact aF _ _) rfl ?_;intro f h
   refine bB 1 h s bP rfl rfl (by first|exact aK _|exact aF _ _) rfl ?_;intro f h
   refine ao h (av (.bool true) (eF fC (h.ev rfl) (h.ev rfl)) (congrArg Value.bool hx)) rfl ?_;intro f h
   refine ao h (ag (h.ev rfl)) rfl ?_;intro f h
   refine aV h rfl rfl rfl ?_
   refine bB 1 h s bP rfl rfl (by first|exact aK _|exact aF _ _) rfl ?_;intro f h
   refine aV h rfl rfl rfl ?_
   refine bB 2 h s bP rfl rfl (by first|exact aK _|exact aF _ _) rfl ?_;intro f h
   refine aV h rfl rfl rfl ?_
   refine cm h o4 (fun w9 hE9=>l6 _ _ w9) rfl rfl ?_;intro f h
   refine aV h rfl rfl rfl ?_
   refine bB 1 h s bP rfl rfl (by first|exact aK _|exact aF _ _) rfl ?_;intro f h
   refine aV h rfl rfl rfl ?_
   refine bB 0 h s bP rfl rfl (by first|exact aK _|exact aF _ _) rfl ?_;intro f h
   refine aV h rfl rfl rfl ?_
   refine cm h o4 (fun w9 hE9=>l6 _ _ w9) rfl rfl ?_;intro f h
   refine aV h rfl rfl rfl ?_
   refine cm h xi (fun w9 hE9=>lh _ _ w9) rfl rfl ?_;intro f h
   refine aV h rfl rfl rfl ?_
   refine ao h (av (.bool (decide ((x - a).toNat≤(b - a).toNat))) (fU (h.ev rfl) (h.ev rfl)) (congrArg Value.bool (pg _ _))) rfl ?_;intro f h
   refine ao h (aI (h.ev rfl) (h.ev rfl)) rfl ?_;intro f h
   refine ao h (aj (h.ev rfl)) rfl ?_;intro f h
   refine cq s fun w1 s=>?_
   refine ah ?_
   refine hK5 _ _ ?_
   refine wpIn_ret ?_
   exact bf rfl h s rfl (by show _=_;unfold nk;rw [hx];simp [hc])
end Go.Proofs.YthggibfkgofncaaGreat
