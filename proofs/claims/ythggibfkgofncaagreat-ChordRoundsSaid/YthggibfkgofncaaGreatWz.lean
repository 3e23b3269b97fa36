/- What package ident answers: ways, comparisons, what is on the way: for all identifiers. -/
import Derived.Test.YthggibfkgofncaaGreatCon
set_option linter.unusedVariables false
set_option linter.unusedSimpArgs false
set_option linter.unusedSectionVars false
namespace Go.Proofs.YthggibfkgofncaaGreat
open Go.RowKit
theorem mB (x:Int) (w:World):Calls Tryz.prog 150 [.int .u8 x].toArray w (cO w (is (.bool false))):=by
 refine bh Tryz.func150 rfl Tryz.ntmps150 rfl [(0,.int .u8 x)] (by simp) fun f h=>?_
 have s:=St.start w
 refine ak fun K1 hK1=>?_
 refine ag ?_
 refine ac h (aj (h.ev rfl)) rfl ?_;intro f h
 refine ai ?_
 refine hK1 _ _ ?_
 refine ak fun K2 hK2=>?_
 refine ag ?_
 refine ac h (ah (h.ev rfl)) rfl ?_;intro f h
 refine ac h (ah (h.ev rfl)) rfl ?_;intro f h
 refine ac h (aE (.bool false) (cJ (h.ev rfl) (h.ev rfl)) (by simp)) rfl ?_;intro f h
 refine ac h (aj (h.ev rfl)) rfl ?_;intro f h
 refine ai ?_
 refine hK2 _ _ ?_
 refine wpIn_ret ?_
 exact bu rfl h s rfl (rfl)
theorem vX (x y:Int) (w:World):Calls Tryz.prog 146 [.int .u8 x,.int .u8 y].toArray w (cO w (is (.int .i64 (dN x y)))):=by
 refine bh Tryz.func146 rfl Tryz.ntmps146 rfl [(0,.int .u8 x),(1,.int .u8 y)] (by simp) fun f h=>?_
 have s:=St.start w
 refine ak fun K1 hK1=>?_
 refine ag ?_
 refine ac h (aj (h.ev rfl)) rfl ?_;intro f h
 refine ai ?_
 refine hK1 _ _ ?_
 refine ak fun K2 hK2=>?_
 refine ag ?_
 refine ac h (ah (h.ev rfl)) rfl ?_;intro f h
 refine aK h s u3 (mB _ _) rfl rfl ?_;intro f w1 v9 hT hE h s;obtain rfl:=hT
 refine ac h (aj (h.ev rfl)) rfl ?_;intro f h
 refine ai ?_
 refine hK2 _ _ ?_
 refine ak fun K3 hK3=>?_
 refine ag ?_
 refine ac h (ah (h.ev rfl)) rfl ?_;intro f h
 refine aK h s u3 (mB _ _) rfl rfl ?_;intro f w1 v9 hT hE h s;obtain rfl:=hT
 refine ac h (aj (h.ev rfl)) rfl ?_;intro f h
 refine ai ?_
 refine hK3 _ _ ?_
 refine ak fun K4 hK4=>?_
 refine ak fun K5 hK5=>?_
 refine ag ?_
 refine ac h (ah (h.ev rfl)) rfl ?_;intro f h
 refine ai ?_
 refine hK5 _ _ ?_
 refine wpIn_cond_false (h.ev rfl) ?_
 refine wpIn_skip ?_
 refine hK4 _ _ ?_
 refine ak fun K6 hK6=>?_
 refine ak fun K7 hK7=>?_
 refine ag ?_
 refine ac h (ah (h.ev rfl)) rfl ?_;intro f h
 refine ai ?_
 refine hK7 _ _ ?_
 refine wpIn_cond_false (h.ev rfl) ?_
 refine wpIn_skip ?_
 refine hK6 _ _ ?_
 refine ak fun K8 hK8=>?_
 refine ak fun K9 hK9=>?_
 refine ag ?_
 refine ac h (ah (h.ev rfl)) rfl ?_;intro f h
 refine ac h (ah (h.ev rfl)) rfl ?_;intro f h
 refine ac h (cc (h.ev rfl) (h.ev rfl)) rfl ?_;intro f h
 refine ai ?_
 refine hK9 _ _ ?_
 refine bL h rfl (fun hc=>?_) (fun hc=>?_)
 ·have hc:=of_decide_eq_true hc
  refine ak fun K10 hK10=>?_
  refine ag ?_
  refine ac h (aj (h.ev rfl)) rfl ?_;intro f h
  refine ai ?_
  refine hK10 _ _ ?_
  refine wpIn_ret ?_
  refine a8 ?_
  exact bu rfl h s rfl (by show _=_;unfold dN;rw [if_pos hc])
 ·have hc1:=of_decide_eq_false hc
  refine wpIn_skip ?_
  refine hK8 _ _ ?_
  refine ak fun K11 hK11=>?_
  refine ak fun K12 hK12=>?_
  refine ag ?_
  refine ac h (ah (h.ev rfl)) rfl ?_;intro f h
  refine ac h (ah (h.ev rfl)) rfl ?_;intro f h
  refine ac h (f7 (h.ev rfl) (h.ev rfl)) rfl ?_;intro f h
  refine ai ?_
  refine hK12 _ _ ?_
  refine bL h rfl (fun hc=>?_) (fun hc=>?_)
  ·replace hc:=of_decide_eq_true hc
   refine ak fun K13 hK13=>?_
   refine ag ?_
   refine ac h (aj (h.ev rfl)) rfl ?_;intro f h
   refine ai ?_
   refine hK13 _ _ ?_
   refine wpIn_ret ?_
   refine a8 ?_
   exact bu rfl h s rfl (by show _=_;unfold dN;rw [if_neg (by omega),if_pos hc])
  ·replace hc:=of_decide_eq_false hc
   refine wpIn_skip ?_
   refine hK11 _ _ ?_
   refine ak fun K14 hK14=>?_
   refine ag ?_
   refine ac h (aj (h.ev rfl)) rfl ?_;intro f h
   refine ai ?_
   refine hK14 _ _ ?_
   refine wpIn_ret ?_
   exact bu rfl h s rfl (by show _=_;unfold dN;rw [if_neg (by omega),if_neg (by omega)])
theorem li (a b:Id) (w:World):Calls Tryz.prog 139 [gI a,gI b].toArray w (cO w (is (gI (b - a)))):=by
 refine bh Tryz.func139 rfl Tryz.ntmps139 rfl [(0,gI a),(1,gI b)] (by simp) fun f h=>?_
 have s:=St.start w
 refine ak fun K1 hK1=>?_
 refine ag ?_
 refine bR (bD a) h s rfl rfl rfl ?_;intro f w1 b2 h s
 refine bR (bD b) h s rfl rfl rfl ?_;intro f w1 b3 h s
 refine bi (bD 0#256) h s uh rfl rfl ?_;intro f w1 b4 h s
 refine ai ?_
 refine hK1 _ _ ?_
 refine ak fun K2 hK2=>?_
 refine ag ?_
 refine bi (bD 0#256) h s uh rfl rfl ?_;intro f w1 b5 h s
 refine ai ?_
 refine hK2 _ _ ?_
 refine ak fun K3 hK3=>?_
 refine ag ?_
 refine ac h (aj (h.ev rfl)) rfl ?_;intro f h
 refine ai ?_
 refine hK3 _ _ ?_
 refine ak fun K4 hK4=>?_
 refine ak fun K5 hK5=>?_
 refine ag ?_
 refine ac h (aj (h.ev rfl)) rfl ?_;intro f h
 refine ai ?_
 refine hK5 _ _ ?_
 refine wpIn_block ?_
 refine wpIn_loop_ghost (fun nn aa ww=>∃ k:Nat,Sl 31 aa [(0,gI a),(1,gI b),(2,.pointer (some ⟨b2,0,none⟩)),(3,.pointer (some ⟨b3,0,none⟩)),(4,.pointer (some ⟨b4,0,none⟩)),(5,.pointer (some ⟨b5,0,none⟩)),(6,.int .i64 (gM a.toNat b.toNat (32 - k):Int)),(7,.int .i64 ((k:Int) - 1))]∧St w [.blk b5 (.cells (bD (oq a b (32 - k))) 26),.blk b4 (.cells (bD 0#256) 26),.blk b3 (.cells (bD b) 26),.blk b2 (.cells (bD a) 26)] ww∧nn=k∧k≤32) ((32)) ⟨32,h.only ⟨rfl,rfl,rfl,rfl,rfl,rfl,aQ rfl (by rw [Nat.sub_self,th];rfl),aQ rfl (by omega),trivial⟩,s.as ⟨g4 (by rw [Nat.sub_self,sF]),rfl,rfl,rfl,trivial⟩,rfl,by omega⟩ ?_
 rintro _ f w1 ⟨k,h,s,hnn,hp0⟩
 have ha:=fT a (k - 1)
 have hb:=fT b (k - 1)
 have hc9:=xb a.toNat b.toNat (32 - k)
 refine ak fun K6 hK6=>?_
 refine ak fun K7 hK7=>?_
 refine ag ?_
 refine ac h (ah (h.ev rfl)) rfl ?_;intro f h
 refine ac h (d7 (h.ev rfl) (h.ev rfl)) rfl ?_;intro f h
 refine ai ?_
 refine hK7 _ _ ?_
 refine bL h rfl (fun hc=>?_) (fun hc=>?_)
 ·replace hc:=of_decide_eq_true hc
  refine wpIn_skip ?_
  refine hK6 _ _ ?_
  refine ak fun K8 hK8=>?_
  refine wpIn_block ?_
  refine ak fun K9 hK9=>?_
  refine bG 12 [[],[0],[0,1],[0,1,2],[],[4],[4,5],[4,5,6],[0,1,2,3,4,5,6,7],[],[0,1,2,3,4,5,6,7,8,9],[0,1,2,3,4,5,6,7,8,9,10]] h (by kernel_rfl) (by kernel_rfl) (by kernel_rfl) ?_
  refine ao h (ah (h.ev rfl)) rfl ?_;intro f h
  refine ao h (ke (k - 1) Tryz.underlying26 kq (h.ev rfl) (h.ev rfl) (by omega) (by omega)) rfl ?_;intro f h
  refine dD 2 h s oK rfl rfl (de _ _ (by omega)) rfl ?_;intro f h
  refine ao h (mg Tryz.underlying5 Tryz.underlying3 (h.ev rfl) (IntWalk.i64_in _ (by omega))) rfl ?_;intro f h
  refine ao h (ah (h.ev rfl)) rfl ?_;intro f h
  refine ao h (ke (k - 1) Tryz.underlying26 kq (h.ev rfl) (h.ev rfl) (by omega) (by omega)) rfl ?_;intro f h
  refine dD 3 h s oK rfl rfl (de _ _ (by omega)) rfl ?_;intro f h
  refine ao h (mg Tryz.underlying5 Tryz.underlying3 (h.ev rfl) (IntWalk.i64_in _ (by omega))) rfl ?_;intro f h
  refine ao h (fq (h.ev rfl) (h.ev rfl) (by omega)) rfl ?_;intro f h
  refine ao h (ah (h.ev rfl)) rfl ?_;intro f h
  refine ao h (fq (h.ev rfl) (h.ev rfl) (by omega)) rfl ?_;intro f h
  refine ao h (aj (h.ev rfl)) rfl ?_;intro f h
  refine cn s fun w1 s=>?_
  refine ai ?_
  refine hK9 _ _ ?_
  refine ak fun K10 hK10=>?_
  refine ag ?_
  refine ac h (aj (h.ev rfl)) rfl ?_;intro f h
  refine ai ?_
  refine hK10 _ _ ?_
  refine ak fun K11 hK11=>?_
  refine ak fun K12 hK12=>?_
  refine ag ?_
  refine ac h (ah (h.ev rfl)) rfl ?_;intro f h
  refine ac h (cc (h.ev rfl) (h.ev rfl)) rfl ?_;intro f h
  refine ai ?_
  refine hK12 _ _ ?_
  refine bL h rfl (fun hc=>?_) (fun hc=>?_)
  ·replace hc:=of_decide_eq_true hc
   refine ag ?_
   refine ac h (aj (h.ev rfl)) rfl ?_;intro f h
   refine ai ?_
   refine hK11 _ _ ?_
   refine ag ?_
   refine ac h (ah (h.ev rfl)) rfl ?_;intro f h
   refine ac h (ah (h.ev rfl)) rfl ?_;intro f h
   refine ac h (lU Tryz.underlying3 Tryz.underlying5 (h.ev rfl)) rfl ?_;intro f h
   refine ac h (ke (k - 1) Tryz.underlying26 kq (h.ev rfl) (h.ev rfl) (by omega) (by omega)) rfl ?_;intro f h
   refine bk 0 h s oK rfl rfl rfl (by simp;omega) (rfl) ?_;intro w1 s
   refine ai ?_
   refine bH ?_
   refine hK8 _ _ ?_
   refine ag ?_
   refine ac h (ah (h.ev rfl)) rfl ?_;intro f h
   refine ac h (fq (h.ev rfl) (h.ev rfl) (by omega)) rfl ?_;intro f h
   refine ac h (aj (h.ev rfl)) rfl ?_;intro f h
   refine ai ?_
   refine ca ?_
   exact ⟨_,by omega,⟨k - 1,h.only ⟨rfl,rfl,rfl,rfl,rfl,rfl,aQ rfl (by rw [vT a b k (by omega) (by omega) hc];rfl),aQ rfl (by omega),trivial⟩,St.as s ⟨g4 (rA a b k (by omega) (by omega)),rfl,rfl,rfl,trivial⟩,rfl,by omega⟩⟩
  ·replace hc:=of_decide_eq_false hc
   refine wpIn_skip ?_
   refine hK11 _ _ ?_
   refine ag ?_
   refine ac h (ah (h.ev rfl)) rfl ?_;intro f h
   refine ac h (ah (h.ev rfl)) rfl ?_;intro f h
   refine ac h (lU Tryz.underlying3 Tryz.underlying5 (h.ev rfl)) rfl ?_;intro f h
   refine ac h (ke (k - 1) Tryz.underlying26 kq (h.ev rfl) (h.ev rfl) (by omega) (by omega)) rfl ?_;intro f h
   refine bk 0 h s oK rfl rfl rfl (by simp;omega) (rfl) ?_;intro w1 s
   refine ai ?_
   refine bH ?_
   refine hK8 _ _ ?_
   refine ag ?_
   refine ac h (ah (h.ev rfl)) rfl ?_;intro f h
   refine ac h (fq (h.ev rfl) (h.ev rfl) (by omega)) rfl ?_;intro f h
   refine ac h (aj (h.ev rfl)) rfl ?_;intro f h
   refine ai ?_
   refine ca ?_
   exact ⟨_,by omega,⟨k - 1,h.only ⟨rfl,rfl,rfl,rfl,rfl,rfl,aQ rfl (by rw [vA a b k (by omega) (by omega) hc];rfl),aQ rfl (by omega),trivial⟩,St.as s ⟨g4 (rA a b k (by omega) (by omega)),rfl,rfl,rfl,trivial⟩,rfl,by omega⟩⟩
 ·replace hc:=of_decide_eq_false hc
  refine wpIn_exit ?_
  refine bN ?_
  refine bN ?_
  refine cG ?_
  refine hK4 _ _ ?_
  refine ak fun K13 hK13=>?_
  refine ag ?_
  refine ay 0 h s cq rfl rfl (by first|exact aR _|exact aM _ _) rfl ?_;intro f h
  refine aA 1 h s cq rfl rfl rfl (by first|exact aR _|exact aM _ _) (by first|exact aR _|exact aM _ _) (by first|exact qh _|exact km _ _) ?_;intro w1 s
  refine ai ?_
  refine hK13 _ _ ?_
  refine wpIn_ret ?_
  exact eP 1 rfl h s cq rfl rfl (by first|exact aR _|exact aM _ _) (by show _=_;rw [xa a b k (by omega)])
theorem j3 (a b:Id) (w:World):Calls Tryz.prog 138 [gI a,gI b].toArray w (cO w (is (.int .i64 (gd a b)))):=by
 refine bh Tryz.func138 rfl Tryz.ntmps138 rfl [(0,gI a),(1,gI b)] (by simp) fun f h=>?_
 have s:=St.start w
 refine ak fun K1 hK1=>?_
 refine ag ?_
 refine bR (bD a) h s rfl rfl rfl ?_;intro f w1 b2 h s
 refine bR (bD b) h s rfl rfl rfl ?_;intro f w1 b3 h s
 refine ac h (aj (h.ev rfl)) rfl ?_;intro f h
 refine ai ?_
 refine hK1 _ _ ?_
 refine ak fun K2 hK2=>?_
 refine ak fun K3 hK3=>?_
 refine ag ?_
 refine ac h (ah (h.ev rfl)) rfl ?_;intro f h
 refine ai ?_
 refine hK3 _ _ ?_
 refine wpIn_block ?_
 refine wpIn_loop_ghost (fun nn aa ww=>∃ k:Nat,Sl 24 aa [(0,gI a),(1,gI b),(2,.pointer (some ⟨b2,0,none⟩)),(3,.pointer (some ⟨b3,0,none⟩)),(6,.int .i64 (k:Int))]∧St w [.blk b3 (.cells (bD b) 26),.blk b2 (.cells (bD a) 26)] ww∧nn=32 - k∧k≤32∧a.toNat / 256 ^ (32 - k)=b.toNat / 256 ^ (32 - k)) (32 - (0)) ⟨0,h.only ⟨rfl,rfl,rfl,rfl,aQ rfl (by omega),trivial⟩,s.as ⟨rfl,rfl,trivial⟩,rfl,by omega,uL a b⟩ ?_
 rintro _ f w1 ⟨k,h,s,hnn,hp0,hp1⟩
 refine ak fun K4 hK4=>?_
 refine ag ?_
 refine ac h (cc (h.ev rfl) (h.ev rfl)) rfl ?_;intro f h
 refine ai ?_
 refine hK4 _ _ ?_
 refine ak fun K5 hK5=>?_
 refine bL h rfl (fun hc=>?_) (fun hc=>?_)
 ·replace hc:=of_decide_eq_true hc
  refine wpIn_skip ?_
  refine hK5 _ _ ?_
  refine ak fun K6 hK6=>?_
  refine wpIn_block ?_
  refine ak fun K7 hK7=>?_
  refine ag ?_
  refine ac h (ah (h.ev rfl)) rfl ?_;intro f h
  refine ac h (aj (h.ev rfl)) rfl ?_;intro f h
  refine ai ?_
  refine hK7 _ _ ?_
  refine ak fun K8 hK8=>?_
  refine bG 7 [[],[0],[0,1],[],[3],[3,4],[0,1,2,3,4,5]] h (by kernel_rfl) (by kernel_rfl) (by kernel_rfl) ?_
  refine ao h (ah (h.ev rfl)) rfl ?_;intro f h
  refine ao h (ke (k) Tryz.underlying26 kq (h.ev rfl) (h.ev rfl) (by omega) (by omega)) rfl ?_;intro f h
  refine dD 1 h s oK rfl rfl (de _ _ (by omega)) rfl ?_;intro f h
  refine ao h (ah (h.ev rfl)) rfl ?_;intro f h
  refine ao h (ke (k) Tryz.underlying26 kq (h.ev rfl) (h.ev rfl) (by omega) (by omega)) rfl ?_;intro f h
  refine dD 0 h s oK rfl rfl (de _ _ (by omega)) rfl ?_;intro f h
  refine ao h (cJ (h.ev rfl) (h.ev rfl)) rfl ?_;intro f h
  refine cn s fun w1 s=>?_
  refine ai ?_
  refine hK8 _ _ ?_
  refine bL h rfl (fun hc=>?_) (fun hc=>?_)
  ·replace hc:=of_decide_eq_true hc
   refine ak fun K9 hK9=>?_
   refine bG 8 [[],[0],[0,1],[],[3],[3,4],[0,1,2,3,4,5],[0,1,2,3,4,5,6]] h (by kernel_rfl) (by kernel_rfl) (by kernel_rfl) ?_
   refine ao h (ah (h.ev rfl)) rfl ?_;intro f h
   refine ao h (ke (k) Tryz.underlying26 kq (h.ev rfl) (h.ev rfl) (by omega) (by omega)) rfl ?_;intro f h
   refine dD 1 h s oK rfl rfl (de _ _ (by omega)) rfl ?_;intro f h
   refine ao h (ah (h.ev rfl)) rfl ?_;intro f h
   refine ao h (ke (k) Tryz.underlying26 kq (h.ev rfl) (h.ev rfl) (by omega) (by omega)) rfl ?_;intro f h
   refine dD 0 h s oK rfl rfl (de _ _ (by omega)) rfl ?_;intro f h
   refine cm h AN (fun w9 hE9=>vX _ _ w9) rfl rfl ?_;intro f h
   refine ao h (aj (h.ev rfl)) rfl ?_;intro f h
   refine cn s fun w1 s=>?_
   refine ai ?_
   refine hK9 _ _ ?_
   refine wpIn_ret ?_
   refine bT ?_
   refine a8 ?_
   refine a8 ?_
   refine bT ?_
   refine a8 ?_
   exact bu rfl h s rfl (by show _=_;rw [Ar a b k (by omega) hp1 hc])
  ·replace hc:=of_decide_eq_false hc
   refine wpIn_skip ?_
   refine bH ?_
   refine hK6 _ _ ?_
   refine ag ?_
   refine ac h (cp (h.ev rfl) (h.ev rfl) (by omega)) rfl ?_;intro f h
   refine ac h (ah (h.ev rfl)) rfl ?_;intro f h
   refine ai ?_
   refine ca ?_
   exact ⟨_,by omega,⟨k+1,h.only ⟨rfl,rfl,rfl,rfl,aQ rfl (by omega),trivial⟩,St.as s ⟨rfl,rfl,trivial⟩,rfl,by omega,uW a b k (by omega) hp1 (by omega)⟩⟩
 ·replace hc:=of_decide_eq_false hc
  refine wpIn_exit ?_
  refine bN ?_
  refine bN ?_
  refine cG ?_
  refine hK2 _ _ ?_
  refine ak fun K10 hK10=>?_
  refine ag ?_
  refine ac h (aj (h.ev rfl)) rfl ?_;intro f h
  refine ai ?_
  refine hK10 _ _ ?_
  refine wpIn_ret ?_
  exact bu rfl h s rfl (by show _=_;rw [yu a b k (by omega) hp1,sh])
theorem ol (x a b:Id) (w:World):Calls Tryz.prog 125 [gI x,gI a,gI b].toArray w (cO w (is (.bool (qb x a b)))):=by
 refine bh Tryz.func125 rfl Tryz.ntmps125 rfl [(0,gI x),(1,gI a),(2,gI b)] (by simp) fun f h=>?_
 have s:=St.start w
 refine ak fun K1 hK1=>?_
 refine ag ?_
 refine bR (bD x) h s rfl rfl rfl ?_;intro f w1 b3 h s
 refine bR (bD a) h s rfl rfl rfl ?_;intro f w1 b4 h s
 refine bR (bD b) h s rfl rfl rfl ?_;intro f w1 b5 h s
 refine ac h (aj (h.ev rfl)) rfl ?_;intro f h
 refine ai ?_
 refine hK1 _ _ ?_
 refine ak fun K2 hK2=>?_
 refine ak fun K3 hK3=>?_
 refine ag ?_
 refine ay 1 h s cq rfl rfl (by first|exact aR _|exact aM _ _) rfl ?_;intro f h
 refine ay 0 h s cq rfl rfl (by first|exact aR _|exact aM _ _) rfl ?_;intro f h
 refine ac h (dM gY (h.ev rfl) (h.ev rfl)) rfl ?_;intro f h
 refine ai ?_
 refine hK3 _ _ ?_
 refine bL h rfl (fun hc=>?_) (fun hc=>?_)
 ·have hc:=of_decide_eq_true hc
  refine ak fun K4 hK4=>?_
  refine ag ?_
  refine ac h (aj (h.ev rfl)) rfl ?_;intro f h
  refine ai ?_
  refine hK4 _ _ ?_
  refine wpIn_ret ?_
  refine a8 ?_
  exact bu rfl h s rfl (by show _=_;subst hc;rw [we])
 ·have hc:=of_decide_eq_false hc
  refine wpIn_skip ?_
  refine hK2 _ _ ?_
  refine ak fun K5 hK5=>?_
  cases hx:(decide (x≠a):Bool)
  ·skip
   refine bG 14 [[],[],[0,1],[0,1,2],[0,1,2,3],[0,1,2,3],[0,1,2,3,4,5],[0,1,2,3],[0,1,2,3],[0,1,2,3,4,5,6,7,8],[0,1,2,3,4,5,6,7,8,9],[0,1,2,3,4,5,6,7,8,9,10],[0,1,2,3,4,5,6,7,8,9,10,11],[0,1,2,3,4,5,6,7,8,9,10,11,12]] h (by kernel_rfl) (by kernel_rfl) (by kernel_rfl) ?_
   refine bC 2 h s cq rfl rfl (by first|exact aR _|exact aM _ _) rfl ?_;intro f h
   refine bC 1 h s cq rfl rfl (by first|exact aR _|exact aM _ _) rfl ?_;intro f h
   refine ao h (aE (.bool false) (ik gY (h.ev rfl) (h.ev rfl)) (congrArg Value.bool hx)) rfl ?_;intro f h
   refine ao h (ah (h.ev rfl)) rfl ?_;intro f h
   refine ba (b:=true) h rfl rfl rfl rfl ?_;intro f h
   refine ba (b:=true) h rfl rfl rfl rfl ?_;intro f h
   refine ba (b:=true) h rfl rfl rfl rfl ?_;intro f h
   refine ba (b:=true) h rfl rfl rfl rfl ?_;intro f h
   refine ba (b:=true) h rfl rfl rfl rfl ?_;intro f h
   refine ba (b:=true) h rfl rfl rfl rfl ?_;intro f h
   refine ba (b:=true) h rfl rfl rfl rfl ?_;intro f h
   refine ba (b:=true) h rfl rfl rfl rfl ?_;intro f h
   refine ao h (aL (h.ev rfl) (h.ev rfl)) rfl ?_;intro f h
   refine ao h (aj (h.ev rfl)) rfl ?_;intro f h
   refine cn s fun w1 s=>?_
   refine ai ?_
   refine hK5 _ _ ?_
   refine wpIn_ret ?_
   exact bu rfl h s rfl (by show _=_;unfold qb;rw [hx];simp [hc])
  ·skip
   refine bG 14 [[],[],[0,1],[0,1,2],[0,1,2,3],[0,1,2,3],[0,1,2,3,4,5],[0,1,2,3],[0,1,2,3],[0,1,2,3,4,5,6,7,8],[0,1,2,3,4,5,6,7,8,9],[0,1,2,3,4,5,6,7,8,9,10],[0,1,2,3,4,5,6,7,8,9,10,11],[0,1,2,3,4,5,6,7,8,9,10,11,12]] h (by kernel_rfl) (by kernel_rfl) (by kernel_rfl) ?_
   refine bC 2 h s cq rfl rfl (by first|exact aR _|exact aM _ _) rfl ?_;intro f h
   refine bC 1 h s cq rfl rfl (by first|exact aR _|exact aM _ _) rfl ?_;intro f h
   refine ao h (aE (.bool true) (ik gY (h.ev rfl) (h.ev rfl)) (congrArg Value.bool hx)) rfl ?_;intro f h
   refine ao h (ah (h.ev rfl)) rfl ?_;intro f h
   refine bf h rfl rfl rfl ?_
   refine bC 1 h s cq rfl rfl (by first|exact aR _|exact aM _ _) rfl ?_;intro f h
   refine bf h rfl rfl rfl ?_
   refine bC 2 h s cq rfl rfl (by first|exact aR _|exact aM _ _) rfl ?_;intro f h
   refine bf h rfl rfl rfl ?_
   refine cm h nm (fun w9 hE9=>li _ _ w9) rfl rfl ?_;intro f h
   refine bf h rfl rfl rfl ?_
   refine bC 1 h s cq rfl rfl (by first|exact aR _|exact aM _ _) rfl ?_;intro f h
   refine bf h rfl rfl rfl ?_
   refine bC 0 h s cq rfl rfl (by first|exact aR _|exact aM _ _) rfl ?_;intro f h
   refine bf h rfl rfl rfl ?_
   refine cm h nm (fun w9 hE9=>li _ _ w9) rfl rfl ?_;intro f h
   refine bf h rfl rfl rfl ?_
   refine cm h vt (fun w9 hE9=>j3 _ _ w9) rfl rfl ?_;intro f h
   refine bf h rfl rfl rfl ?_
   refine ao h (aE (.bool (decide ((x - a).toNat≤(b - a).toNat))) (gT (h.ev rfl) (h.ev rfl)) (congrArg Value.bool (wY _ _))) rfl ?_;intro f h
   refine ao h (aO (h.ev rfl) (h.ev rfl)) rfl ?_;intro f h
   refine ao h (aj (h.ev rfl)) rfl ?_;intro f h
   refine cn s fun w1 s=>?_
   refine ai ?_
   refine hK5 _ _ ?_
   refine wpIn_ret ?_
   exact bu rfl h s rfl (by show _=_;unfold qb;rw [hx];simp [hc])
end Go.Proofs.YthggibfkgofncaaGreat
