/- What package ident answers. -/
import Derived.Test.YtobfeflheaobiaaGreatDoorCon
set_option linter.unusedVariables false
set_option linter.unusedSimpArgs false
set_option linter.unusedSectionVars false
namespace Go.Proofs.YtobfeflheaobiaaGreatDoor
open Go.RowKit
theorem sd (x:Int) (w:World):Calls Tryz.prog 124 [.int .u8 x].toArray w (cp w (is (.bool false))):=by
 refine bF Tryz.func124 rfl Tryz.ntmps124 rfl fun f h s=>bH ab 1 h rfl fun f h=>bZ ab 2 h rfl fun f h=>qh ab (.bool false) h rfl (by simp) rfl fun f h=>e9 ab 1 h rfl fun f h=>wpIn_ret (aH rfl h s rfl (rfl))
theorem CC (x y:Int) (w:World):Calls Tryz.prog 108 [.int .u8 x,.int .u8 y].toArray w (cp w (is (.int .i64 (er x y)))):=by
 refine bF Tryz.func108 rfl Tryz.ntmps108 rfl fun f h s=>bH ab 1 h rfl fun f h=>bZ ab 1 h rfl fun f h=>c7 h s BK (sd _ _) rfl rfl fun f w1 h s=>e9 ab 1 h rfl fun f h=>bZ ab 1 h rfl fun f h=>c7 h s BK (sd _ _) rfl rfl fun f w1 h s=>e9 ab 1 h rfl fun f h=>al (bH ab 1 h rfl fun f h=>iU h rfl (al (bH ab 1 h rfl fun f h=>iU h rfl (al (bH ab 3 h rfl fun f h=>cd h rfl (fun hc=>?_) (fun hc=>?_))))))
 ·have hc:=of_decide_eq_true hc
  refine bH ab 1 h rfl fun f h=>rt (aH rfl h s rfl (by show _=_;unfold er;rw [if_pos hc]))
 ·have hc1:=of_decide_eq_false hc
  refine kt (al (bH ab 3 h rfl fun f h=>cV h rfl (fun hc=>?_) (fun hc=>?_)))
  ·refine bH ab 1 h rfl fun f h=>rt (aH rfl h s rfl (by show _=_;unfold er;rw [if_neg (by omega),if_pos hc]))
  ·refine kt (bH ab 1 h rfl fun f h=>wpIn_ret (aH rfl h s rfl (by show _=_;unfold er;rw [if_neg (by omega),if_neg (by omega)])))
theorem o3 (a b:Id) (w:World):Calls Tryz.prog 91 [gp a,gp b].toArray w (cp w (is (.int .i64 (eH a b)))):=by
 refine bF Tryz.func91 rfl Tryz.ntmps91 rfl fun f h s=>qr (aZ (aA a) h s rfl rfl rfl fun f w1 b2 h s=>aZ (aA b) h s rfl rfl rfl fun f w1 b3 h s=>e9 ab 1 h rfl fun f h=>al (bH ab 1 h rfl fun f h=>wpIn_block (wpIn_loop_ghost (fun nn aa ww=>∃ k:Nat,Sl 24 aa [(0,gp a),(1,gp b),(2,.pointer (some ⟨b2,0,none⟩)),(3,.pointer (some ⟨b3,0,none⟩)),(6,.int .i64 (k:Int))]∧St w [.blk b3 (.cells (aA b) 26),.blk b2 (.cells (aA a) 26)] ww∧nn=32 - k∧k≤32∧a.toNat / 256 ^ (32 - k)=b.toNat / 256 ^ (32 - k)) (32 - (0)) ⟨0,h.only ⟨rfl,rfl,rfl,rfl,aq rfl (by omega),trivial⟩,s.as ⟨rfl,rfl,trivial⟩,rfl,by omega,wr a b⟩ ?_)))
 rintro _ f w1 ⟨k,h,s,hnn,hp0,hp1⟩
 refine bH ab 1 h rfl fun f h=>al (cV h rfl (fun hc=>?_) (fun hc=>?_))
 ·refine kt (al (wpIn_block (bH ab 2 h rfl fun f h=>al (eo 7 h (by kernel_rfl) (az ab 1 h rfl fun f h=>au h (dF (k) Tryz.underlying26 ec (h.ev rfl) (h.ev rfl) (by omega) (by omega)) rfl fun f h=>cr 1 h s lm rfl rfl (dP _ _ (by omega)) rfl fun f h=>az ab 1 h rfl fun f h=>au h (dF (k) Tryz.underlying26 ec (h.ev rfl) (h.ev rfl) (by omega) (by omega)) rfl fun f h=>cr 0 h s lm rfl rfl (dP _ _ (by omega)) rfl fun f h=>az ab 1 h rfl fun f h=>cj s fun w1 s=>nt (cV h rfl (fun hc=>?_) (fun hc=>?_)))))))
  ·refine al (eo 8 h (by kernel_rfl) (az ab 1 h rfl fun f h=>au h (dF (k) Tryz.underlying26 ec (h.ev rfl) (h.ev rfl) (by omega) (by omega)) rfl fun f h=>cr 1 h s lm rfl rfl (dP _ _ (by omega)) rfl fun f h=>az ab 1 h rfl fun f h=>au h (dF (k) Tryz.underlying26 ec (h.ev rfl) (h.ev rfl) (by omega) (by omega)) rfl fun f h=>cr 0 h s lm rfl rfl (dP _ _ (by omega)) rfl fun f h=>aY h KI (fun w9 hE9=>CC _ _ w9) rfl rfl fun f h=>az ab 1 h rfl fun f h=>cj s fun w1 s=>nt (wpIn_ret (ck (bK (bK (ck (bK (aH rfl h s rfl (by show _=_;rw [I8 a b k (by omega) hp1 hc]))))))))))
  ·refine wpIn_skip (ba (aE (aF (ae h (a6 (h.ev rfl) (h.ev rfl) (by omega)) rfl fun f h=>e9 ab 1 h rfl fun f h=>?_))))
   exact ⟨_,by omega,⟨k+1,h.only ⟨rfl,rfl,rfl,rfl,aq rfl (by omega),trivial⟩,St.as s ⟨rfl,rfl,trivial⟩,rfl,by omega,uR a b k (by omega) hp1 (by omega)⟩⟩
 ·refine wpIn_exit (aU (aU (bR (aE (bH ab 1 h rfl fun f h=>wpIn_ret (aH rfl h s rfl (by show _=_;rw [yC a b k (by omega) hp1,sE])))))))
theorem BH (x:Nat) (hx:x<256) (w:World):Calls Tryz.prog 141 [.int .u8 (x:Int)].toArray w (cp w (is (.int .i64 (jq x:Int)))):=by
 have hl:=nP x hx
 refine bF Tryz.func141 rfl Tryz.ntmps141 rfl fun f h s=>bH ab 1 h rfl fun f h=>bZ ab 1 h rfl fun f h=>ae h (nx Tryz.underlying9 (x) (h.ev rfl) (h.ev rfl) (rfl) (Oz (by kernel_rfl) x hx)) rfl fun f h=>ae h (gK Tryz.underlying5 Tryz.underlying3 (h.ev rfl) (IntWalk.i64_in _ (by rw [yj x hx];omega))) rfl fun f h=>e9 ab 1 h rfl fun f h=>wpIn_ret (aH rfl h s rfl (by show _=_;rw [yj x hx]))
theorem F4 (x:Nat) (hx:x<256) (w:World):Calls Tryz.prog 131 [.int .u8 (x:Int)].toArray w (cp w (is (.int .i64 (8 - (jq x:Int))))):=by
 have hl:=nP x hx
 refine bF Tryz.func131 rfl Tryz.ntmps131 rfl fun f h s=>bH ab 1 h rfl fun f h=>bZ ab 1 h rfl fun f h=>c7 h s JT (BH _ hx _) rfl rfl fun f w1 h s=>ae h (ea (h.ev rfl) (h.ev rfl) (by omega)) rfl fun f h=>e9 ab 1 h rfl fun f h=>wpIn_ret (aH rfl h s rfl (rfl))
theorem xW (a b:Id) (w:World):Calls Tryz.prog 117 [gp a,gp b].toArray w (cp w (is (.int .i64 (iH a b:Int)))):=by
 refine bF Tryz.func117 rfl Tryz.ntmps117 rfl fun f h s=>qr (aZ (aA a) h s rfl rfl rfl fun f w1 b2 h s=>aZ (aA b) h s rfl rfl rfl fun f w1 b3 h s=>e9 ab 1 h rfl fun f h=>al (bH ab 1 h rfl fun f h=>wpIn_block (wpIn_loop_ghost (fun nn aa ww=>∃ k:Nat,Sl 28 aa [(0,gp a),(1,gp b),(2,.pointer (some ⟨b2,0,none⟩)),(3,.pointer (some ⟨b3,0,none⟩)),(6,.int .i64 (k:Int))]∧St w [.blk b3 (.cells (aA b) 26),.blk b2 (.cells (aA a) 26)] ww∧nn=32 - k∧k≤32∧a.toNat / 256 ^ (32 - k)=b.toNat / 256 ^ (32 - k)) (32 - (0)) ⟨0,h.only ⟨rfl,rfl,rfl,rfl,aq rfl (by omega),trivial⟩,s.as ⟨rfl,rfl,trivial⟩,rfl,by omega,wr a b⟩ ?_)))
 rintro _ f w1 ⟨k,h,s,hnn,hp0,hp1⟩
 have ha:=go a k
 have hb:=go b k
 have hl:=nP (bz a k ^^^ bz b k) (Nat.xor_lt_two_pow (n:=8) ha hb)
 refine bH ab 1 h rfl fun f h=>al (cV h rfl (fun hc=>?_) (fun hc=>?_))
 ·refine kt (al (wpIn_block (bH ab 2 h rfl fun f h=>al (eo 7 h (by kernel_rfl) (az ab 1 h rfl fun f h=>au h (dF (k) Tryz.underlying26 ec (h.ev rfl) (h.ev rfl) (by omega) (by omega)) rfl fun f h=>cr 1 h s lm rfl rfl (dP _ _ (by omega)) rfl fun f h=>az ab 1 h rfl fun f h=>au h (dF (k) Tryz.underlying26 ec (h.ev rfl) (h.ev rfl) (by omega) (by omega)) rfl fun f h=>cr 0 h s lm rfl rfl (dP _ _ (by omega)) rfl fun f h=>az ab 1 h rfl fun f h=>cj s fun w1 s=>nt (cV h rfl (fun hc=>?_) (fun hc=>?_)))))))
  ·refine al (eo 12 h (by kernel_rfl) (az ab 1 h rfl fun f h=>au h (mP (h.ev rfl) (h.ev rfl) (by omega)) rfl fun f h=>az ab 1 h rfl fun f h=>au h (dF (k) Tryz.underlying26 ec (h.ev rfl) (h.ev rfl) (by omega) (by omega)) rfl fun f h=>cr 1 h s lm rfl rfl (dP _ _ (by omega)) rfl fun f h=>az ab 1 h rfl fun f h=>au h (dF (k) Tryz.underlying26 ec (h.ev rfl) (h.ev rfl) (by omega) (by omega)) rfl fun f h=>cr 0 h s lm rfl rfl (dP _ _ (by omega)) rfl fun f h=>au h (AX (h.ev rfl) (h.ev rfl) (by omega) (by omega)) rfl fun f h=>aY h KX (fun w9 hE9=>F4 _ (Nat.xor_lt_two_pow (n:=8) (go _ _) (go _ _)) w9) rfl rfl fun f h=>au h (a6 (h.ev rfl) (h.ev rfl) (by omega)) rfl fun f h=>az ab 1 h rfl fun f h=>cj s fun w1 s=>nt (wpIn_ret (ck (bK (bK (ck (bK (aH rfl h s rfl (by show _=_;rw [ED a b k (by omega) hp1 (by omega)]))))))))))
  ·refine wpIn_skip (ba (aE (aF (ae h (a6 (h.ev rfl) (h.ev rfl) (by omega)) rfl fun f h=>e9 ab 1 h rfl fun f h=>?_))))
   exact ⟨_,by omega,⟨k+1,h.only ⟨rfl,rfl,rfl,rfl,aq rfl (by omega),trivial⟩,St.as s ⟨rfl,rfl,trivial⟩,rfl,by omega,uR a b k (by omega) hp1 (by omega)⟩⟩
 ·refine wpIn_exit (aU (aU (bR (aE (bH ab 1 h rfl fun f h=>wpIn_ret (aH rfl h s rfl (by show _=_;rw [(Gr a b).2 (yC a b k (by omega) hp1)];rfl)))))))
end Go.Proofs.YtobfeflheaobiaaGreatDoor
