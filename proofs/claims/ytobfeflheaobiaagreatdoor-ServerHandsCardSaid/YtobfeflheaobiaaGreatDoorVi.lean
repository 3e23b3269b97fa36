/- What package ident answers. -/
import Derived.Test.YtobfeflheaobiaaGreatDoorCon
set_option linter.unusedVariables false
set_option linter.unusedSimpArgs false
set_option linter.unusedSectionVars false
namespace Go.Proofs.YtobfeflheaobiaaGreatDoor
open Go.RowKit
theorem oQ (x:Int) (w:World):Calls Tryz.prog 124 [.int .u8 x].toArray w (bT w (is (.bool false))):=by
 refine br Tryz.func124 rfl Tryz.ntmps124 rfl fun f h s=>bG ac 1 h rfl fun f h=>cd ac 2 h rfl fun f h=>lg ac (.bool false) h rfl (by simp) rfl fun f h=>e9 ac 1 h rfl fun f h=>wpIn_ret (aI rfl h s rfl (rfl))
theorem yn (x y:Int) (w:World):Calls Tryz.prog 108 [.int .u8 x,.int .u8 y].toArray w (bT w (is (.int .i64 (dc x y)))):=by
 refine br Tryz.func108 rfl Tryz.ntmps108 rfl fun f h s=>bG ac 1 h rfl fun f h=>cd ac 1 h rfl fun f h=>cn h s zU (oQ _ _) rfl rfl fun f w1 h s=>e9 ac 1 h rfl fun f h=>cd ac 1 h rfl fun f h=>cn h s zU (oQ _ _) rfl rfl fun f w1 h s=>e9 ac 1 h rfl fun f h=>al (bG ac 1 h rfl fun f h=>jw h rfl (al (bG ac 1 h rfl fun f h=>jw h rfl (al (bG ac 3 h rfl fun f h=>cq h rfl (fun hc=>?_) (fun hc=>?_))))))
 ·have hc:=of_decide_eq_true hc
  refine bG ac 1 h rfl fun f h=>rt (aI rfl h s rfl (by show _=_;unfold dc;rw [if_pos hc]))
 ·have hc1:=of_decide_eq_false hc
  refine kt (al (bG ac 3 h rfl fun f h=>cL h rfl (fun hc=>?_) (fun hc=>?_)))
  ·refine bG ac 1 h rfl fun f h=>rt (aI rfl h s rfl (by show _=_;unfold dc;rw [if_neg (by omega),if_pos hc]))
  ·refine kt (bG ac 1 h rfl fun f h=>wpIn_ret (aI rfl h s rfl (by show _=_;unfold dc;rw [if_neg (by omega),if_neg (by omega)])))
theorem iY (a b:Id) (w:World):Calls Tryz.prog 91 [en a,en b].toArray w (bT w (is (.int .i64 (dm a b)))):=by
 refine br Tryz.func91 rfl Tryz.ntmps91 rfl fun f h s=>qr (aR (aw a) h s rfl rfl rfl fun f w1 b2 h s=>aR (aw b) h s rfl rfl rfl fun f w1 b3 h s=>e9 ac 1 h rfl fun f h=>al (bG ac 1 h rfl fun f h=>wpIn_block (wpIn_loop_ghost (fun nn aa ww=>∃ k:Nat,Sl 24 aa [(0,en a),(1,en b),(2,.pointer (some ⟨b2,0,none⟩)),(3,.pointer (some ⟨b3,0,none⟩)),(6,.int .i64 (k:Int))]∧St w [.blk b3 (.cells (aw b) 26),.blk b2 (.cells (aw a) 26)] ww∧nn=32 - k∧k≤32∧a.toNat / 256 ^ (32 - k)=b.toNat / 256 ^ (32 - k)) (32 - (0)) ⟨0,h.only ⟨rfl,rfl,rfl,rfl,ar rfl (by omega),trivial⟩,s.as ⟨rfl,rfl,trivial⟩,rfl,by omega,rF a b⟩ ?_)))
 rintro _ f w1 ⟨k,h,s,hnn,hp0,hp1⟩
 refine bG ac 1 h rfl fun f h=>al (cL h rfl (fun hc=>?_) (fun hc=>?_))
 ·refine kt (al (wpIn_block (bG ac 2 h rfl fun f h=>al (d8 7 h (by kernel_rfl) (ay ac 1 h rfl fun f h=>ax h (cD (k) Tryz.underlying26 dG (h.ev rfl) (h.ev rfl) (by omega) (by omega)) rfl fun f h=>bH 1 h s jo rfl rfl (cj _ _ (by omega)) rfl fun f h=>ay ac 1 h rfl fun f h=>ax h (cD (k) Tryz.underlying26 dG (h.ev rfl) (h.ev rfl) (by omega) (by omega)) rfl fun f h=>bH 0 h s jo rfl rfl (cj _ _ (by omega)) rfl fun f h=>ay ac 1 h rfl fun f h=>cc s fun w1 s=>nt (cL h rfl (fun hc=>?_) (fun hc=>?_)))))))
  ·refine al (d8 8 h (by kernel_rfl) (ay ac 1 h rfl fun f h=>ax h (cD (k) Tryz.underlying26 dG (h.ev rfl) (h.ev rfl) (by omega) (by omega)) rfl fun f h=>bH 1 h s jo rfl rfl (cj _ _ (by omega)) rfl fun f h=>ay ac 1 h rfl fun f h=>ax h (cD (k) Tryz.underlying26 dG (h.ev rfl) (h.ev rfl) (by omega) (by omega)) rfl fun f h=>bH 0 h s jo rfl rfl (cj _ _ (by omega)) rfl fun f h=>aX h ES (fun w9 hE9=>yn _ _ w9) rfl rfl fun f h=>ay ac 1 h rfl fun f h=>cc s fun w1 s=>nt (wpIn_ret (cp (bL (bL (cp (bL (aI rfl h s rfl (by show _=_;rw [EC a b k (by omega) hp1 hc]))))))))))
  ·refine wpIn_skip (bg (aH (az (ag h (bh (h.ev rfl) (h.ev rfl) (by omega)) rfl fun f h=>e9 ac 1 h rfl fun f h=>?_))))
   exact ⟨_,by omega,⟨k+1,h.only ⟨rfl,rfl,rfl,rfl,ar rfl (by omega),trivial⟩,St.as s ⟨rfl,rfl,trivial⟩,rfl,by omega,si a b k (by omega) hp1 (by omega)⟩⟩
 ·refine wpIn_exit (aZ (aZ (bQ (aH (bG ac 1 h rfl fun f h=>wpIn_ret (aI rfl h s rfl (by show _=_;rw [wn a b k (by omega) hp1,oU])))))))
theorem uO (a b:Id) (w:World):Calls Tryz.prog 92 [en a,en b].toArray w (bT w (is (en (b - a)))):=by
 refine br Tryz.func92 rfl Tryz.ntmps92 rfl fun f h s=>qr (aR (aw a) h s rfl rfl rfl fun f w1 b2 h s=>aR (aw b) h s rfl rfl rfl fun f w1 b3 h s=>aJ (aw 0#256) h s fD rfl rfl fun f w1 b4 h s=>nt (qr (aJ (aw 0#256) h s fD rfl rfl fun f w1 b5 h s=>nt (bG ac 1 h rfl fun f h=>al (bG ac 1 h rfl fun f h=>wpIn_block (wpIn_loop_ghost (fun nn aa ww=>∃ k:Nat,Sl 31 aa [(0,en a),(1,en b),(2,.pointer (some ⟨b2,0,none⟩)),(3,.pointer (some ⟨b3,0,none⟩)),(4,.pointer (some ⟨b4,0,none⟩)),(5,.pointer (some ⟨b5,0,none⟩)),(6,.int .i64 (i1 a.toNat b.toNat (32 - k):Int)),(7,.int .i64 ((k:Int) - 1))]∧St w [.blk b5 (.cells (aw (pk a b (32 - k))) 26),.blk b4 (.cells (aw 0#256) 26),.blk b3 (.cells (aw b) 26),.blk b2 (.cells (aw a) 26)] ww∧nn=k∧k≤32) ((32)) ⟨32,h.only ⟨rfl,rfl,rfl,rfl,rfl,rfl,ar rfl (by rw [Nat.sub_self,wD];rfl),ar rfl (by omega),trivial⟩,s.as ⟨cF (by rw [Nat.sub_self,xA]),rfl,rfl,rfl,trivial⟩,rfl,by omega⟩ ?_))))))
 rintro _ f w1 ⟨k,h,s,hnn,hp0⟩
 have ha:=cV a (k - 1)
 have hb:=cV b (k - 1)
 have hc9:=Dx a.toNat b.toNat (32 - k)
 refine al (bG ac 2 h rfl fun f h=>cL h rfl (fun hc=>?_) (fun hc=>?_))
 ·refine kt (al (wpIn_block (al (d8 12 h (by kernel_rfl) (ay ac 1 h rfl fun f h=>ax h (cD (k - 1) Tryz.underlying26 dG (h.ev rfl) (h.ev rfl) (by omega) (by omega)) rfl fun f h=>bH 2 h s jo rfl rfl (cj _ _ (by omega)) rfl fun f h=>ax h (ey Tryz.underlying5 Tryz.underlying3 (h.ev rfl) (IntWalk.i64_in _ (by omega))) rfl fun f h=>ay ac 1 h rfl fun f h=>ax h (cD (k - 1) Tryz.underlying26 dG (h.ev rfl) (h.ev rfl) (by omega) (by omega)) rfl fun f h=>bH 3 h s jo rfl rfl (cj _ _ (by omega)) rfl fun f h=>ax h (ey Tryz.underlying5 Tryz.underlying3 (h.ev rfl) (IntWalk.i64_in _ (by omega))) rfl fun f h=>ax h (dt (h.ev rfl) (h.ev rfl) (by omega)) rfl fun f h=>ay ac 1 h rfl fun f h=>ax h (dt (h.ev rfl) (h.ev rfl) (by omega)) rfl fun f h=>ay ac 1 h rfl fun f h=>cc s fun w1 s=>nt (bG ac 1 h rfl fun f h=>al (bG ac 2 h rfl fun f h=>cL h rfl (fun hc=>?_) (fun hc=>?_))))))))
  ·refine re ac 1 h rfl fun f h=>rs ac 2 h rfl fun f h=>ag h (gX Tryz.underlying3 Tryz.underlying5 (h.ev rfl)) rfl fun f h=>ag h (cD (k - 1) Tryz.underlying26 dG (h.ev rfl) (h.ev rfl) (by omega) (by omega)) rfl fun f h=>bD 0 h s jo rfl rfl rfl (by simp;omega) (rfl) fun w1 s=>aB (bg (aH (rs ac 1 h rfl fun f h=>ag h (dt (h.ev rfl) (h.ev rfl) (by omega)) rfl fun f h=>e9 ac 1 h rfl fun f h=>?_)))
   exact ⟨_,by omega,⟨k - 1,h.only ⟨rfl,rfl,rfl,rfl,rfl,rfl,ar rfl (by rw [Ap a b k (by omega) (by omega) hc];rfl),ar rfl (by omega),trivial⟩,St.as s ⟨cF (uZ a b k (by omega) (by omega)),rfl,rfl,rfl,trivial⟩,rfl,by omega⟩⟩
  ·refine kt (rs ac 2 h rfl fun f h=>ag h (gX Tryz.underlying3 Tryz.underlying5 (h.ev rfl)) rfl fun f h=>ag h (cD (k - 1) Tryz.underlying26 dG (h.ev rfl) (h.ev rfl) (by omega) (by omega)) rfl fun f h=>bD 0 h s jo rfl rfl rfl (by simp;omega) (rfl) fun w1 s=>aB (bg (aH (rs ac 1 h rfl fun f h=>ag h (dt (h.ev rfl) (h.ev rfl) (by omega)) rfl fun f h=>e9 ac 1 h rfl fun f h=>?_))))
   exact ⟨_,by omega,⟨k - 1,h.only ⟨rfl,rfl,rfl,rfl,rfl,rfl,ar rfl (by rw [zm a b k (by omega) (by omega) hc];rfl),ar rfl (by omega),trivial⟩,St.as s ⟨cF (uZ a b k (by omega) (by omega)),rfl,rfl,rfl,trivial⟩,rfl,by omega⟩⟩
 ·refine wpIn_exit (aZ (aZ (bQ (aH (qr (aj 0 h s aP rfl rfl (by first|exact am _|exact ah _ _) rfl fun f h=>ao 1 h s aP rfl rfl rfl (by first|exact am _|exact ah _ _) (by first|exact am _|exact ah _ _) (by first|exact c8 _|exact bM _ _) fun w1 s=>nt (wpIn_ret (fI 1 rfl h s aP rfl rfl (by first|exact am _|exact ah _ _) (by show _=_;rw [Cr a b k (by omega)])))))))))
theorem FK (x a b:Id) (w:World):Calls Tryz.prog 65 [en x,en a,en b].toArray w (bT w (is (.bool (jz x a b)))):=by
 refine br Tryz.func65 rfl Tryz.ntmps65 rfl fun f h s=>qr (aR (aw x) h s rfl rfl rfl fun f w1 b3 h s=>aR (aw a) h s rfl rfl rfl fun f w1 b4 h s=>aR (aw b) h s rfl rfl rfl fun f w1 b5 h s=>e9 ac 1 h rfl fun f h=>al (qr (aj 1 h s aP rfl rfl (by first|exact am _|exact ah _ _) rfl fun f h=>aj 0 h s aP rfl rfl (by first|exact am _|exact ah _ _) rfl fun f h=>ag h (cG ep (h.ev rfl) (h.ev rfl)) rfl fun f h=>nt (cq h rfl (fun hc=>?_) (fun hc=>?_)))))
 ·have hc:=of_decide_eq_true hc
  refine bG ac 1 h rfl fun f h=>rt (aI rfl h s rfl (by show _=_;subst hc;rw [qO]))
 ·have hc:=of_decide_eq_false hc
  refine kt (al ?_)
  cases hx:(decide (x≠a):Bool)
  ·refine d8 14 h (by kernel_rfl) (aV 2 h s aP rfl rfl (by first|exact am _|exact ah _ _) rfl fun f h=>aV 1 h s aP rfl rfl (by first|exact am _|exact ah _ _) rfl fun f h=>ax h (bm (.bool false) (ox ep (h.ev rfl) (h.ev rfl)) (congrArg Value.bool hx)) rfl fun f h=>ay ac 11 h rfl fun f h=>cc s fun w1 s=>nt (wpIn_ret (aI rfl h s rfl (by show _=_;unfold jz;rw [hx];simp [hc]))))
  ·refine d8 14 h (by kernel_rfl) (aV 2 h s aP rfl rfl (by first|exact am _|exact ah _ _) rfl fun f h=>aV 1 h s aP rfl rfl (by first|exact am _|exact ah _ _) rfl fun f h=>ax h (bm (.bool true) (ox ep (h.ev rfl) (h.ev rfl)) (congrArg Value.bool hx)) rfl fun f h=>ay ac 1 h rfl fun f h=>bn h rfl (aV 1 h s aP rfl rfl (by first|exact am _|exact ah _ _) rfl fun f h=>bn h rfl (aV 2 h s aP rfl rfl (by first|exact am _|exact ah _ _) rfl fun f h=>bn h rfl (aX h Ek (fun w9 hE9=>uO _ _ w9) rfl rfl fun f h=>bn h rfl (aV 1 h s aP rfl rfl (by first|exact am _|exact ah _ _) rfl fun f h=>bn h rfl (aV 0 h s aP rfl rfl (by first|exact am _|exact ah _ _) rfl fun f h=>bn h rfl (aX h Ek (fun w9 hE9=>uO _ _ w9) rfl rfl fun f h=>bn h rfl (aX h ym (fun w9 hE9=>iY _ _ w9) rfl rfl fun f h=>bn h rfl (ax h (bm (.bool (decide ((x - a).toNat≤(b - a).toNat))) (pE (h.ev rfl) (h.ev rfl)) (congrArg Value.bool (pO _ _))) rfl fun f h=>ay ac 2 h rfl fun f h=>cc s fun w1 s=>nt (wpIn_ret (aI rfl h s rfl (by show _=_;unfold jz;rw [hx];simp [hc]))))))))))))
theorem xY (x:Nat) (hx:x<256) (w:World):Calls Tryz.prog 141 [.int .u8 (x:Int)].toArray w (bT w (is (.int .i64 (gt x:Int)))):=by
 have hl:=ky x hx
 refine br Tryz.func141 rfl Tryz.ntmps141 rfl fun f h s=>bG ac 1 h rfl fun f h=>cd ac 1 h rfl fun f h=>ag h (pA Tryz.underlying9 (x) (h.ev rfl) (h.ev rfl) (rfl) (JZ (by kernel_rfl) x hx)) rfl fun f h=>ag h (ey Tryz.underlying5 Tryz.underlying3 (h.ev rfl) (IntWalk.i64_in _ (by rw [u6 x hx];omega))) rfl fun f h=>e9 ac 1 h rfl fun f h=>wpIn_ret (aI rfl h s rfl (by show _=_;rw [u6 x hx]))
theorem Dj (x:Nat) (hx:x<256) (w:World):Calls Tryz.prog 131 [.int .u8 (x:Int)].toArray w (bT w (is (.int .i64 (8 - (gt x:Int))))):=by
 have hl:=ky x hx
 refine br Tryz.func131 rfl Tryz.ntmps131 rfl fun f h s=>bG ac 1 h rfl fun f h=>cd ac 1 h rfl fun f h=>cn h s Gk (xY _ hx _) rfl rfl fun f w1 h s=>ag h (dt (h.ev rfl) (h.ev rfl) (by omega)) rfl fun f h=>e9 ac 1 h rfl fun f h=>wpIn_ret (aI rfl h s rfl (rfl))
theorem tC (a b:Id) (w:World):Calls Tryz.prog 117 [en a,en b].toArray w (bT w (is (.int .i64 (kX a b:Int)))):=by
 refine br Tryz.func117 rfl Tryz.ntmps117 rfl fun f h s=>qr (aR (aw a) h s rfl rfl rfl fun f w1 b2 h s=>aR (aw b) h s rfl rfl rfl fun f w1 b3 h s=>e9 ac 1 h rfl fun f h=>al (bG ac 1 h rfl fun f h=>wpIn_block (wpIn_loop_ghost (fun nn aa ww=>∃ k:Nat,Sl 28 aa [(0,en a),(1,en b),(2,.pointer (some ⟨b2,0,none⟩)),(3,.pointer (some ⟨b3,0,none⟩)),(6,.int .i64 (k:Int))]∧St w [.blk b3 (.cells (aw b) 26),.blk b2 (.cells (aw a) 26)] ww∧nn=32 - k∧k≤32∧a.toNat / 256 ^ (32 - k)=b.toNat / 256 ^ (32 - k)) (32 - (0)) ⟨0,h.only ⟨rfl,rfl,rfl,rfl,ar rfl (by omega),trivial⟩,s.as ⟨rfl,rfl,trivial⟩,rfl,by omega,rF a b⟩ ?_)))
 rintro _ f w1 ⟨k,h,s,hnn,hp0,hp1⟩
 have ha:=cV a k
 have hb:=cV b k
 have hl:=ky (aS a k ^^^ aS b k) (Nat.xor_lt_two_pow (n:=8) ha hb)
 refine bG ac 1 h rfl fun f h=>al (cL h rfl (fun hc=>?_) (fun hc=>?_))
 ·refine kt (al (wpIn_block (bG ac 2 h rfl fun f h=>al (d8 7 h (by kernel_rfl) (ay ac 1 h rfl fun f h=>ax h (cD (k) Tryz.underlying26 dG (h.ev rfl) (h.ev rfl) (by omega) (by omega)) rfl fun f h=>bH 1 h s jo rfl rfl (cj _ _ (by omega)) rfl fun f h=>ay ac 1 h rfl fun f h=>ax h (cD (k) Tryz.underlying26 dG (h.ev rfl) (h.ev rfl) (by omega) (by omega)) rfl fun f h=>bH 0 h s jo rfl rfl (cj _ _ (by omega)) rfl fun f h=>ay ac 1 h rfl fun f h=>cc s fun w1 s=>nt (cL h rfl (fun hc=>?_) (fun hc=>?_)))))))
  ·refine al (d8 12 h (by kernel_rfl) (ay ac 1 h rfl fun f h=>ax h (Ay (h.ev rfl) (h.ev rfl) (by omega)) rfl fun f h=>ay ac 1 h rfl fun f h=>ax h (cD (k) Tryz.underlying26 dG (h.ev rfl) (h.ev rfl) (by omega) (by omega)) rfl fun f h=>bH 1 h s jo rfl rfl (cj _ _ (by omega)) rfl fun f h=>ay ac 1 h rfl fun f h=>ax h (cD (k) Tryz.underlying26 dG (h.ev rfl) (h.ev rfl) (by omega) (by omega)) rfl fun f h=>bH 0 h s jo rfl rfl (cj _ _ (by omega)) rfl fun f h=>ax h (wE (h.ev rfl) (h.ev rfl) (by omega) (by omega)) rfl fun f h=>aX h Et (fun w9 hE9=>Dj _ (Nat.xor_lt_two_pow (n:=8) (cV _ _) (cV _ _)) w9) rfl rfl fun f h=>ax h (bh (h.ev rfl) (h.ev rfl) (by omega)) rfl fun f h=>ay ac 1 h rfl fun f h=>cc s fun w1 s=>nt (wpIn_ret (cp (bL (bL (cp (bL (aI rfl h s rfl (by show _=_;rw [yD a b k (by omega) hp1 (by omega)]))))))))))
  ·refine wpIn_skip (bg (aH (az (ag h (bh (h.ev rfl) (h.ev rfl) (by omega)) rfl fun f h=>e9 ac 1 h rfl fun f h=>?_))))
   exact ⟨_,by omega,⟨k+1,h.only ⟨rfl,rfl,rfl,rfl,ar rfl (by omega),trivial⟩,St.as s ⟨rfl,rfl,trivial⟩,rfl,by omega,si a b k (by omega) hp1 (by omega)⟩⟩
 ·refine wpIn_exit (aZ (aZ (bQ (aH (bG ac 1 h rfl fun f h=>wpIn_ret (aI rfl h s rfl (by show _=_;rw [(BJ a b).2 (wn a b k (by omega) hp1)];rfl)))))))
end Go.Proofs.YtobfeflheaobiaaGreatDoor
