/- What the reference of ident answers: comparisons, what is on the way, what is in common: for all identifiers. -/
import Derived.Test.YtobfeflheaobiaaGreatDoorCon
set_option linter.unusedVariables false
set_option linter.unusedSimpArgs false
set_option linter.unusedSectionVars false
namespace Go.Proofs.YtobfeflheaobiaaGreatDoor
open Go.RowKit
theorem mJ (a:Id) (n:Nat) (hn:n<256) (w:World):Calls Tryz.prog 93 [en a,.int .i64 (n:Int)].toArray w (bT w (is (.int .i64 (iD a.toNat n:Int)))):=by
 have ha:=cV a (n / 8)
 refine br Tryz.func93 rfl Tryz.ntmps93 rfl fun f h s=>qr (aR (aw a) h s rfl rfl rfl fun f w1 b2 h s=>e9 ac 1 h rfl fun f h=>cd ac 1 h rfl fun f h=>ag h (np (h.ev rfl) (h.ev rfl) (by omega)) rfl fun f h=>ag h (cD (n / 8) Tryz.underlying26 dG (h.ev rfl) (h.ev rfl) (by omega) (by omega)) rfl fun f h=>dX 0 h s jo rfl rfl (cj _ _ (by omega)) rfl fun f h=>ag h (ey Tryz.underlying5 Tryz.underlying3 (h.ev rfl) (IntWalk.i64_in _ (by omega))) rfl fun f h=>e9 ac 1 h rfl fun f h=>al (bG ac 1 h rfl fun f h=>wpIn_block (wpIn_loop_ghost (fun nn aa ww=>∃ k:Nat,Sl 23 aa [(0,en a),(1,.int .i64 (n:Int)),(2,.pointer (some ⟨b2,0,none⟩)),(5,.int .i64 ((aS a (n / 8) / 2 ^ k:Nat):Int)),(6,.int .i64 (k:Int))]∧St w [.blk b2 (.cells (aw a) 26)] ww∧nn=8 - k∧k≤7 - n % 8) (8 - (0)) ⟨0,h.only ⟨rfl,rfl,rfl,ar rfl (by simp),ar rfl (by omega),trivial⟩,s.as ⟨rfl,trivial⟩,rfl,by omega⟩ ?_)))
 rintro _ f w1 ⟨k,h,s,hnn,hp0⟩
 have hd:aS a (n / 8) / 2 ^ k≤aS a (n / 8):=Nat.div_le_self _ _
 have hd0:(0:Int)≤((aS a (n / 8) / 2 ^ k:Nat):Int):=Int.natCast_nonneg _
 refine al (cd ac 2 h rfl fun f h=>ag h (ug (h.ev rfl) (h.ev rfl) (by omega)) rfl fun f h=>ag h (dt (h.ev rfl) (h.ev rfl) (by omega)) rfl fun f h=>e9 ac 1 h rfl fun f h=>cL h rfl (fun hc=>?_) (fun hc=>?_))
 ·refine kt (al (wpIn_block (rs ac 1 h rfl fun f h=>ag h (np (h.ev rfl) (h.ev rfl) (by omega)) rfl fun f h=>aq ac 1 h rfl fun f h=>aB (bg (aH (rs ac 1 h rfl fun f h=>ag h (bh (h.ev rfl) (h.ev rfl) (by omega)) rfl fun f h=>e9 ac 1 h rfl fun f h=>?_))))))
  exact ⟨_,by omega,⟨k+1,h.only ⟨rfl,rfl,rfl,ar rfl (xL _ _),ar rfl (by omega),trivial⟩,St.as s ⟨rfl,trivial⟩,rfl,by omega⟩⟩
 ·refine wpIn_exit (aZ (aZ (bQ (aH (cd ac 1 h rfl fun f h=>ag h (ug (h.ev rfl) (h.ev rfl) (by omega)) rfl fun f h=>e9 ac 1 h rfl fun f h=>wpIn_ret ?_)))))
  have hk8:k=7 - n % 8:=by omega
  subst hk8
  exact aI rfl h s rfl (by show _=_;rw [← BX a n hn];rfl)
theorem dI (a b:Id) (w:World):Calls Tryz.prog 68 [en a,en b].toArray w (bT w (is (.int .i64 (dm a b)))):=by
 refine br Tryz.func68 rfl Tryz.ntmps68 rfl fun f h s=>qr (aR (aw a) h s rfl rfl rfl fun f w1 b2 h s=>aR (aw b) h s rfl rfl rfl fun f w1 b3 h s=>e9 ac 1 h rfl fun f h=>al (bG ac 1 h rfl fun f h=>wpIn_block (wpIn_loop_ghost (fun nn aa ww=>∃ k:Nat,Sl 24 aa [(0,en a),(1,en b),(2,.pointer (some ⟨b2,0,none⟩)),(3,.pointer (some ⟨b3,0,none⟩)),(5,.int .i64 (k:Int))]∧St w [.blk b3 (.cells (aw b) 26),.blk b2 (.cells (aw a) 26)] ww∧nn=256 - k∧k≤256∧a.toNat / 2 ^ (256 - k)=b.toNat / 2 ^ (256 - k)) (256 - (0)) ⟨0,h.only ⟨rfl,rfl,rfl,rfl,ar rfl (by omega),trivial⟩,s.as ⟨rfl,rfl,trivial⟩,rfl,by omega,oF a b⟩ ?_)))
 rintro _ f w1 ⟨k,h,s,hnn,hp0,hp1⟩
 refine al (bG ac 2 h rfl fun f h=>cL h rfl (fun hc=>?_) (fun hc=>?_))
 ·refine kt (al (wpIn_block (al (al (d8 7 h (by kernel_rfl) (aV 1 h s aP rfl rfl (by first|exact am _|exact ah _ _) rfl fun f h=>ay ac 1 h rfl fun f h=>aX h vV (fun w9 hE9=>mJ _ _ (by omega) w9) rfl rfl fun f h=>aV 0 h s aP rfl rfl (by first|exact am _|exact ah _ _) rfl fun f h=>ay ac 1 h rfl fun f h=>aX h vV (fun w9 hE9=>mJ _ _ (by omega) w9) rfl rfl fun f h=>ay ac 1 h rfl fun f h=>cc s fun w1 s=>nt (cL h rfl (fun hc=>?_) (fun hc=>?_))))))))
  ·refine bG ac 1 h rfl fun f h=>rt (cp (bL (bL (cp (bL (aI rfl h s rfl (by show _=_;rw [Ds a b k (by omega) hp1 hc])))))))
  ·refine kt (al (d8 7 h (by kernel_rfl) (aV 1 h s aP rfl rfl (by first|exact am _|exact ah _ _) rfl fun f h=>ay ac 1 h rfl fun f h=>aX h vV (fun w9 hE9=>mJ _ _ (by omega) w9) rfl rfl fun f h=>aV 0 h s aP rfl rfl (by first|exact am _|exact ah _ _) rfl fun f h=>ay ac 1 h rfl fun f h=>aX h vV (fun w9 hE9=>mJ _ _ (by omega) w9) rfl rfl fun f h=>ay ac 1 h rfl fun f h=>cc s fun w1 s=>nt (cL h rfl (fun hc=>?_) (fun hc=>?_)))))
   ·refine bG ac 1 h rfl fun f h=>wpIn_ret (cp (bL (bL (cp (bL (aI rfl h s rfl (by show _=_;rw [B8 a b k (by omega) hp1 hc])))))))
   ·refine wpIn_skip (bg (aH (rs ac 1 h rfl fun f h=>ag h (bh (h.ev rfl) (h.ev rfl) (by omega)) rfl fun f h=>e9 ac 1 h rfl fun f h=>?_)))
    exact ⟨_,by omega,⟨k+1,h.only ⟨rfl,rfl,rfl,rfl,ar rfl (by omega),trivial⟩,St.as s ⟨rfl,rfl,trivial⟩,rfl,by omega,oY a b k (by omega) hp1 (by omega)⟩⟩
 ·refine wpIn_exit (aZ (aZ (bQ (aH (bG ac 1 h rfl fun f h=>wpIn_ret (aI rfl h s rfl (by show _=_;rw [qN a b k (by omega) hp1,oU])))))))
theorem vd (x a b:Id) (w:World):Calls Tryz.prog 39 [en x,en a,en b].toArray w (bT w (is (.bool (jz x a b)))):=by
 refine br Tryz.func39 rfl Tryz.ntmps39 rfl fun f h s=>qr (aR (aw x) h s rfl rfl rfl fun f w1 b3 h s=>aR (aw a) h s rfl rfl rfl fun f w1 b4 h s=>aR (aw b) h s rfl rfl rfl fun f w1 b5 h s=>e9 ac 1 h rfl fun f h=>al (qr (aj 1 h s aP rfl rfl (by first|exact am _|exact ah _ _) rfl fun f h=>aj 0 h s aP rfl rfl (by first|exact am _|exact ah _ _) rfl fun f h=>ag h (cG ep (h.ev rfl) (h.ev rfl)) rfl fun f h=>nt (cq h rfl (fun hc=>?_) (fun hc=>?_)))))
 ·have hc:=of_decide_eq_true hc
  refine bG ac 1 h rfl fun f h=>rt (aI rfl h s rfl (by show _=_;subst hc;rw [qO]))
 ·have hne:=of_decide_eq_false hc
  refine kt (al (qr (aj 1 h s aP rfl rfl (by first|exact am _|exact ah _ _) rfl fun f h=>aj 0 h s aP rfl rfl (by first|exact am _|exact ah _ _) rfl fun f h=>cn h s mX (dI _ _ _) rfl rfl fun f w1 h s=>lg ac (.bool (decide (a.toNat<b.toNat))) h rfl (congrArg Value.bool (mF _ _)) rfl fun f h=>nt (cq h rfl (fun hc=>?_) (fun hc=>?_)))))
  ·have hd:=of_decide_eq_true hc
   refine al ?_
   refine az (aj 1 h s aP rfl rfl (by first|exact am _|exact ah _ _) rfl fun f h=>aj 2 h s aP rfl rfl (by first|exact am _|exact ah _ _) rfl fun f h=>cn h s mX (dI _ _ _) rfl rfl fun f w1 h s=>sg ac (decide (a.toNat<x.toNat)) h rfl ((mF _ _)) (fun hx f h=>?_) (fun hx f h=>?_))
   ·refine e9 ac 7 h rfl fun f h=>rt (aI rfl h s rfl (by show _=_;rw [ol x a b hd,hx];simp))
   ·refine aq ac 1 h rfl fun f h=>ca h rfl (aj 2 h s aP rfl rfl (by first|exact am _|exact ah _ _) rfl fun f h=>ca h rfl (aj 0 h s aP rfl rfl (by first|exact am _|exact ah _ _) rfl fun f h=>ca h rfl (cn h s mX (dI _ _ _) rfl rfl fun f w1 h s=>ca h rfl (lg ac (.bool (decide (x.toNat≤b.toNat))) h rfl (congrArg Value.bool (pO _ _)) rfl fun f h=>e9 ac 2 h rfl fun f h=>rt (aI rfl h s rfl (by show _=_;rw [ol x a b hd,hx];simp))))))
  ·have hd:=of_decide_eq_false hc
   refine kt (al ?_)
   refine az (aj 1 h s aP rfl rfl (by first|exact am _|exact ah _ _) rfl fun f h=>aj 2 h s aP rfl rfl (by first|exact am _|exact ah _ _) rfl fun f h=>cn h s mX (dI _ _ _) rfl rfl fun f w1 h s=>sg ac (decide (a.toNat<x.toNat)) h rfl ((mF _ _)) (fun hx f h=>?_) (fun hx f h=>?_))
   ·refine aq ac 1 h rfl fun f h=>ca h rfl (aj 2 h s aP rfl rfl (by first|exact am _|exact ah _ _) rfl fun f h=>ca h rfl (aj 0 h s aP rfl rfl (by first|exact am _|exact ah _ _) rfl fun f h=>ca h rfl (cn h s mX (dI _ _ _) rfl rfl fun f w1 h s=>ca h rfl (lg ac (.bool (decide (x.toNat≤b.toNat))) h rfl (congrArg Value.bool (pO _ _)) rfl fun f h=>e9 ac 2 h rfl fun f h=>wpIn_ret (aI rfl h s rfl (by show _=_;rw [oW x a b (by have:=vY hne;omega),hx];simp))))))
   ·refine e9 ac 7 h rfl fun f h=>wpIn_ret (aI rfl h s rfl (by show _=_;rw [oW x a b (by have:=vY hne;omega),hx];simp))
end Go.Proofs.YtobfeflheaobiaaGreatDoor
