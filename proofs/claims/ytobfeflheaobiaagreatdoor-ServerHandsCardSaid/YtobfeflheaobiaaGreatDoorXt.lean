/- How package table compares triggers; which tables may be, what is put, dropped, over, matched, on a way. -/
import Derived.Test.YtobfeflheaobiaaGreatDoorVi
set_option linter.unusedVariables false
set_option linter.unusedSimpArgs false
set_option linter.unusedSectionVars false
namespace Go.Proofs.YtobfeflheaobiaaGreatDoor
open Go.RowKit
theorem rE (x:Int) (w:World):Calls Tryz.prog 120 [.int .i64 x].toArray w (bT w (is (.bool false))):=by
 refine br Tryz.func120 rfl Tryz.ntmps120 rfl fun f h s=>bG ac 1 h rfl fun f h=>cd ac 2 h rfl fun f h=>lg ac (.bool false) h rfl (by simp) rfl fun f h=>e9 ac 1 h rfl fun f h=>wpIn_ret (aI rfl h s rfl (rfl))
theorem sd (x y:Int) (w:World):Calls Tryz.prog 103 [.int .i64 x,.int .i64 y].toArray w (bT w (is (.int .i64 (dc x y)))):=by
 refine br Tryz.func103 rfl Tryz.ntmps103 rfl fun f h s=>bG ac 1 h rfl fun f h=>cd ac 1 h rfl fun f h=>cn h s ze (rE _ _) rfl rfl fun f w1 h s=>e9 ac 1 h rfl fun f h=>cd ac 1 h rfl fun f h=>cn h s ze (rE _ _) rfl rfl fun f w1 h s=>e9 ac 1 h rfl fun f h=>al (bG ac 1 h rfl fun f h=>jw h rfl (al (bG ac 1 h rfl fun f h=>jw h rfl (al (bG ac 3 h rfl fun f h=>cq h rfl (fun hc=>?_) (fun hc=>?_))))))
 ·have hc:=of_decide_eq_true hc
  refine bG ac 1 h rfl fun f h=>rt (aI rfl h s rfl (by show _=_;unfold dc;rw [if_pos hc]))
 ·have hc1:=of_decide_eq_false hc
  refine kt (al (bG ac 3 h rfl fun f h=>cL h rfl (fun hc=>?_) (fun hc=>?_)))
  ·refine bG ac 1 h rfl fun f h=>rt (aI rfl h s rfl (by show _=_;unfold dc;rw [if_neg (by omega),if_pos (by omega)]))
  ·refine kt (bG ac 1 h rfl fun f h=>wpIn_ret (aI rfl h s rfl (by show _=_;unfold dc;rw [if_neg (by omega),if_neg (by omega)])))
theorem iL (e:cw) (w:World):Calls Tryz.prog 45 [.agg (bc e)].toArray w (bT w (is (.bool (eR e)))):=by
 refine br Tryz.func45 rfl Tryz.ntmps45 rfl fun f h s=>qr (aR (bc e) h s rfl rfl rfl fun f w1 b1 h s=>e9 ac 1 h rfl fun f h=>al (cd ac 1 h rfl fun f h=>ap (ae (aO.of_own s 0 rfl) 0 (dC _)) h bJ rfl rfl fun f h=>nt (wpIn_block (bG ac 2 h rfl fun f h=>cL h rfl (fun hc=>?_) (fun hc=>?_)))))
 ·refine cd ac 1 h rfl fun f h=>ap (ae (aO.of_own s 0 rfl) 33 (df _)) h bJ rfl rfl fun f h=>e9 ac 2 h rfl fun f h=>wpIn_ret (cp (bL (aI rfl h s rfl (by show _=_;rw [pF _ hc]))))
 ·have hk:=hc
  refine bG ac 2 h rfl fun f h=>cL h rfl (fun hc=>?_) (fun hc=>?_)
  ·refine al ?_
   cases hz:(decide (e.2.1=0#256):Bool)
   ·refine rs ac 1 h rfl fun f h=>aE (aO.subL (aO.of_own s 0 rfl) 1 32 (D:=aw (_)) (gh _)) h aP rfl (by first|exact am _|exact ah _ _) rfl fun f h=>ag h (ea ep) rfl fun f h=>ag h (bm (.bool false) (cG ep (h.ev rfl) (h.ev rfl)) (congrArg Value.bool hz)) rfl fun f h=>e9 ac 11 h rfl fun f h=>wpIn_ret (cp (bL (aI rfl h s rfl (by show _=_;rw [i3 _ hc,hz];rfl))))
   ·skip
    refine rs ac 1 h rfl fun f h=>aE (aO.subL (aO.of_own s 0 rfl) 1 32 (D:=aw (_)) (gh _)) h aP rfl (by first|exact am _|exact ah _ _) rfl fun f h=>ag h (ea ep) rfl fun f h=>ag h (bm (.bool true) (cG ep (h.ev rfl) (h.ev rfl)) (congrArg Value.bool hz)) rfl fun f h=>aq ac 2 h rfl fun f h=>ca h rfl (ap (ae (aO.of_own s 0 rfl) 33 (df _)) h bJ rfl rfl fun f h=>ca h rfl (da ac h rfl (fun hg f h=>?_) (fun hg f h=>?_)))
    ·refine e9 ac 7 h rfl fun f h=>wpIn_ret (cp (bL (aI rfl h s rfl (by show _=_;rw [i3 _ hc,hz,hg];rfl))))
    ·refine aq ac 3 h rfl fun f h=>ca h rfl (ap (ae (aO.of_own s 0 rfl) 33 (df _)) h bJ rfl rfl fun f h=>e9 ac 3 h rfl fun f h=>wpIn_ret (cp (bL (aI rfl h s rfl (by show _=_;rw [i3 _ hc,hz,hg];rfl)))))
  ·refine wpIn_skip (bg (aH (bG ac 1 h rfl fun f h=>wpIn_ret (aI rfl h s rfl (by show _=_;rw [qE _ hk hc])))))
theorem xr (x y:Tg) (w:World):Calls Tryz.prog 80 [.agg (au x),.agg (au y)].toArray w (bT w (is (.int .i64 (lT x y 0)))):=by
 refine br Tryz.func80 rfl Tryz.ntmps80 rfl fun f h s=>qr (aR (au x) h s rfl rfl rfl fun f w1 b2 h s=>aR (au y) h s rfl rfl rfl fun f w1 b3 h s=>e9 ac 1 h rfl fun f h=>cd ac 1 h rfl fun f h=>aE (aO.subL (aO.of_own s 1 rfl) 0 32 (D:=aw (_)) (dh _)) h aP rfl (by first|exact am _|exact ah _ _) rfl fun f h=>aq ac 1 h rfl fun f h=>aE (aO.subL (aO.of_own s 0 rfl) 0 32 (D:=aw (_)) (dh _)) h aP rfl (by first|exact am _|exact ah _ _) rfl fun f h=>cn h s ym (iY x.1 y.1 _) rfl rfl fun f w1 h s=>e9 ac 1 h rfl fun f h=>wpIn_ret (aI rfl h s rfl (rfl)))
theorem rf (x y:Tg) (w:World):Calls Tryz.prog 81 [.agg (au x),.agg (au y)].toArray w (bT w (is (.int .i64 (lT x y 1)))):=by
 refine br Tryz.func81 rfl Tryz.ntmps81 rfl fun f h s=>qr (aR (au x) h s rfl rfl rfl fun f w1 b2 h s=>aR (au y) h s rfl rfl rfl fun f w1 b3 h s=>e9 ac 1 h rfl fun f h=>cd ac 2 h rfl fun f h=>ap (ae (aO.of_own s 1 rfl) 32 (fe _)) h bJ rfl rfl fun f h=>aq ac 2 h rfl fun f h=>ap (ae (aO.of_own s 0 rfl) 32 (fe _)) h bJ rfl rfl fun f h=>cn h s Ac (sd x.2.1.1 y.2.1.1 _) rfl rfl fun f w1 h s=>e9 ac 1 h rfl fun f h=>wpIn_ret (aI rfl h s rfl (rfl)))
theorem sL (x y:Tg) (w:World):Calls Tryz.prog 82 [.agg (au x),.agg (au y)].toArray w (bT w (is (.int .i64 (lT x y 2)))):=by
 refine br Tryz.func82 rfl Tryz.ntmps82 rfl fun f h s=>qr (aR (au x) h s rfl rfl rfl fun f w1 b2 h s=>aR (au y) h s rfl rfl rfl fun f w1 b3 h s=>e9 ac 1 h rfl fun f h=>cd ac 2 h rfl fun f h=>aE (aO.subL (aO.of_own s 1 rfl) 33 32 (D:=aw (_)) (i6 _)) h aP rfl (by first|exact am _|exact ah _ _) rfl fun f h=>aq ac 2 h rfl fun f h=>aE (aO.subL (aO.of_own s 0 rfl) 33 32 (D:=aw (_)) (i6 _)) h aP rfl (by first|exact am _|exact ah _ _) rfl fun f h=>cn h s ym (iY x.2.1.2.1 y.2.1.2.1 _) rfl rfl fun f w1 h s=>e9 ac 1 h rfl fun f h=>wpIn_ret (aI rfl h s rfl (rfl)))
theorem r8 (x y:Tg) (w:World):Calls Tryz.prog 83 [.agg (au x),.agg (au y)].toArray w (bT w (is (.int .i64 (lT x y 3)))):=by
 refine br Tryz.func83 rfl Tryz.ntmps83 rfl fun f h s=>qr (aR (au x) h s rfl rfl rfl fun f w1 b2 h s=>aR (au y) h s rfl rfl rfl fun f w1 b3 h s=>e9 ac 1 h rfl fun f h=>cd ac 2 h rfl fun f h=>ap (ae (aO.of_own s 1 rfl) 65 (gO _)) h bJ rfl rfl fun f h=>aq ac 2 h rfl fun f h=>ap (ae (aO.of_own s 0 rfl) 65 (gO _)) h bJ rfl rfl fun f h=>cn h s Ac (sd x.2.1.2.2 y.2.1.2.2 _) rfl rfl fun f w1 h s=>e9 ac 1 h rfl fun f h=>wpIn_ret (aI rfl h s rfl (rfl)))
theorem uU (x y:Tg) (k:Nat) (hk:k<4) (w:World):Fnc Tryz.prog (I7 80 81 82 83 k)∧Calls Tryz.prog (I7 80 81 82 83 k) [.agg (au x),.agg (au y)].toArray w (bT w (is (.int .i64 (lT x y k)))):=by
 match k,hk with
 |0,_=>exact ⟨Ia,xr x y w⟩
 |1,_=>exact ⟨Ip,rf x y w⟩
 |2,_=>exact ⟨HY,sL x y w⟩
 |3,_=>exact ⟨GX,r8 x y w⟩
theorem ec (x y:Tg) (w:World):Calls Tryz.prog 51 [.agg (au x),.agg (au y)].toArray w (bT w (is (.int .i64 (oH x y)))):=by
 refine br Tryz.func51 rfl Tryz.ntmps51 rfl fun f h s=>qr (aR (au x) h s rfl rfl rfl fun f w1 b2 h s=>aR (au y) h s rfl rfl rfl fun f w1 b3 h s=>e9 ac 1 h rfl fun f h=>qr (ag h (ko [.func 80,.func 81,.func 82,.func 83] [.func (.func 80) #[] #[],.func (.func 81) #[] #[],.func (.func 82) #[] #[],.func (.func 83) #[] #[]] Tryz.underlying134 vM ⟨_,vO,rfl⟩ rfl (I3 h rfl) (by simp [Value.cells]) rfl) rfl fun f h=>aJ (#[.nilFunc,.nilFunc,.nilFunc,.nilFunc]) h s vO rfl rfl fun f w1 b5 h s=>ao 0 h s yA rfl rfl rfl (rfl) (rfl) (by decide) fun w1 s=>nt (al (qr (aj 0 h s yA rfl rfl (rfl) rfl fun f h=>e9 ac 1 h rfl fun f h=>wpIn_block (wpIn_loop_ghost (fun nn aa ww=>∃ k:Nat,Sl 22 aa [(0,.agg (au x)),(1,.agg (au y)),(2,.pointer (some ⟨b2,0,none⟩)),(3,.pointer (some ⟨b3,0,none⟩)),(5,.pointer (some ⟨b5,0,none⟩)),(10,.agg (#[.func (.func 80) #[] #[],.func (.func 81) #[] #[],.func (.func 82) #[] #[],.func (.func 83) #[] #[]])),(11,.int .i64 (k:Int))]∧St w [.blk b5 (.cells (#[.func (.func 80) #[] #[],.func (.func 81) #[] #[],.func (.func 82) #[] #[],.func (.func 83) #[] #[]]) 134),.blk b3 (.cells (au y) 67),.blk b2 (.cells (au x) 67)] ww∧nn=4 - k∧k≤4∧∀ j,j<k→lT x y j=0) (4 - (0)) ⟨0,h.only ⟨rfl,rfl,rfl,rfl,rfl,rfl,ar rfl (by omega),trivial⟩,s.as ⟨rfl,rfl,rfl,trivial⟩,rfl,Nat.zero_le _,fun j hj=>absurd hj (Nat.not_lt_zero _)⟩ ?_))))))
 rintro _ f w1 ⟨k,h,s,hnn,hp0,hp1⟩
 refine bG ac 1 h rfl fun f h=>al (cL h rfl (fun hc=>?_) (fun hc=>?_))
 ·refine kt (al (wpIn_block (qr ?_)))
  have hk4:k<4:=by omega
  obtain ⟨hfn4,_⟩:=uU x y k hk4 w
  refine ag h (rj k Tryz.underlying134 vM Tryz.underlying131 (h.ev rfl) (h.ev rfl) rfl (by omega) (ER hk4)) rfl fun f h=>e9 ac 1 h rfl fun f h=>cd ac 1 h rfl fun f h=>aj 2 h s aT rfl rfl (ai _) rfl fun f h=>aj 1 h s aT rfl rfl (ai _) rfl fun f h=>ja [.agg (au x),.agg (au y)] (caps:=[]) h s hfn4 rfl (uU x y k hk4 _).2 rfl rfl ?_;intro f w1 v17 hT hE h s;obtain rfl:=hT
  refine e9 ac 1 h rfl fun f h=>bG ac 2 h rfl fun f h=>cq h rfl (fun hc=>?_) (fun hc=>?_)
  ·have hc:=of_decide_eq_true hc
   refine bG ac 2 h rfl fun f h=>wpIn_ret (cp (bL (bL (cp (bL (aI rfl h s rfl (by show _=_;rw [CE hk4 hp1 hc])))))))
  ·have hc:=Decidable.of_not_not (of_decide_eq_false hc)
   refine wpIn_skip (bg (aH (az (ag h (bh (h.ev rfl) (h.ev rfl) (by omega)) rfl fun f h=>e9 ac 1 h rfl fun f h=>?_))))
   exact ⟨_,by omega,⟨k+1,h.only ⟨rfl,rfl,rfl,rfl,rfl,rfl,ar rfl (by omega),trivial⟩,St.as s ⟨rfl,rfl,rfl,trivial⟩,rfl,by omega,Cv hp1 hc⟩⟩
 ·refine wpIn_exit (aZ (aZ (bQ (aH (bG ac 1 h rfl fun f h=>wpIn_ret (aI rfl h s rfl (by show _=_;rw [B4 (fun j hj=>hp1 j (by omega))])))))))
theorem fy (x:Tg) (w:World):Calls Tryz.prog 50 [.agg (au x)].toArray w (bT w (is (.bool (er x)))):=by
 refine br Tryz.func50 rfl Tryz.ntmps50 rfl fun f h s=>qr (aR (au x) h s rfl rfl rfl fun f w1 b1 h s=>e9 ac 1 h rfl fun f h=>al ?_)
 refine rs ac 1 h rfl fun f h=>aE (aO.subL (aO.of_own s 0 rfl) 32 34 (D:=bc (_)) (gI _)) h cy rfl (aK _) rfl fun f h=>fJ h s l1 (iL x.2.1 _) rfl rfl (fun h0 f w1 h s=>?_) (fun h0 f w1 h s=>?_)
 ·refine e9 ac 11 h rfl fun f h=>wpIn_ret (aI rfl h s rfl (by show _=_;unfold er;rw [h0]<;>rfl))
 ·skip
  refine aq ac 2 h rfl fun f h=>ca h rfl (ap (ae (aO.of_own s 0 rfl) 66 (cR _)) h bJ rfl rfl fun f h=>ca h rfl (da ac h rfl (fun h1 f h=>?_) (fun h1 f h=>?_)))
  ·refine e9 ac 7 h rfl fun f h=>wpIn_ret (aI rfl h s rfl (by show _=_;unfold er;rw [h0,h1]<;>rfl))
  ·refine aq ac 3 h rfl fun f h=>ca h rfl (ap (ae (aO.of_own s 0 rfl) 66 (cR _)) h bJ rfl rfl fun f h=>e9 ac 3 h rfl fun f h=>wpIn_ret (aI rfl h s rfl (by show _=_;unfold er;rw [h0,h1]<;>rfl)))
theorem c0 (l:List Tg) (vh:Value) (w:World) (hR:bK w vh 67 l.length (aA l)) (hln:l.length≤1000):Calls Tryz.prog 28 [vh].toArray w (bT w (is (.bool (bp l)))):=by
 refine br Tryz.func28 rfl Tryz.ntmps28 rfl fun f h s=>bG ac 1 h rfl fun f h=>al (cd ac 1 h rfl fun f h=>eh h (hR.keep s.ext) Tryz.underlying22 rfl rfl fun f h=>e9 ac 1 h rfl fun f h=>cq h rfl (fun hc=>?_) (fun hc=>?_))
 ·have h32:¬ l.length≤32:=by have:=of_decide_eq_true hc;omega
  refine bG ac 1 h rfl fun f h=>rt (aI rfl h s rfl (by first|(unfold bp;rw [decide_eq_false h32,Bool.and_false];rfl)|(obtain rfl:k=l.length:=(by omega);show _=_;rw [lH hp1];exact congrArg Value.bool (decide_eq_true h32).symm)))
 ·have h32:l.length≤32:=by have:=of_decide_eq_false hc;omega
  refine kt (al (cd ac 1 h rfl fun f h=>eh h (hR.keep s.ext) Tryz.underlying22 rfl rfl fun f h=>e9 ac 1 h rfl fun f h=>wpIn_block (wpIn_loop_ghost (fun nn aa ww=>∃ k:Nat,Sl 33 aa [(0,vh),(8,vh),(9,.int .i64 (l.length:Int)),(10,.int .i64 (k:Int))]∧St w [] ww∧nn=l.length - k∧k≤l.length∧∀ j,j<k→tR l j=true) (l.length - (0)) ⟨0,h.only ⟨rfl,rfl,rfl,ar rfl (by omega),trivial⟩,s.as trivial,rfl,Nat.zero_le _,fun j hj=>absurd hj (Nat.not_lt_zero _)⟩ ?_)))
  rintro _ f w1 ⟨k,h,s,hnn,hp0,hp1⟩
  refine bG ac 1 h rfl fun f h=>al (cL h rfl (fun hc=>?_) (fun hc=>?_))
  ·refine kt (al (wpIn_block (cd ac 1 h rfl fun f h=>?_)))
   have hkl:k<l.length:=by omega
   refine ag h (bW (hR.keep s.ext) (k) Tryz.underlying22 cZ (h.ev rfl) (h.ev rfl) (by omega) (by omega)) rfl fun f h=>aE ((hR.keep s.ext).el (k) (by omega) (by decide) (D:=au (l.getD k aN)) (dd l k hkl)) h aT rfl (ai _) rfl fun f h=>aJ (au aN) h s dM rfl rfl fun f w1 b4 h s=>aq ac 1 h rfl fun f h=>ao 0 h s aT rfl rfl rfl (ai _) (ai _) (aY _) fun w1 s=>nt (al ?_)
   cases h0:(er (l.getD k aN):Bool)
   ·refine d8 17 h (by kernel_rfl) (aV 0 h s aT rfl rfl (ai _) rfl fun f h=>aX h qv (fun w9 hE9=>bj (.bool false) (fy (l.getD k aN) w9) (congrArg Value.bool h0)) rfl rfl fun f h=>ay ac 15 h rfl fun f h=>cc s fun w1 s=>A4 h rfl (bG ac 1 h rfl fun f h=>wpIn_ret (cp (bL (bL (cp (bL (aI rfl h s rfl (by show _=_;rw [gV hkl (H0 h0)])))))))))
   ·skip
    cases h1:(decide (k=0):Bool)
    ·skip
     cases h2:(eu (l.getD (k - 1) aN) (l.getD k aN):Bool)
     ·refine d8 17 h (by kernel_rfl) (aV 0 h s aT rfl rfl (ai _) rfl fun f h=>aX h qv (fun w9 hE9=>bj (.bool true) (fy (l.getD k aN) w9) (congrArg Value.bool h0)) rfl rfl fun f h=>ay ac 3 h rfl fun f h=>bn h rfl (ob ac h rfl (decide_eq_true (by have:=of_decide_eq_false h1;omega)) fun f h=>ay ac 3 h rfl fun f h=>bn h rfl (ax h (dt (h.ev rfl) (h.ev rfl) (by omega)) rfl fun f h=>bn h rfl (ax h (bW (hR.keep s.ext) ((k - 1)) Tryz.underlying22 cZ (h.ev rfl) (h.ev rfl) (by have:=of_decide_eq_false h1;omega) (by omega)) rfl fun f h=>bn h rfl (bq ((hR.keep s.ext).el ((k - 1)) (by omega) (by decide) (D:=au (l.getD (k - 1) aN)) (dd l (k - 1) (by omega))) h aT rfl (ai _) rfl fun f h=>bn h rfl (aV 0 h s aT rfl rfl (ai _) rfl fun f h=>bn h rfl (aX h oq (fun w9 hE9=>ec (l.getD (k - 1) aN) (l.getD k aN) w9) rfl rfl fun f h=>bn h rfl (ob ac h rfl ((Ae _ _).trans (by rw [h2];rfl)) fun f h=>ay ac 2 h rfl fun f h=>cc s fun w1 s=>A4 h rfl (bG ac 1 h rfl fun f h=>wpIn_ret (cp (bL (bL (cp (bL (aI rfl h s rfl (by show _=_;rw [gV hkl ((C9 h0 (of_decide_eq_false h1)).trans h2)]))))))))))))))))
     ·refine d8 17 h (by kernel_rfl) (aV 0 h s aT rfl rfl (ai _) rfl fun f h=>aX h qv (fun w9 hE9=>bj (.bool true) (fy (l.getD k aN) w9) (congrArg Value.bool h0)) rfl rfl fun f h=>ay ac 3 h rfl fun f h=>bn h rfl (ob ac h rfl (decide_eq_true (by have:=of_decide_eq_false h1;omega)) fun f h=>ay ac 3 h rfl fun f h=>bn h rfl (ax h (dt (h.ev rfl) (h.ev rfl) (by omega)) rfl fun f h=>bn h rfl (ax h (bW (hR.keep s.ext) ((k - 1)) Tryz.underlying22 cZ (h.ev rfl) (h.ev rfl) (by have:=of_decide_eq_false h1;omega) (by omega)) rfl fun f h=>bn h rfl (bq ((hR.keep s.ext).el ((k - 1)) (by omega) (by decide) (D:=au (l.getD (k - 1) aN)) (dd l (k - 1) (by omega))) h aT rfl (ai _) rfl fun f h=>bn h rfl (aV 0 h s aT rfl rfl (ai _) rfl fun f h=>bn h rfl (aX h oq (fun w9 hE9=>ec (l.getD (k - 1) aN) (l.getD k aN) w9) rfl rfl fun f h=>bn h rfl (z4 ac h rfl ((Ae _ _).trans (by rw [h2];rfl)) fun f h=>ay ac 2 h rfl fun f h=>cc s fun w1 s=>BN h rfl (wpIn_skip (bg (aH (az (ag h (bh (h.ev rfl) (h.ev rfl) (by omega)) rfl fun f h=>e9 ac 1 h rfl fun f h=>?_)))))))))))))
      exact ⟨_,by omega,⟨k+1,h.only ⟨rfl,rfl,rfl,ar rfl (by omega),trivial⟩,St.as (s.pick _ (List.sublist_append_right [_] _)) trivial,rfl,by omega,kh hp1 ((C9 h0 (of_decide_eq_false h1)).trans h2)⟩⟩
    ·refine d8 17 h (by kernel_rfl) (aV 0 h s aT rfl rfl (ai _) rfl fun f h=>aX h qv (fun w9 hE9=>bj (.bool true) (fy (l.getD k aN) w9) (congrArg Value.bool h0)) rfl rfl fun f h=>ay ac 3 h rfl fun f h=>bn h rfl (z4 ac h rfl (decide_eq_false (by have:=of_decide_eq_true h1;omega)) fun f h=>ay ac 11 h rfl fun f h=>cc s fun w1 s=>BN h rfl (wpIn_skip (bg (aH (az (ag h (bh (h.ev rfl) (h.ev rfl) (by omega)) rfl fun f h=>e9 ac 1 h rfl fun f h=>?_)))))))
     exact ⟨_,by omega,⟨k+1,h.only ⟨rfl,rfl,rfl,ar rfl (by omega),trivial⟩,St.as (s.pick _ (List.sublist_append_right [_] _)) trivial,rfl,by omega,kh hp1 (HF h0 (of_decide_eq_true h1))⟩⟩
  ·refine wpIn_exit (aZ (aZ (bQ (aH (bG ac 1 h rfl fun f h=>wpIn_ret (aI rfl h s rfl (by first|(unfold bp;rw [decide_eq_false h32,Bool.and_false];rfl)|(obtain rfl:k=l.length:=(by omega);show _=_;rw [lH hp1];exact congrArg Value.bool (decide_eq_true h32).symm))))))))
theorem p6 (l:List Tg) (vh:Value) (x:Tg) (w:World) (hR:bK w vh 67 l.length (aA l)) (hln:l.length≤1000) (hs9:oR l):Calls Tryz.prog 89 [vh,.agg (au x),.func (.func 51) #[] #[]].toArray w (bT w (fun v _=>∃ n b,v=.tuple #[.int .i64 ((n:Nat):Int),.bool b]∧FndT l x n b)):=by
 refine br Tryz.func89 rfl Tryz.ntmps89 rfl fun f h s=>qr (aR (au x) h s rfl rfl rfl fun f w1 b4 h s=>e9 ac 2 h rfl fun f h=>cd ac 1 h rfl fun f h=>eh h (hR.keep s.ext) Tryz.underlying22 rfl rfl fun f h=>e9 ac 1 h rfl fun f h=>bG ac 3 h rfl fun f h=>al (wpIn_block (wpIn_loop_ghost (fun nn aa ww=>∃ i:Nat,∃ j:Nat,Sl 49 aa [(1,.agg (au x)),(4,.pointer (some ⟨b4,0,none⟩)),(0,vh),(2,.func (.func 51) #[] #[]),(8,.int .i64 (l.length:Int)),(9,.int .i64 (i:Int)),(10,.int .i64 (j:Int))]∧St w [.blk b4 (.cells (au x) 67)] ww∧nn=j - i∧i≤j∧j≤l.length∧(∀ q,q<i→eu (l.getD q aN) x=true)∧∀ q,j≤q→q<l.length→eu (l.getD q aN) x=false) ((l.length) - (0)) ⟨0,l.length,h.only ⟨rfl,rfl,rfl,rfl,rfl,ar rfl (by omega),ar rfl (by omega),trivial⟩,s.as ⟨rfl,trivial⟩,rfl,Nat.zero_le _,Nat.le_refl _,fun q hq=>absurd hq (Nat.not_lt_zero _),fun q h1 h2=>absurd h2 (by omega)⟩ ?_)))
 rintro _ f w1 ⟨i,j,h,s,hnn,hp0,hp1,hp2,hp3⟩
 refine al (bG ac 3 h rfl fun f h=>cL h rfl (fun hc=>?_) (fun hc=>?_))
 ·refine kt (wpIn_block (cd ac 2 h rfl fun f h=>ag h (bh (h.ev rfl) (h.ev rfl) (by omega)) rfl fun f h=>ag h (ey Tryz.underlying3 Tryz.underlying163 (h.ev rfl) (IntWalk.u64_in _ (by omega))) rfl fun f h=>ag h (bm (.int .u64 ((((i+j) / 2):Nat):Int)) (tI (h.ev rfl) (h.ev rfl) (by omega)) (congrArg (Value.int .u64) (Cc i j))) rfl fun f h=>ag h (ey Tryz.underlying163 Tryz.underlying3 (h.ev rfl) (IntWalk.i64_in _ (by omega))) rfl fun f h=>e9 ac 1 h rfl fun f h=>al ?_))
  cases hq:(eu (l.getD ((i+j) / 2) aN) x:Bool)
  ·refine d8 8 h (by kernel_rfl) (ay ac 3 h rfl fun f h=>ax h (bW (hR.keep s.ext) (((i+j) / 2)) Tryz.underlying22 cZ (h.ev rfl) (h.ev rfl) (rfl) (by omega)) rfl fun f h=>bq ((hR.keep s.ext).el (((i+j) / 2)) (by omega) (by decide) (D:=au (l.getD ((i+j) / 2) aN)) (dd l _ (by omega))) h aT rfl (ai _) rfl fun f h=>aV 0 h s aT rfl rfl (ai _) rfl fun f h=>jh [.agg (au (l.getD ((i+j) / 2) aN)),.agg (au x)] (caps:=[]) h oq rfl (fun w9 h9=>ec _ _ w9) rfl rfl ?_);intro f h
   refine z4 ac h rfl ((o9 _ _).trans hq) fun f h=>cc s fun w1 s=>BN h rfl (rs ac 2 h rfl fun f h=>aB (bg (aH ?_)))
   exact ⟨_,by omega,⟨i,((i+j) / 2),h.only ⟨rfl,rfl,rfl,rfl,rfl,ar rfl (by omega),ar rfl (by omega),trivial⟩,St.as s ⟨rfl,trivial⟩,rfl,by omega,by omega,hp2,HN hs9 hq⟩⟩
  ·refine d8 8 h (by kernel_rfl) (ay ac 3 h rfl fun f h=>ax h (bW (hR.keep s.ext) (((i+j) / 2)) Tryz.underlying22 cZ (h.ev rfl) (h.ev rfl) (rfl) (by omega)) rfl fun f h=>bq ((hR.keep s.ext).el (((i+j) / 2)) (by omega) (by decide) (D:=au (l.getD ((i+j) / 2) aN)) (dd l _ (by omega))) h aT rfl (ai _) rfl fun f h=>aV 0 h s aT rfl rfl (ai _) rfl fun f h=>jh [.agg (au (l.getD ((i+j) / 2) aN)),.agg (au x)] (caps:=[]) h oq rfl (fun w9 h9=>ec _ _ w9) rfl rfl ?_);intro f h
   refine ob ac h rfl ((o9 _ _).trans hq) fun f h=>cc s fun w1 s=>A4 h rfl (rs ac 1 h rfl fun f h=>ag h (bh (h.ev rfl) (h.ev rfl) (by omega)) rfl fun f h=>aq ac 1 h rfl fun f h=>aB (bg (aH ?_)))
   exact ⟨_,by omega,⟨((i+j) / 2)+1,j,h.only ⟨rfl,rfl,rfl,rfl,rfl,ar rfl (by omega),ar rfl (by omega),trivial⟩,St.as s ⟨rfl,trivial⟩,rfl,by omega,hp1,GD hs9 (by omega) hq,hp3⟩⟩
 ·refine wpIn_exit (aZ (aZ (bQ (aH (al ?_)))))
  refine d8 16 h (by kernel_rfl) (ay ac 3 h rfl fun f h=>GT ac (decide (i<l.length)) h rfl ((decide_eq_decide.2 (by omega))) (fun hn f h=>?_) (fun hn f h=>?_))
  ·refine ay ac 12 h rfl fun f h=>cc s fun w1 s=>nt (wpIn_ret (cg rfl h s rfl rfl (⟨i,_,rfl,⟨by omega,hp2,fun q h1 h2=>hp3 q (by omega) h2,by rw [hn];rfl⟩⟩)))
  ·skip
   cases he:(gn x.1 x.2.1 (l.getD i aN):Bool)
   ·refine ay ac 4 h rfl fun f h=>bn h rfl ?_
    have hil:i<l.length:=of_decide_eq_true hn
    refine ax h (bW (hR.keep s.ext) (i) Tryz.underlying22 cZ (h.ev rfl) (h.ev rfl) (rfl) (by omega)) rfl fun f h=>bn h rfl (bq ((hR.keep s.ext).el (i) (by omega) (by decide) (D:=au (l.getD i aN)) (dd l i hil)) h aT rfl (ai _) rfl fun f h=>bn h rfl (aV 0 h s aT rfl rfl (ai _) rfl fun f h=>bn h rfl (jh [.agg (au (l.getD i aN)),.agg (au x)] (caps:=[]) h oq rfl (fun w9 h9=>ec _ _ w9) rfl rfl ?_)));intro f h
    refine bn h rfl (z4 ac h rfl ((rm _ _).trans he) fun f h=>ay ac 3 h rfl fun f h=>cc s fun w1 s=>nt (wpIn_ret (cg rfl h s rfl rfl (⟨i,_,rfl,⟨by omega,hp2,fun q h1 h2=>hp3 q (by omega) h2,by rw [hn,he];rfl⟩⟩))))
   ·refine ay ac 4 h rfl fun f h=>bn h rfl ?_
    have hil:i<l.length:=of_decide_eq_true hn
    refine ax h (bW (hR.keep s.ext) (i) Tryz.underlying22 cZ (h.ev rfl) (h.ev rfl) (rfl) (by omega)) rfl fun f h=>bn h rfl (bq ((hR.keep s.ext).el (i) (by omega) (by decide) (D:=au (l.getD i aN)) (dd l i hil)) h aT rfl (ai _) rfl fun f h=>bn h rfl (aV 0 h s aT rfl rfl (ai _) rfl fun f h=>bn h rfl (jh [.agg (au (l.getD i aN)),.agg (au x)] (caps:=[]) h oq rfl (fun w9 h9=>ec _ _ w9) rfl rfl ?_)));intro f h
    refine bn h rfl (ob ac h rfl ((rm _ _).trans he) fun f h=>ay ac 3 h rfl fun f h=>cc s fun w1 s=>nt (wpIn_ret (cg rfl h s rfl rfl (⟨i,_,rfl,⟨by omega,hp2,fun q h1 h2=>hp3 q (by omega) h2,by rw [hn,he];rfl⟩⟩))))
theorem o3 (l:List Tg) (vh:Value) (x:Tg) (w:World) (hR:bK w vh 67 l.length (aA l)) (hln:l.length≤1000) (hs9:oR l):Calls Tryz.prog 62 [vh,.agg (au x)].toArray w (bT w (fun v _=>∃ n b,v=.tuple #[.int .i64 ((n:Nat):Int),.bool b]∧FndT l x n b)):=by
 refine br Tryz.func62 rfl Tryz.ntmps62 rfl fun f h s=>qr (aR (au x) h s rfl rfl rfl fun f w1 b3 h s=>e9 ac 2 h rfl fun f h=>cd ac 1 h rfl fun f h=>aj 0 h s aT rfl rfl (ai _) rfl fun f h=>bk h s Iu (p6 l vh x _ (hR.keep s.ext) hln hs9) rfl rfl ?_);rintro f w1 v8 ⟨n,b,rfl,hf9⟩ hE h s
 refine e9 ac 4 h rfl fun f h=>wpIn_ret (cg rfl h s rfl rfl (⟨n,b,rfl,hf9⟩))
theorem i4 (l:List Tg) (vh:Value) (g9:Nat) (caps:List Value) (p:Tg→Bool) (w:World) (hR:bK w vh 67 l.length (aA l)) (hln:l.length≤1000) (hg:Fnc Tryz.prog g9) (hp:∀ w9,Ext w w9→∀ y∈l,Calls Tryz.prog g9 (.agg (au y)::caps).toArray w9 (bT w9 (is (.bool (p y))))):Calls Tryz.prog 67 [vh,.func (.func g9) #[] caps.toArray].toArray w (bT w (fun v w'=>cb w' w.heap.size 67 67 v (l.filter p).length (aA (l.filter p)))):=by
 refine br Tryz.func67 rfl Tryz.ntmps67 rfl fun f h s=>bG ac 1 h rfl fun f h=>bG ac 1 h rfl fun f h=>al (qr ?_)
 replace s:=s.nilSl 67 67
 refine aq ac 1 h rfl fun f h=>eh h (hR.keep s.ext) Tryz.underlying22 rfl rfl fun f h=>e9 ac 1 h rfl fun f h=>wpIn_block (wpIn_loop_ghost (fun nn aa ww=>∃ k:Nat,∃ vb:Value,Sl 23 aa [(0,vh),(1,.func (.func g9) #[] caps.toArray),(5,vb),(8,vh),(9,.int .i64 (l.length:Int)),(10,.int .i64 (k:Int))]∧St w [.sl vb 67 67 ((l.take k).filter p).length (aA ((l.take k).filter p))] ww∧nn=l.length - k∧k≤l.length) (l.length - (0)) ⟨0,aM,h.only ⟨rfl,rfl,rfl,rfl,rfl,ar rfl (by omega),trivial⟩,s.as ⟨rfl,trivial⟩,rfl,Nat.zero_le _⟩ ?_)
 rintro _ f w1 ⟨k,vb,h,s,hnn,hp0⟩
 refine bG ac 1 h rfl fun f h=>al (cL h rfl (fun hc=>?_) (fun hc=>?_))
 ·refine kt (al (wpIn_block (qr ?_)))
  have hkl:k<l.length:=by omega
  refine ag h (bW (hR.keep s.ext) (k) Tryz.underlying22 cZ (h.ev rfl) (h.ev rfl) (by omega) (by omega)) rfl fun f h=>aE ((hR.keep s.ext).el (k) (by omega) (by decide) (D:=au (l.getD k aN)) (dd l k hkl)) h aT rfl (ai _) rfl fun f h=>aJ (au aN) h s dM rfl rfl fun f w1 b7 h s=>ao 0 h s aT rfl rfl rfl (ai _) (ai _) (aY _) fun w1 s=>nt (cd ac 1 h rfl fun f h=>aj 0 h s aT rfl rfl (ai _) rfl fun f h=>ja [.agg (au (l.getD k aN))] (caps:=caps) h s hg rfl (hp _ s.ext _ (fC hkl)) rfl rfl ?_);intro f w1 v16 hT hE h s;obtain rfl:=hT
  refine nt (cq h rfl (fun hc=>?_) (fun hc=>?_))
  ·have hq:p (l.getD k aN)=true:=hc
   refine rs ac 1 h rfl fun f h=>aj 0 h s aT rfl rfl (ai _) rfl fun f h=>bF (vs:=[.agg (au (l.getD k aN))]) [.tmp 18] h s Tryz.underlying22 dU rfl rfl (kz _) rfl rfl rfl fun f w1 v19 h s=>dA 2 0 h s Tryz.underlying22 dU rfl rfl rfl rfl (by decide) (by rw [dY];exact aY _) (by have h9:=kY l p k;unfold maxLen;omega) (by have h9:=kY l p k;omega) rfl fun f w1 v20 h s=>?_
   replace s:=s.pick _ (List.sublist_cons_self _ _)
   replace s:=s.resl (m:=((l.take (k+1)).filter p).length) (ys:=aA ((l.take (k+1)).filter p)) 1 rfl (by rw [om hkl hq,List.length_append];rfl) (by rw [om hkl hq,dY,gm])
   refine aq ac 1 h rfl fun f h=>aB (bg (aH (az (ag h (bh (h.ev rfl) (h.ev rfl) (by omega)) rfl fun f h=>e9 ac 1 h rfl fun f h=>?_))))
   exact ⟨_,by omega,⟨k+1,v20,h.only ⟨rfl,rfl,rfl,rfl,rfl,ar rfl (by omega),trivial⟩,St.as (s.pick _ (List.sublist_append_right [_] _)) ⟨rfl,trivial⟩,rfl,by omega⟩⟩
  ·have hq:p (l.getD k aN)=false:=hc
   refine wpIn_skip (bg (aH (az (ag h (bh (h.ev rfl) (h.ev rfl) (by omega)) rfl fun f h=>e9 ac 1 h rfl fun f h=>?_))))
   exact ⟨_,by omega,⟨k+1,vb,h.only ⟨rfl,rfl,rfl,rfl,rfl,ar rfl (by omega),trivial⟩,St.as (s.pick _ (List.sublist_append_right [_] _)) ⟨lY (by rw [ot hkl hq]) (by rw [ot hkl hq]),trivial⟩,rfl,by omega⟩⟩
 ·refine wpIn_exit (aZ (aZ (bQ (aH (bG ac 2 h rfl fun f h=>wpIn_ret (aI rfl h s rfl ((by have h9:=s.getSl 0 rfl;rw [pR (by omega)] at h9;exact h9))))))))
theorem m5 (l:List Tg) (vh:Value) (g9:Nat) (caps:List Value) (m:Tg→Int) (le:Int) (w:World) (hR:bK w vh 67 l.length (aA l)) (hln:l.length≤1000) (hg:Fnc Tryz.prog g9) (hp:∀ w9,Ext w w9→∀ y∈l,Calls Tryz.prog g9 (.agg (au y)::caps).toArray w9 (bT w9 (is (.int .i64 (m y))))):Calls Tryz.prog 118 [vh,.func (.func g9) #[] caps.toArray,.int .i64 le].toArray w (bT w (is (.tuple #[.agg (au (rv m le l l.length).1),.bool (rv m le l l.length).2.2]))):=by
 refine br Tryz.func118 rfl Tryz.ntmps118 rfl fun f h s=>qr (aJ (au aN) h s dM rfl rfl fun f w1 b6 h s=>e9 ac 1 h rfl fun f h=>qr (aJ (au aN) h s dM rfl rfl fun f w1 b8 h s=>nt (bG ac 2 h rfl fun f h=>al (cd ac 1 h rfl fun f h=>eh h (hR.keep s.ext) Tryz.underlying22 rfl rfl fun f h=>e9 ac 1 h rfl fun f h=>wpIn_block (wpIn_loop_ghost (fun nn aa ww=>∃ k:Nat,∃ z:Tg,∃ mo:Int,∃ bi:Bool,Sl 40 aa [(0,vh),(6,.pointer (some ⟨b6,0,none⟩)),(8,.pointer (some ⟨b8,0,none⟩)),(1,.func (.func g9) #[] caps.toArray),(2,.int .i64 le),(9,.int .i64 mo),(10,.bool bi),(14,vh),(15,.int .i64 (l.length:Int)),(16,.int .i64 (k:Int))]∧St w [.blk b8 (.cells (au z) 67),.blk b6 (.cells (au aN) 67)] ww∧nn=l.length - k∧k≤l.length∧(z,mo,bi)=rv m le l k) (l.length - (0)) ⟨0,aN,0,false,h.only ⟨rfl,rfl,rfl,rfl,rfl,rfl,rfl,rfl,rfl,ar rfl (by omega),trivial⟩,s.as ⟨rfl,rfl,trivial⟩,rfl,Nat.zero_le _,rfl⟩ ?_)))))
 rintro _ f w1 ⟨k,z,mo,bi,h,s,hnn,hp0,hp1⟩
 refine bG ac 1 h rfl fun f h=>al (cL h rfl (fun hc=>?_) (fun hc=>?_))
 ·refine kt (al (wpIn_block (qr ?_)))
  have hkl:k<l.length:=by omega
  refine ag h (bW (hR.keep s.ext) (k) Tryz.underlying22 cZ (h.ev rfl) (h.ev rfl) (by omega) (by omega)) rfl fun f h=>aE ((hR.keep s.ext).el (k) (by omega) (by decide) (D:=au (l.getD k aN)) (dd l k hkl)) h aT rfl (ai _) rfl fun f h=>aJ (au aN) h s dM rfl rfl fun f w1 b12 h s=>ao 0 h s aT rfl rfl rfl (ai _) (ai _) (aY _) fun w1 s=>nt (cd ac 1 h rfl fun f h=>aj 0 h s aT rfl rfl (ai _) rfl fun f h=>ja [.agg (au (l.getD k aN))] (caps:=caps) h s hg rfl (hp _ s.ext _ (fC hkl)) rfl rfl ?_);intro f w1 v22 hT hE h s;obtain rfl:=hT
  refine e9 ac 1 h rfl fun f h=>al ?_
  refine rs ac 2 h rfl fun f h=>da ac h rfl (fun h0 f h=>?_) (fun h0 f h=>?_)
  ·refine aq ac 4 h rfl fun f h=>gp h rfl rfl rfl rfl ?_;intro f h
   refine gp h rfl rfl rfl rfl ?_;intro f h
   refine gp h rfl rfl rfl rfl ?_;intro f h
   refine e9 ac 2 h rfl fun f h=>hI h rfl (wpIn_skip (bg (aH (az (ag h (bh (h.ev rfl) (h.ev rfl) (by omega)) rfl fun f h=>e9 ac 1 h rfl fun f h=>?_)))))
   exact ⟨_,by omega,⟨k+1,z,mo,bi,h.only ⟨rfl,rfl,rfl,rfl,rfl,rfl,rfl,rfl,rfl,ar rfl (by omega),trivial⟩,St.as (s.pick _ (List.sublist_append_right [_] _)) ⟨rfl,rfl,trivial⟩,rfl,by omega,If hp1 (by rw [h0];rfl)⟩⟩
  ·skip
   refine aq ac 1 h rfl fun f h=>ca h rfl (da ac h rfl (fun h1 f h=>?_) (fun h1 f h=>?_))
   ·refine e9 ac 7 h rfl fun f h=>cv h rfl (az (aj 0 h s aT rfl rfl (ai _) rfl fun f h=>aq ac 1 h rfl fun f h=>ao 1 h s aT rfl rfl rfl (ai _) (ai _) (aY _) fun w1 s=>aq ac 2 h rfl fun f h=>aB (bg (aH (az (ag h (bh (h.ev rfl) (h.ev rfl) (by omega)) rfl fun f h=>e9 ac 1 h rfl fun f h=>?_))))))
    exact ⟨_,by omega,⟨k+1,(l.getD k aN),(m (l.getD k aN)),true,h.only ⟨rfl,rfl,rfl,rfl,rfl,rfl,rfl,rfl,rfl,ar rfl (by omega),trivial⟩,St.as (s.pick _ (List.sublist_append_right [_] _)) ⟨rfl,rfl,trivial⟩,rfl,by omega,GF hp1 h0 (by rw [h1];rfl)⟩⟩
   ·skip
    refine aq ac 4 h rfl fun f h=>ca h rfl (da ac h rfl (fun h2 f h=>?_) (fun h2 f h=>?_))
    ·refine e9 ac 2 h rfl fun f h=>hI h rfl (wpIn_skip (bg (aH (az (ag h (bh (h.ev rfl) (h.ev rfl) (by omega)) rfl fun f h=>e9 ac 1 h rfl fun f h=>?_)))))
     exact ⟨_,by omega,⟨k+1,z,mo,bi,h.only ⟨rfl,rfl,rfl,rfl,rfl,rfl,rfl,rfl,rfl,ar rfl (by omega),trivial⟩,St.as (s.pick _ (List.sublist_append_right [_] _)) ⟨rfl,rfl,trivial⟩,rfl,by omega,If hp1 (by rw [h0,h1,h2];rfl)⟩⟩
    ·refine e9 ac 2 h rfl fun f h=>cv h rfl (az (aj 0 h s aT rfl rfl (ai _) rfl fun f h=>aq ac 1 h rfl fun f h=>ao 1 h s aT rfl rfl rfl (ai _) (ai _) (aY _) fun w1 s=>aq ac 2 h rfl fun f h=>aB (bg (aH (az (ag h (bh (h.ev rfl) (h.ev rfl) (by omega)) rfl fun f h=>e9 ac 1 h rfl fun f h=>?_))))))
     exact ⟨_,by omega,⟨k+1,(l.getD k aN),(m (l.getD k aN)),true,h.only ⟨rfl,rfl,rfl,rfl,rfl,rfl,rfl,rfl,rfl,ar rfl (by omega),trivial⟩,St.as (s.pick _ (List.sublist_append_right [_] _)) ⟨rfl,rfl,trivial⟩,rfl,by omega,GF hp1 h0 (by rw [h1,h2];rfl)⟩⟩
 ·refine wpIn_exit (aZ (aZ (bQ (aH (qr (aj 0 h s aT rfl rfl (ai _) rfl fun f h=>aq ac 1 h rfl fun f h=>ao 1 h s aT rfl rfl rfl (ai _) (ai _) (aY _) fun w1 s=>e9 ac 1 h rfl fun f h=>wpIn_ret (cU 1 rfl h s aT rfl rfl (ai _) rfl (by obtain rfl:k=l.length:=(by omega);show _=_;rw [← hp1]))))))))
theorem wP (n:Nat) (hn:n≤1000) (w:World):Calls Tryz.prog 90 [.slice none 0 0,.int .i64 (n:Int)].toArray w (bT w (fun v w'=>cb w' w.heap.size 67 67 v 0 [])):=by
 refine br Tryz.func90 rfl Tryz.ntmps90 rfl fun f h s=>bG ac 1 h rfl fun f h=>al (cd ac 1 h rfl fun f h=>my ac h rfl (decide_eq_false (by omega)) fun f h=>tY h rfl (al (cd ac 2 h rfl fun f h=>ag h (gZ Tryz.underlying22 (h.ev rfl)) rfl fun f h=>aq ac 1 h rfl fun f h=>ag h (gK Tryz.underlying22 (h.ev rfl)) rfl fun f h=>ag h (bm (.int .i64 0) (dt (h.ev rfl) (h.ev rfl) (by omega)) (rfl)) rfl fun f h=>ag h (bm (.int .i64 (n:Int)) (dt (h.ev rfl) (h.ev rfl) (by omega)) (congrArg (Value.int .i64) (by omega))) rfl fun f h=>e9 ac 1 h rfl fun f h=>bG ac 2 h rfl fun f h=>cL h rfl (fun hc=>?_) (fun hc=>?_))))
 ·refine rs ac 2 h rfl fun f h=>ag h (gZ Tryz.underlying22 (h.ev rfl)) rfl fun f h=>ag h (kN Tryz.underlying22 cZ (h.ev rfl) (h.ev rfl)) rfl fun f h=>aq ac 1 h rfl fun f h=>iy (n:=n) (base:=w.heap.size) h Tryz.underlying22 Tryz.underlying3 dU rfl rfl (by omega) (by omega) (by omega) (Nat.le_refl _) rfl fun f w1 v22 xs9 h hE9 hO9=>?_
  replace s:=s.sl_new hE9 hO9
  refine aq ac 1 h rfl fun f h=>ag h (gK Tryz.underlying22 (h.ev rfl)) rfl fun f h=>ag h (jt hO9 Tryz.underlying22 cZ (h.ev rfl) (h.ev rfl)) rfl fun f h=>e9 ac 1 h rfl fun f h=>bG ac 2 h rfl fun f h=>wpIn_ret (aI rfl h s rfl (hO9.cut0))
 ·refine kt (bG ac 2 h rfl fun f h=>wpIn_ret (aI rfl h s rfl (km _ _ _ _)))
theorem mh (vh:Value) (us:List Value) (ls:List (List Tg)) (hls:us.length=ls.length) (htot:ls.flatten.length≤1000) (hvn:us.length≤1000) (w:World) (hv:bK w vh 1 us.length us) (hr:∀ k,k<us.length→bK w (us.getD k undef) 67 (ls.getD k []).length (aA (ls.getD k []))):Calls Tryz.prog 63 [vh].toArray w (bT w (fun v w'=>cb w' w.heap.size 67 67 v ls.flatten.length (aA ls.flatten))):=by
 refine br Tryz.func63 rfl Tryz.ntmps63 rfl fun f h s=>bG ac 1 h rfl fun f h=>bG ac 1 h rfl fun f h=>al (cd ac 1 h rfl fun f h=>eh h (hv.keep s.ext) Tryz.underlying141 rfl rfl fun f h=>e9 ac 1 h rfl fun f h=>wpIn_block (wpIn_loop_ghost (fun nn aa ww=>∃ k:Nat,Sl 36 aa [(0,vh),(3,.int .i64 (((ls.take k).flatten.length:Nat):Int)),(9,vh),(10,.int .i64 (us.length:Int)),(11,.int .i64 (k:Int))]∧St w [] ww∧nn=us.length - k∧k≤us.length) (us.length - (0)) ⟨0,h.only ⟨rfl,ar rfl rfl,rfl,rfl,ar rfl (by omega),trivial⟩,s.as trivial,rfl,Nat.zero_le _⟩ ?_))
 rintro _ f w1 ⟨k,h,s,hnn,hp0⟩
 refine bG ac 1 h rfl fun f h=>al (cL h rfl (fun hc=>?_) (fun hc=>?_))
 ·refine kt (al (wpIn_block (qr ?_)))
  have hkl:k<us.length:=by omega
  refine ag h (bW (hv.keep s.ext) (k) Tryz.underlying141 Ee (h.ev rfl) (h.ev rfl) (by omega) (by omega)) rfl fun f h=>ap ((hv.keep s.ext).el1 (k) (V:=us.getD k undef) (mM hkl)) h di rfl rfl fun f h=>e9 ac 1 h rfl fun f h=>cd ac 2 h rfl fun f h=>eh h ((hr k hkl).keep s.ext) Tryz.underlying22 rfl rfl fun f h=>?_
  have hk1:=nF ls k (by omega)
  have hk2:=wb ls (k+1)
  refine ag h (bh (h.ev rfl) (h.ev rfl) (by omega)) rfl fun f h=>e9 ac 1 h rfl fun f h=>cd ac 1 h rfl fun f h=>my ac h rfl (decide_eq_false (by omega)) fun f h=>BN h rfl (wpIn_skip (bg (aH (az (ag h (bh (h.ev rfl) (h.ev rfl) (by omega)) rfl fun f h=>e9 ac 1 h rfl fun f h=>?_)))))
  exact ⟨_,by omega,⟨k+1,h.only ⟨rfl,ar rfl (by omega),rfl,rfl,ar rfl (by omega),trivial⟩,St.as s trivial,rfl,by omega⟩⟩
 ·refine wpIn_exit (aZ (aZ (bQ (aH (qr ?_)))))
  obtain rfl:k=us.length:=by omega
  refine lg ac (.int .i64 ((ls.flatten.length:Nat):Int)) h rfl (by rw [hls,List.take_length]) rfl fun f h=>bk h s Hq (wP ls.flatten.length (by omega) _) rfl rfl ?_;intro f w1 v24 hT hE h sq;replace s:=s.sl_new hE hT
  refine e9 ac 1 h rfl fun f h=>al (cd ac 1 h rfl fun f h=>eh h (hv.keep s.ext) Tryz.underlying141 rfl rfl fun f h=>e9 ac 1 h rfl fun f h=>wpIn_block (wpIn_loop_ghost (fun nn aa ww=>∃ i:Nat,∃ vb:Value,Sl 36 aa [(0,vh),(6,vb),(25,vh),(26,.int .i64 (us.length:Int)),(27,.int .i64 (i:Int))]∧St w [.sl vb 67 67 (ls.take i).flatten.length (aA (ls.take i).flatten)] ww∧nn=us.length - i∧i≤us.length) (us.length - (0)) ⟨0,v24,h.only ⟨rfl,rfl,rfl,rfl,ar rfl (by omega),trivial⟩,s.as ⟨lY rfl rfl,trivial⟩,rfl,Nat.zero_le _⟩ ?_))
  rintro _ f w1 ⟨i,vb,h,s,hnn,hp0⟩
  refine bG ac 1 h rfl fun f h=>al (cL h rfl (fun hc=>?_) (fun hc=>?_))
  ·refine kt (al (wpIn_block (qr ?_)))
   have hkl:i<us.length:=by omega
   have hk1:=nF ls i (by omega)
   have hk2:=wb ls (i+1)
   refine ag h (bW (hv.keep s.ext) (i) Tryz.underlying141 Ee (h.ev rfl) (h.ev rfl) (by omega) (by omega)) rfl fun f h=>ap ((hv.keep s.ext).el1 (i) (V:=us.getD i undef) (mM hkl)) h di rfl rfl fun f h=>e9 ac 1 h rfl fun f h=>rs ac 2 h rfl fun f h=>lW 0 ((hr i hkl).keep s.ext) h s Tryz.underlying22 dU rfl rfl rfl (kG _) (by unfold maxLen;omega) (by omega) rfl fun f w1 v33 h s=>aq ac 1 h rfl fun f h=>aB (bg (aH (az (ag h (bh (h.ev rfl) (h.ev rfl) (by omega)) rfl fun f h=>e9 ac 1 h rfl fun f h=>?_))))
   exact ⟨_,by omega,⟨i+1,v33,h.only ⟨rfl,rfl,rfl,rfl,ar rfl (by omega),trivial⟩,St.as s ⟨lY (nF ls i (by omega)) (tG ls i (by omega)),trivial⟩,rfl,by omega⟩⟩
  ·refine wpIn_exit (aZ (aZ (bQ (aH (bG ac 2 h rfl fun f h=>wpIn_ret (aI rfl h s rfl (rb (by omega) (s.getSl 0 rfl))))))))
theorem xI (l:List Tg) (hln:l.length≤1000) (a9:Option Addr) (n9 c9:Nat) (w:World) (hR:bK w (.slice a9 n9 c9) 67 l.length (aA l)):Calls Tryz.prog 27 [.slice a9 n9 c9].toArray w (bT w (fun v w'=>cb w' w.heap.size 67 67 v l.length (aA l))):=by
 refine br Tryz.func27 rfl Tryz.ntmps27 rfl fun f h s=>bG ac 1 h rfl fun f h=>al (al ?_)
 cases hn:(a9.isNone:Bool)
 ·refine rs ac 1 h rfl fun f h=>ag h (bm (.bool false) (mq Tryz.underlying22 (h.ev rfl) (h.ev rfl)) (congrArg Value.bool hn)) rfl fun f h=>tY h rfl (qr (xm (base:=w.heap.size) h Tryz.underlying22 dU (Nat.le_refl _) rfl fun f w2 v5 h hE3 e5=>aq ac 1 h rfl fun f h=>qk (base:=w.heap.size) e5 (hR.keep hE3) h Tryz.underlying22 dU rfl rfl hE3.le (kG _) (by unfold maxLen;omega) (by omega) rfl fun f w3 v7 h hE4 e7=>?_))
  replace s:=s.sl_new (hE3.trans hE4) e7
  refine e9 ac 1 h rfl fun f h=>wpIn_ret (aI rfl h s rfl (s.getSl 0 rfl))
 ·refine rs ac 1 h rfl fun f h=>ag h (bm (.bool true) (mq Tryz.underlying22 (h.ev rfl) (h.ev rfl)) (congrArg Value.bool hn)) rfl fun f h=>A4 h rfl (bG ac 1 h rfl fun f h=>rt (aI rfl h s rfl (by obtain rfl:=uk hn hR;exact km _ _ _ _)))
theorem jB (l:List Tg) (hln:l.length≤1000) (v9:Value) (w:World) (hR:bK w v9 67 l.length (aA l)):Calls Tryz.prog 27 [v9].toArray w (bT w (fun v w'=>cb w' w.heap.size 67 67 v l.length (aA l))):=by
 obtain ⟨a,c,rfl⟩:=hR.len
 exact xI l hln a _ c w hR
set_option maxHeartbeats 1000000 in
theorem m4 (l:List Tg) (vh:Value) (x:Tg) (w:World) (hR:bK w vh 67 l.length (aA l)) (hln:l.length≤1000):Calls Tryz.prog 37 [vh,.agg (au x)].toArray w (bT w (Gu w vh l (ip l x) (fW l x))):=by
 refine br Tryz.func37 rfl Tryz.ntmps37 rfl fun f h s=>qr (aR (au x) h s rfl rfl rfl fun f w1 b3 h s=>e9 ac 2 h rfl fun f h=>al (al ?_))
 refine rs ac 1 h rfl fun f h=>fJ h s iW (c0 l vh _ (hR.keep s.ext) hln) rfl rfl (fun r0 f w1 h s=>?_) (fun r0 f w1 h s=>?_)
 ·refine e9 ac 6 h rfl fun f h=>cv h rfl (bG ac 2 h rfl fun f h=>rt (cg rfl h s rfl rfl (gi (AM r0 x).1 (AM r0 x).2 (s.sel [] rfl (by decide)))))
 ·skip
  refine aq ac 2 h rfl fun f h=>ca h rfl (aj 0 h s aT rfl rfl (ai _) rfl fun f h=>ca h rfl (fJ h s qv (fy x _) rfl rfl (fun m0 f w1 h s=>?_) (fun m0 f w1 h s=>?_)))
  ·refine e9 ac 2 h rfl fun f h=>cv h rfl (bG ac 2 h rfl fun f h=>rt (cg rfl h s rfl rfl (gi (yi l m0).1 (yi l m0).2 (s.sel [] rfl (by decide)))))
  ·refine e9 ac 2 h rfl fun f h=>jw h rfl (qr ?_)
   have hrt:=dK.1 r0
   have hl32:=hrt.len
   refine aq ac 1 h rfl fun f h=>aj 0 h s aT rfl rfl (ai _) rfl fun f h=>bk h s D5 (o3 l vh x _ (hR.keep s.ext) hln hrt.srt) rfl rfl ?_;rintro f w1 v19 ⟨n,b,rfl,hf9⟩ hE h s
   refine e9 ac 5 h rfl fun f h=>al (al ?_)
   refine az (da ac h rfl (fun b9 f h=>?_) (fun b9 f h=>?_))
   ·refine tY h rfl (al (qr ?_))
    rw [b9] at hf9
    have hnl:=hf9.le
    refine aq ac 1 h rfl fun f h=>eh h (hR.keep s.ext) Tryz.underlying22 rfl rfl fun f h=>e9 ac 1 h rfl fun f h=>cq h rfl (fun hc=>?_) (fun hc=>?_)
    ·have h32:l.length=32:=by have:=of_decide_eq_true hc;omega
     refine bG ac 2 h rfl fun f h=>rt (cg rfl h s rfl rfl (gi (DJ hrt m0 hf9 h32).1 (DJ hrt m0 hf9 h32).2 (s.sel [] rfl (by decide))))
    ·have h32:¬ l.length=32:=by have:=of_decide_eq_false hc;omega
     refine kt (al (lj 0 10 [[],[],[0,1],[],[3],[],[],[5,6],[0,1,2,3,4,5,6,7],[0,1,2,3,4,5,6,7,8],[0,1,2,3,4,5,6,7,8,9],[0,1,2,3,4,5,6,7,8,9,10]] [[],[],[],[],[],[],[],[],[],[8,4],[],[]] [] [.v _,.v _,.v (dE vh n),.v (.agg (au x)),.r (fun v=>[.sl (v 4) 67 67 [x].length (aA [x])]) (fun v=>(v 4).oneCell'=true),.v _,.v _,.v (cX vh 67 n),.m (fun v=>[.sl (v 8) 22 1 3 [dE vh n,(v 4),cX vh 67 n]]),.m (fun v=>[.sl (v 9) 67 67 (l.take n++([x]++l.drop n)).length (aA (l.take n++([x]++l.drop n)))]),.n,.n] _ h s rfl (by kernel_rfl) (by kernel_rfl) (by kernel_rfl) (ii ac h rfl rfl rfl (ii ac h rfl rfl rfl (cu ?_ (cu ?_ (cu ?_ (ii ac h rfl rfl rfl (ii ac h rfl rfl rfl (cu ?_ (cu ?_ (cu ?_ (trivial))))))))))) [0,1,2,3,5,6,7,9] (by kernel_rfl) ?_))
     ·intro f9 w2 vl10 E9 hs9 hd9 hl hF s
      have h:=cS [(41,_),(42,_)] h hs9 hd9 ⟨bu hl 41 0 (by kernel_rfl) (hF 0 (by decide)),bu hl 42 1 (by kernel_rfl) (hF 1 (by decide)),trivial⟩
      refine ag h (eK (hR.keep s.ext) (n) Tryz.underlying22 cZ (h.ev rfl) (h.ev rfl) (rfl) (by omega)) rfl fun f h=>aB ⟨_,bv 43 h rfl rfl,rfl,s⟩
     ·intro f9 w2 vl10 E9 hs9 hd9 hl hF s
      have h:=cS [(3,_)] h hs9 hd9 ⟨fY hl 3 (by kernel_rfl) (h.holds 3 _ rfl),trivial⟩
      refine aj 0 h s aT rfl rfl (ai _) rfl fun f h=>aB ⟨_,bv 44 h rfl rfl,rfl,s⟩
     ·intro f9 w2 vl10 E9 hs9 hd9 hl hF s
      have h:=cS [(44,_)] h hs9 hd9 ⟨bu hl 44 3 (by kernel_rfl) (hF 3 (by decide)),trivial⟩
      refine bF (vs:=[.agg (au x)]) [.tmp 44] h s Tryz.underlying22 dU rfl rfl (kz _) rfl rfl rfl fun f w1 v45 h s=>?_
      replace s:=s.resl (m:=[x].length) (ys:=aA [x]) 0 rfl rfl (by rw [dY,gk])
      exact aB ⟨_,bv 45 h rfl rfl,gR (s.getSl 0 rfl),s⟩
     ·intro f9 w2 vl10 E9 hs9 hd9 hl hF s
      have h:=cS [(46,_),(47,_)] h hs9 hd9 ⟨bu hl 46 5 (by kernel_rfl) (hF 5 (by decide)),bu hl 47 6 (by kernel_rfl) (hF 6 (by decide)),trivial⟩
      refine ag h (fL (hR.keep s.ext) (n) Tryz.underlying22 cZ (h.ev rfl) (h.ev rfl) (rfl) (by omega)) rfl fun f h=>aB ⟨_,bv 48 h rfl rfl,rfl,s⟩
     ·intro f9 w2 vl10 E9 hs9 hd9 hl hF s
      have e43:f9.tmps.getD 43 undef=dE vh n:=(cz hl 43 2 (by kernel_rfl) (by kernel_rfl)).trans (hF 2 (by decide))
      have e45:f9.tmps.getD 45 undef=(vl10 4):=cz hl 45 4 (by kernel_rfl) (by kernel_rfl)
      have e48:f9.tmps.getD 48 undef=(cX vh 67 n):=(cz hl 48 7 (by kernel_rfl) (by kernel_rfl)).trans (hF 7 (by decide))
      have h:=bI [(43,dE vh n),(45,(vl10 4)),(48,(cX vh 67 n))] (hs9.trans h.size) (hd9.trans h.defers) (holds_lk ⟨e43,e45,e48,trivial⟩)
      refine bF (vs:=[dE vh n,(vl10 4),cX vh 67 n]) [.tmp 43,.tmp 45,.tmp 48] h s Tryz.underlying141 Ea rfl rfl (by intro v hv;simp only [List.mem_cons,List.not_mem_nil,or_false] at hv;rcases hv with rfl|rfl|rfl;exact f8 (gg (hR.keep s.ext) n (by omega));exact(DG (hF 4 (by decide))).1;exact f8 (i5 (hR.keep s.ext) n (by omega))) rfl rfl rfl fun f w1 v49 h s=>?_
      replace s:=s.resl (m:=3) (ys:=[dE vh n,(vl10 4),cX vh 67 n]) 0 rfl rfl (by simp [fq (gg (hR.keep s.ext) n (by omega)),show (vl10 4).cells.toList=[vl10 4] from (DG (hF 4 (by decide))).2,fq (i5 (hR.keep s.ext) n (by omega))])
      exact aB ⟨_,bv 49 h rfl rfl,trivial,s⟩
     ·intro f9 w2 vl10 E9 hs9 hd9 hl hF s
      have e49:f9.tmps.getD 49 undef=(vl10 8):=cz hl 49 8 (by kernel_rfl) (by kernel_rfl)
      have h:=bI [(49,(vl10 8))] (hs9.trans h.size) (hd9.trans h.defers) (holds_lk ⟨e49,trivial⟩)
      refine bk h s Ep (mh (vl10 8) [dE vh n,(vl10 4),cX vh 67 n] [l.take n,[x],l.drop n] rfl (by rw [iJ];simp only [List.length_append,List.length_take,List.length_drop,List.length_cons,List.length_nil];omega) (by simp) _ (bK.of_own (s.getSl 0 rfl)) (xJ (gg (hR.keep s.ext) n (by omega)) (bK.of_own (s.getSl 1 rfl)) (i5 (hR.keep s.ext) n (by omega)))) rfl rfl ?_;intro f w1 v9_ hT hE h sq
      replace s:=s.sl_new hE (hT.seq (m:=(l.take n++([x]++l.drop n)).length) (ys:=aA (l.take n++([x]++l.drop n))) (by rw [iJ]) (by rw [iJ]))
      exact aB ⟨_,bv 50 h rfl rfl,trivial,(s.pick _ (List.Sublist.cons_cons _ (List.Sublist.cons _ (List.Sublist.cons _ (List.Sublist.cons_cons _ (List.Sublist.refl _))))))⟩
     intro f w1 vl10 hs9 hd9 hv hr hF s
     replace hv:=fun i d h9=>hv i d (show Nat.blt i 10=true from h9)
     replace h:=lm 10 (ops:=_) [(41,_),(42,_),(43,_),(44,_),(45,(vl10 4)),(46,_),(47,_),(48,_),(49,(vl10 8)),(50,(vl10 9))] h hs9 hd9 hr ⟨(hv 0 41 rfl rfl).trans (hF 0 rfl),(hv 1 42 rfl rfl).trans (hF 1 rfl),(hv 2 43 rfl rfl).trans (hF 2 rfl),(hv 3 44 rfl rfl).trans (hF 3 rfl),hv 4 45 rfl rfl,(hv 5 46 rfl rfl).trans (hF 5 rfl),(hv 6 47 rfl rfl).trans (hF 6 rfl),(hv 7 48 rfl rfl).trans (hF 7 rfl),hv 8 49 rfl rfl,hv 9 50 rfl rfl,trivial⟩ (by kernel_rfl)
     replace s:St w [.sl (vl10 9) 67 67 (l.take n++([x]++l.drop n)).length (aA (l.take n++([x]++l.drop n))),.blk b3 (.cells (au x) 67)] _:=s
     refine e9 ac 2 h rfl fun f h=>wpIn_ret (cg rfl h s rfl rfl (j9 (Er hrt m0 hf9 h32).1 (Er hrt m0 hf9 h32).2 (s.sel [0] rfl (by decide))))
   ·refine A4 h rfl (qr ?_)
    rw [b9] at hf9
    have hnl:=(qU hrt.srt hf9).1
    refine aq ac 1 h rfl fun f h=>bk h s AE (jB l hln vh _ (hR.keep s.ext)) rfl rfl ?_;intro f w1 v24 hT hE h sq;replace s:=s.sl_new hE hT
    refine e9 ac 1 h rfl fun f h=>al (d8 12 h (by kernel_rfl) (ay ac 4 h rfl fun f h=>ax h (bW (bK.of_own (s.getSl 0 rfl)) (n) Tryz.underlying22 cZ (h.ev rfl) (h.ev rfl) (rfl) (by omega)) rfl fun f h=>ax h (gH pj (h.ev rfl) ((bK.of_own (s.getSl 0 rfl)).some (by omega))) rfl fun f h=>av (V:=.int .i64 (l.getD n aN).2.2) (ui (bK.of_own (s.getSl 0 rfl)) (n*67+66) (HQ l n hnl)) h bJ rfl rfl fun f h=>ay ac 1 h rfl fun f h=>av (ae (aO.of_own s 1 rfl) 66 (cR _)) h bJ rfl rfl fun f h=>ax h (bm (.int .i64 (max (l.getD n aN).2.2 x.2.2)) (EK (h.ev rfl) (h.ev rfl)) (congrArg (Value.int .i64) (by split<;>omega))) rfl fun f h=>ax h (bW (bK.of_own (s.getSl 0 rfl)) (n) Tryz.underlying22 cZ (h.ev rfl) (h.ev rfl) (rfl) (by omega)) rfl fun f h=>ax h (gH pj (h.ev rfl) ((bK.of_own (s.getSl 0 rfl)).some (by omega))) rfl fun f h=>cc s fun w1 s=>q6 0 h s bJ rfl rfl rfl (by omega) (rfl) (Fn hnl (GA l x n) 66 _ (by decide) (vQ _ _)) fun w1 s=>?_))
    replace s:=s.resl (m:=(l.set n (GA l x n)).length) (ys:=aA (l.set n (GA l x n))) 0 rfl (by rw [List.length_set]) (rfl)
    refine nt (bG ac 3 h rfl fun f h=>rt (cg rfl h s rfl rfl (j9 (Hf hrt m0 hf9).1 (Hf hrt m0 hf9).2 (s.sel [0] rfl (by decide)))))
set_option maxHeartbeats 1000000 in
theorem xb (l:List Tg) (vh:Value) (i:Id) (e:cw) (w:World) (hR:bK w vh 67 l.length (aA l)) (hln:l.length≤1000):Calls Tryz.prog 72 [vh,en i,.agg (bc e)].toArray w (bT w (Gu w vh l (lB l i e) (gS l i e))):=by
 refine br Tryz.func72 rfl Tryz.ntmps72 rfl fun f h s=>qr (aR (aw i) h s rfl rfl rfl fun f w1 b4 h s=>aR (bc e) h s rfl rfl rfl fun f w1 b5 h s=>e9 ac 2 h rfl fun f h=>al (al ?_))
 refine rs ac 1 h rfl fun f h=>fJ h s iW (c0 l vh _ (hR.keep s.ext) hln) rfl rfl (fun r0 f w1 h s=>?_) (fun r0 f w1 h s=>?_)
 ·refine e9 ac 1 h rfl fun f h=>cv h rfl (bG ac 2 h rfl fun f h=>rt (cg rfl h s rfl rfl (gi (AA r0 i e).1 (AA r0 i e).2 (s.sel [] rfl (by decide)))))
 ·refine e9 ac 1 h rfl fun f h=>jw h rfl (qr ?_)
  have hrt:=dK.1 r0
  have hl32:=hrt.len
  refine aq ac 1 h rfl fun f h=>aj 1 h s aP rfl rfl (by first|exact am _|exact ah _ _) rfl fun f h=>aj 0 h s cy rfl rfl (aK _) rfl fun f h=>ag h (nZ mw (h.ev rfl) (h.ev rfl)) rfl fun f h=>bk h s D5 (o3 l vh (i,e,(0:Int)) _ (hR.keep s.ext) hln hrt.srt) rfl rfl ?_;rintro f w1 v18 ⟨n,b,rfl,hf9⟩ hE h s
  refine e9 ac 5 h rfl fun f h=>al (al ?_)
  refine az (da ac h rfl (fun b9 f h=>?_) (fun b9 f h=>?_))
  ·refine e9 ac 1 h rfl fun f h=>cv h rfl (bG ac 2 h rfl fun f h=>rt (cg rfl h s rfl rfl (gi (HZ hrt (by rw [b9] at hf9;exact hf9)).1 (HZ hrt (by rw [b9] at hf9;exact hf9)).2 (s.sel [] rfl (by decide)))))
  ·refine e9 ac 1 h rfl fun f h=>jw h rfl (al ?_)
   rw [b9] at hf9
   have hnl:=(qU hrt.srt hf9).1
   refine lj 0 9 [[],[],[0,1],[],[],[4],[3,4,5],[0,1,2,3,4,5,6],[0,1,2,3,4,5,6,7],[0,1,2,3,4,5,6,7,8],[0,1,2,3,4,5,6,7,8,9]] [[],[],[],[],[],[],[],[],[7],[],[]] [] [.v _,.v _,.v (dE vh n),.v _,.v _,.v (.int .i64 ((n:Int)+1)),.v (cX vh 67 (n+1)),.m (fun v=>[.sl (v 7) 22 1 2 [dE vh n,cX vh 67 (n+1)]]),.m (fun v=>[.sl (v 8) 67 67 (l.take n++l.drop (n+1)).length (aA (l.take n++l.drop (n+1)))]),.n,.n] _ h s rfl (by kernel_rfl) (by kernel_rfl) (by kernel_rfl) (ii ac h rfl rfl rfl (ii ac h rfl rfl rfl (cu ?_ (ii ac h rfl rfl rfl (ii ac h rfl rfl rfl (cu ?_ (cu ?_ (cu ?_ (cu ?_ (trivial)))))))))) [0,1,2,3,4,5,6,8] (by kernel_rfl) ?_
   ·intro f9 w2 vl6 E9 hs9 hd9 hl hF s
    have h:=cS [(23,_),(24,_)] h hs9 hd9 ⟨bu hl 23 0 (by kernel_rfl) (hF 0 (by decide)),bu hl 24 1 (by kernel_rfl) (hF 1 (by decide)),trivial⟩
    refine ag h (eK (hR.keep s.ext) (n) Tryz.underlying22 cZ (h.ev rfl) (h.ev rfl) (rfl) (by omega)) rfl fun f h=>aB ⟨_,bv 25 h rfl rfl,rfl,s⟩
   ·intro f9 w2 vl6 E9 hs9 hd9 hl hF s
    have h:=cS [(27,_)] h hs9 hd9 ⟨bu hl 27 4 (by kernel_rfl) (hF 4 (by decide)),trivial⟩
    refine ag h (bh (h.ev rfl) (h.ev rfl) (by omega)) rfl fun f h=>aB ⟨_,bv 28 h rfl rfl,rfl,s⟩
   ·intro f9 w2 vl6 E9 hs9 hd9 hl hF s
    have h:=cS [(26,_),(28,_)] h hs9 hd9 ⟨bu hl 26 3 (by kernel_rfl) (hF 3 (by decide)),bu hl 28 5 (by kernel_rfl) (hF 5 (by decide)),trivial⟩
    refine ag h (fL (hR.keep s.ext) ((n+1)) Tryz.underlying22 cZ (h.ev rfl) (h.ev rfl) (by omega) (by omega)) rfl fun f h=>aB ⟨_,bv 29 h rfl rfl,rfl,s⟩
   ·intro f9 w2 vl6 E9 hs9 hd9 hl hF s
    have h:=cS [(25,_),(29,_)] h hs9 hd9 ⟨bu hl 25 2 (by kernel_rfl) (hF 2 (by decide)),bu hl 29 6 (by kernel_rfl) (hF 6 (by decide)),trivial⟩
    refine bF (vs:=[dE vh n,cX vh 67 (n+1)]) [.tmp 25,.tmp 29] h s Tryz.underlying141 Ea rfl rfl (by intro v hv;simp only [List.mem_cons,List.not_mem_nil,or_false] at hv;rcases hv with rfl|rfl;exact f8 (gg (hR.keep s.ext) n (by omega));exact f8 (i5 (hR.keep s.ext) (n+1) (by omega))) rfl rfl rfl fun f w1 v30 h s=>?_
    replace s:=s.resl (m:=2) (ys:=[dE vh n,cX vh 67 (n+1)]) 0 rfl rfl (by simp [fq (gg (hR.keep s.ext) n (by omega)),fq (i5 (hR.keep s.ext) (n+1) (by omega))])
    exact aB ⟨_,bv 30 h rfl rfl,trivial,s⟩
   ·intro f9 w2 vl6 E9 hs9 hd9 hl hF s
    have e30:f9.tmps.getD 30 undef=(vl6 7):=cz hl 30 7 (by kernel_rfl) (by kernel_rfl)
    have h:=bI [(30,(vl6 7))] (hs9.trans h.size) (hd9.trans h.defers) (holds_lk ⟨e30,trivial⟩)
    refine bk h s Ep (mh (vl6 7) [dE vh n,cX vh 67 (n+1)] [l.take n,l.drop (n+1)] rfl (by rw [lP];simp only [List.length_append,List.length_take,List.length_drop,List.length_cons,List.length_nil];omega) (by simp) _ (bK.of_own (s.getSl 0 rfl)) (BH (gg (hR.keep s.ext) n (by omega)) (i5 (hR.keep s.ext) (n+1) (by omega)))) rfl rfl ?_;intro f w1 v9_ hT hE h sq
    replace s:=s.sl_new hE (hT.seq (m:=(l.take n++l.drop (n+1)).length) (ys:=aA (l.take n++l.drop (n+1))) (by rw [lP]) (by rw [lP]))
    exact aB ⟨_,bv 31 h rfl rfl,trivial,(s.pick _ (List.Sublist.cons_cons _ (List.Sublist.cons _ (List.Sublist.cons_cons _ (List.Sublist.cons_cons _ (List.Sublist.refl _))))))⟩
   intro f w1 vl6 hs9 hd9 hv hr hF s
   replace hv:=fun i d h9=>hv i d (show Nat.blt i 9=true from h9)
   replace h:=lm 9 (ops:=_) [(23,_),(24,_),(25,_),(26,_),(27,_),(28,_),(29,_),(30,(vl6 7)),(31,(vl6 8))] h hs9 hd9 hr ⟨(hv 0 23 rfl rfl).trans (hF 0 rfl),(hv 1 24 rfl rfl).trans (hF 1 rfl),(hv 2 25 rfl rfl).trans (hF 2 rfl),(hv 3 26 rfl rfl).trans (hF 3 rfl),(hv 4 27 rfl rfl).trans (hF 4 rfl),(hv 5 28 rfl rfl).trans (hF 5 rfl),(hv 6 29 rfl rfl).trans (hF 6 rfl),hv 7 30 rfl rfl,hv 8 31 rfl rfl,trivial⟩ (by kernel_rfl)
   replace s:St w [.sl (vl6 8) 67 67 (l.take n++l.drop (n+1)).length (aA (l.take n++l.drop (n+1))),.blk b5 (.cells (bc e) 28),.blk b4 (.cells (aw i) 26)] _:=s
   refine e9 ac 2 h rfl fun f h=>wpIn_ret (cg rfl h s rfl rfl (j9 (IM hrt hf9).2.1 (IM hrt hf9).2.2 (s.sel [0] rfl (by decide))))
theorem wI (x:Tg) (now:Int) (bx:Nat) (w:World) (hb:dB w bx #[.int .i64 now]):Calls Tryz.prog 79 [.agg (au x),.pointer (some ⟨bx,0,none⟩)].toArray w (bT w (is (.bool (decide (now<x.2.2))))):=by
 refine br Tryz.func79 rfl Tryz.ntmps79 rfl fun f h s=>qr (aR (au x) h s rfl rfl rfl fun f w1 b2 h s=>e9 ac 1 h rfl fun f h=>cd ac 1 h rfl fun f h=>ap (ae (aO.of_own s 0 rfl) 66 (cR _)) h bJ rfl rfl fun f h=>ap (V:=.int .i64 now) (ae (aO.of_tab (hb.keep s.ext)) 0 (rfl)) h bJ rfl rfl fun f h=>e9 ac 2 h rfl fun f h=>wpIn_ret (aI rfl h s rfl (rfl)))
theorem Ad (l:List Tg) (vh:Value) (now:Int) (w:World) (hR:bK w vh 67 l.length (aA l)) (hln:l.length≤1000):Calls Tryz.prog 49 [vh,.int .i64 now].toArray w (bT w (Gu w vh l (t2 l now) (wV l))):=by
 refine br Tryz.func49 rfl Tryz.ntmps49 rfl fun f h s=>qr (aR (#[.int .i64 now]) h s rfl rfl rfl fun f w1 b3 h s=>e9 ac 2 h rfl fun f h=>al (al ?_))
 cases r0:(bp l:Bool)
 ·refine rs ac 1 h rfl fun f h=>jQ false h s iW (c0 l vh _ (hR.keep s.ext) hln) (r0) rfl rfl fun f w1 h s=>e9 ac 1 h rfl fun f h=>cv h rfl (bG ac 2 h rfl fun f h=>rt (cg rfl h s rfl rfl (gi (E3 r0 now).1 (E3 r0 now).2 (s.sel [] rfl (by decide)))))
 ·refine rs ac 1 h rfl fun f h=>bk h s iW (bj (.bool true) (c0 l vh _ (hR.keep s.ext) hln) (congrArg Value.bool r0)) rfl rfl ?_;intro f w1 v9 hT hE h s;obtain rfl:=hT
  refine e9 ac 1 h rfl fun f h=>jw h rfl (cd ac 1 h rfl fun f h=>ag h (dl [.pointer (some ⟨b3,0,none⟩)] (kZ h rfl)) rfl fun f h=>bk h s un (i4 l vh 79 [.pointer (some ⟨b3,0,none⟩)] ((fun y=>decide (now<y.2.2))) _ (hR.keep s.ext) hln HB (fun w9 h9 y _=>wI y now b3 w9 ((dB.of_own s 0 rfl).keep h9))) rfl rfl ?_);intro f w1 v11 hT hE h sq;replace s:=s.sl_new hE hT
  refine e9 ac 2 h rfl fun f h=>wpIn_ret (cg rfl h s rfl rfl (j9 (Ge r0 now).1 (Ge r0 now).2 (s.sel [0] rfl (by decide))))
theorem o6 (y:Tg) (x:Id) (bx:Nat) (w:World) (hb:dB w bx (aw x)):Calls Tryz.prog 116 [.agg (au y),.pointer (some ⟨bx,0,none⟩)].toArray w (bT w (is (.int .i64 (E0 x y)))):=by
 refine br Tryz.func116 rfl Tryz.ntmps116 rfl fun f h s=>qr (aR (au y) h s rfl rfl rfl fun f w1 b2 h s=>e9 ac 1 h rfl fun f h=>cd ac 1 h rfl fun f h=>aE (aO.subL (aO.of_own s 0 rfl) 0 32 (D:=aw (_)) (dh _)) h aP rfl (by first|exact am _|exact ah _ _) rfl fun f h=>aE (aO.subL (aO.of_tab (hb.keep s.ext)) 0 32 (D:=aw x) (ly _)) h aP rfl (by first|exact am _|exact ah _ _) rfl fun f h=>cn h s Fl (tC y.1 x _) rfl rfl fun f w1 h s=>e9 ac 1 h rfl fun f h=>wpIn_ret (aI rfl h s rfl (rfl)))
theorem xz (y z:Tg) (bx:Nat) (w:World) (hb:dB w bx (au z)):Calls Tryz.prog 119 [.agg (au y),.pointer (some ⟨bx,0,none⟩)].toArray w (bT w (is (.bool (decide (y.1=z.1))))):=by
 refine br Tryz.func119 rfl Tryz.ntmps119 rfl fun f h s=>qr (aR (au y) h s rfl rfl rfl fun f w1 b2 h s=>e9 ac 1 h rfl fun f h=>cd ac 1 h rfl fun f h=>aE (aO.subL (aO.of_own s 0 rfl) 0 32 (D:=aw (_)) (dh _)) h aP rfl (by first|exact am _|exact ah _ _) rfl fun f h=>aq ac 1 h rfl fun f h=>aE (aO.subL (aO.of_tab (hb.keep s.ext)) 0 32 (D:=aw z.1) (dh _)) h aP rfl (by first|exact am _|exact ah _ _) rfl fun f h=>ag h (cG ep (h.ev rfl) (h.ev rfl)) rfl fun f h=>e9 ac 1 h rfl fun f h=>wpIn_ret (aI rfl h s rfl (rfl)))
theorem sB (l:List Tg) (vh:Value) (x:Id) (w:World) (hR:bK w vh 67 l.length (aA l)) (hln:l.length≤1000):Calls Tryz.prog 99 [vh,en x].toArray w (bT w (Gu w vh l (Gc l x) (Cj l x))):=by
 refine br Tryz.func99 rfl Tryz.ntmps99 rfl fun f h s=>qr (aR (aw x) h s rfl rfl rfl fun f w1 b3 h s=>e9 ac 2 h rfl fun f h=>al (al ?_))
 refine rs ac 1 h rfl fun f h=>fJ h s iW (c0 l vh _ (hR.keep s.ext) hln) rfl rfl (fun r0 f w1 h s=>?_) (fun r0 f w1 h s=>?_)
 ·refine e9 ac 1 h rfl fun f h=>cv h rfl (bG ac 2 h rfl fun f h=>rt (cg rfl h s rfl rfl (gi (Iy r0 x).1 (Iy r0 x).2 (s.sel [] rfl (by decide)))))
 ·refine e9 ac 1 h rfl fun f h=>jw h rfl (qr (ag h (dl [.pointer (some ⟨b3,0,none⟩)] (kZ h rfl)) rfl fun f h=>e9 ac 1 h rfl fun f h=>al ?_))
  cases hi:((BB l x).2.2:Bool)
  ·refine rs ac 2 h rfl fun f h=>cn h s Aw (m5 l vh 116 [.pointer (some ⟨b3,0,none⟩)] (E0 x) 128 _ (hR.keep s.ext) hln z7 (fun w9 h9 y _=>o6 y x b3 w9 ((dB.of_own s 0 rfl).keep h9))) rfl rfl fun f w1 h s=>aq ac 2 h rfl fun f h=>ag h (bm (.bool false) (d5 (h.ev rfl) rfl) (congrArg Value.bool hi)) rfl fun f h=>aJ (au aN) h s dM rfl rfl fun f w1 b7 h s=>ao 0 h s aT rfl rfl rfl (ai _) (ai _) (aY _) fun w1 s=>e9 ac 1 h rfl fun f h=>al (bG ac 2 h rfl fun f h=>cv h rfl (bG ac 2 h rfl fun f h=>rt (cg rfl h s rfl rfl (gi ((mL r0 x).1 hi).1 ((mL r0 x).1 hi).2 (s.sel [] rfl (by decide))))))
  ·refine rs ac 2 h rfl fun f h=>bk h s Aw (m5 l vh 116 [.pointer (some ⟨b3,0,none⟩)] (E0 x) 128 _ (hR.keep s.ext) hln z7 (fun w9 h9 y _=>o6 y x b3 w9 ((dB.of_own s 0 rfl).keep h9))) rfl rfl ?_;intro f w1 v16 hT hE h s;obtain rfl:=hT
   refine aq ac 2 h rfl fun f h=>ag h (bm (.bool true) (d5 (h.ev rfl) rfl) (congrArg Value.bool hi)) rfl fun f h=>aJ (au aN) h s dM rfl rfl fun f w1 b7 h s=>ao 0 h s aT rfl rfl rfl (ai _) (ai _) (aY _) fun w1 s=>e9 ac 1 h rfl fun f h=>al (bG ac 2 h rfl fun f h=>jw h rfl (cd ac 1 h rfl fun f h=>ag h (dl [.pointer (some ⟨b7,0,none⟩)] (kZ h rfl)) rfl fun f h=>bk h s un (i4 l vh 119 [.pointer (some ⟨b7,0,none⟩)] ((fun y=>decide (y.1=(BB l x).1.1))) _ (hR.keep s.ext) hln E4 (fun w9 h9 y _=>xz y (BB l x).1 b7 w9 ((dB.of_own s 0 rfl).keep h9))) rfl rfl ?_));intro f w1 v23 hT hE h sq;replace s:=s.sl_new hE hT
   refine e9 ac 2 h rfl fun f h=>wpIn_ret (cg rfl h s rfl rfl (j9 ((mL r0 x).2 hi).1 ((mL r0 x).2 hi).2 (s.sel [0] rfl (by decide))))
theorem oE (x:Tg) (a b:Id) (ba bb:Nat) (w:World) (ha:dB w ba (aw a)) (hb:dB w bb (aw b)):Calls Tryz.prog 64 [.agg (au x),.pointer (some ⟨ba,0,none⟩),.pointer (some ⟨bb,0,none⟩)].toArray w (bT w (is (.bool (jz x.1 a b)))):=by
 refine br Tryz.func64 rfl Tryz.ntmps64 rfl fun f h s=>qr (aR (au x) h s rfl rfl rfl fun f w1 b3 h s=>e9 ac 1 h rfl fun f h=>cd ac 1 h rfl fun f h=>aE (aO.subL (aO.of_own s 0 rfl) 0 32 (D:=aw (_)) (dh _)) h aP rfl (by first|exact am _|exact ah _ _) rfl fun f h=>aE (aO.subL (aO.of_tab (ha.keep s.ext)) 0 32 (D:=aw a) (ly _)) h aP rfl (by first|exact am _|exact ah _ _) rfl fun f h=>aE (aO.subL (aO.of_tab (hb.keep s.ext)) 0 32 (D:=aw b) (ly _)) h aP rfl (by first|exact am _|exact ah _ _) rfl fun f h=>cn h s Hh (FK x.1 a b _) rfl rfl fun f w1 h s=>e9 ac 1 h rfl fun f h=>wpIn_ret (aI rfl h s rfl (rfl)))
theorem wS (x:Tg) (a b:Id) (ba bb bf:Nat) (w:World) (ha:dB w ba (aw a)) (hb:dB w bb (aw b)) (hf:dB w bf #[.func (.func 64) #[] #[.pointer (some ⟨ba,0,none⟩),.pointer (some ⟨bb,0,none⟩)]]):Calls Tryz.prog 66 [.agg (au x),.pointer (some ⟨bf,0,none⟩)].toArray w (bT w (is (.bool (!jz x.1 a b)))):=by
 refine br Tryz.func66 rfl Tryz.ntmps66 rfl fun f h s=>qr (aR (au x) h s rfl rfl rfl fun f w1 b2 h s=>e9 ac 1 h rfl fun f h=>qr (ap (V:=.func (.func 64) #[] #[.pointer (some ⟨ba,0,none⟩),.pointer (some ⟨bb,0,none⟩)]) (ae (aO.of_tab (hf.keep s.ext)) 0 (rfl)) h zy rfl rfl fun f h=>aj 0 h s aT rfl rfl (ai _) rfl fun f h=>ja [.agg (au x)] (caps:=[.pointer (some ⟨ba,0,none⟩),.pointer (some ⟨bb,0,none⟩)]) h s DV rfl (oE x a b ba bb _ (ha.keep s.ext) (hb.keep s.ext)) rfl rfl ?_));intro f w1 v6 hT hE h s;obtain rfl:=hT
 refine e9 ac 2 h rfl fun f h=>wpIn_ret (aI rfl h s rfl (rfl))
theorem yC (l:List Tg) (vh:Value) (a b:Id) (w:World) (hR:bK w vh 67 l.length (aA l)) (hln:l.length≤1000):Calls Tryz.prog 38 [vh,en a,en b].toArray w (bT w (Kd w vh l (A9 l a b true) (A9 l a b false) (wV l))):=by
 refine br Tryz.func38 rfl Tryz.ntmps38 rfl fun f h s=>qr (aR (aw a) h s rfl rfl rfl fun f w1 b4 h s=>aR (aw b) h s rfl rfl rfl fun f w1 b5 h s=>e9 ac 3 h rfl fun f h=>al (al ?_))
 cases r0:(bp l:Bool)
 ·refine rs ac 1 h rfl fun f h=>jQ false h s iW (c0 l vh _ (hR.keep s.ext) hln) (r0) rfl rfl fun f w1 h s=>e9 ac 1 h rfl fun f h=>cv h rfl (bG ac 3 h rfl fun f h=>rt (wk rfl h s rfl rfl rfl (Bj (E3 r0 0).1 (Hz r0 a b true) (Hz r0 a b false) (s.sel [] rfl (by decide)))))
 ·refine rs ac 1 h rfl fun f h=>bk h s iW (bj (.bool true) (c0 l vh _ (hR.keep s.ext) hln) (congrArg Value.bool r0)) rfl rfl ?_;intro f w1 v9 hT hE h s;obtain rfl:=hT
  refine e9 ac 1 h rfl fun f h=>jw h rfl (qr (ag h (dl [.pointer (some ⟨b4,0,none⟩),.pointer (some ⟨b5,0,none⟩)] (kZ h rfl)) rfl fun f h=>aJ (#[.nilFunc]) h s EN rfl rfl fun f w1 b9 h s=>bD 0 h s zy rfl rfl rfl (by simp) (rfl) fun w1 s=>nt (qr (ag h (dl [.pointer (some ⟨b9,0,none⟩)] (kZ h rfl)) rfl fun f h=>e9 ac 1 h rfl fun f h=>cd ac 1 h rfl fun f h=>dX 0 h s zy rfl rfl (rfl) rfl fun f h=>bk h s un (i4 l vh 64 [.pointer (some ⟨b4,0,none⟩),.pointer (some ⟨b5,0,none⟩)] ((fun y=>jz y.1 a b == true)) _ (hR.keep s.ext) hln DV (fun w9 h9 y _=>bj (.bool (jz y.1 a b == true)) (oE y a b b4 b5 w9 ((dB.of_own s 2 rfl).keep h9) ((dB.of_own s 1 rfl).keep h9)) (by simp))) rfl rfl ?_))));intro f w1 v18 hT hE h sq;replace s:=s.sl_new hE hT
  refine aq ac 2 h rfl fun f h=>bk h s un (i4 l vh 66 [.pointer (some ⟨b9,0,none⟩)] ((fun y=>jz y.1 a b == false)) _ (hR.keep s.ext) hln Hv (fun w9 h9 y _=>bj (.bool (jz y.1 a b == false)) (wS y a b b4 b5 b9 w9 ((dB.of_own s 3 rfl).keep h9) ((dB.of_own s 2 rfl).keep h9) ((dB.of_own s 1 rfl).keep h9)) (by cases jz y.1 a b<;>rfl))) rfl rfl ?_;intro f w1 v21 hT hE h sq;replace s:=s.sl_new hE hT
  refine e9 ac 3 h rfl fun f h=>wpIn_ret (wk rfl h s rfl rfl rfl (Cg (Ge r0 0).1 (HD r0 a b true) (HD r0 a b false) (s.sel [1,0] rfl (by decide))))
end Go.Proofs.YtobfeflheaobiaaGreatDoor
