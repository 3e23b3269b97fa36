/- Tables, by the reference. -/
import Derived.Test.YtobfeflheaobiaaGreatDoorVr
import Derived.Test.YtobfeflheaobiaaGreatDoorVe
set_option linter.unusedVariables false
set_option linter.unusedSimpArgs false
set_option linter.unusedSectionVars false
namespace Go.Proofs.YtobfeflheaobiaaGreatDoor
open Go.RowKit
theorem je (x:Tg) (w:World):Calls Tryz.prog 40 [.agg (au x)].toArray w (bT w (is (.bool (er x)))):=by
 refine br Tryz.func40 rfl Tryz.ntmps40 rfl fun f h s=>qr (aR (au x) h s rfl rfl rfl fun f w1 b1 h s=>e9 ac 1 h rfl fun f h=>al ?_)
 refine rs ac 1 h rfl fun f h=>aE (aO.subL (aO.of_own s 0 rfl) 32 34 (D:=bc (_)) (gI _)) h cy rfl (aK _) rfl fun f h=>fJ h s GU (Cw x.2.1 _) rfl rfl (fun h0 f w1 h s=>?_) (fun h0 f w1 h s=>?_)
 ·refine e9 ac 11 h rfl fun f h=>wpIn_ret (aI rfl h s rfl (by show _=_;unfold er;rw [h0]<;>rfl))
 ·skip
  refine aq ac 2 h rfl fun f h=>ca h rfl (ap (ae (aO.of_own s 0 rfl) 66 (cR _)) h bJ rfl rfl fun f h=>ca h rfl (da ac h rfl (fun h1 f h=>?_) (fun h1 f h=>?_)))
  ·refine e9 ac 7 h rfl fun f h=>wpIn_ret (aI rfl h s rfl (by show _=_;unfold er;rw [h0,h1]<;>rfl))
  ·refine aq ac 3 h rfl fun f h=>ca h rfl (ap (ae (aO.of_own s 0 rfl) 66 (cR _)) h bJ rfl rfl fun f h=>e9 ac 3 h rfl fun f h=>wpIn_ret (aI rfl h s rfl (by show _=_;unfold er;rw [h0,h1]<;>rfl)))
theorem jH (x y:Tg) (w:World):Calls Tryz.prog 41 [.agg (au x),.agg (au y)].toArray w (bT w (is (.bool (eu x y)))):=by
 refine br Tryz.func41 rfl Tryz.ntmps41 rfl fun f h s=>qr (aR (au x) h s rfl rfl rfl fun f w1 b2 h s=>aR (au y) h s rfl rfl rfl fun f w1 b3 h s=>e9 ac 1 h rfl fun f h=>cd ac 1 h rfl fun f h=>aE (aO.subL (aO.of_own s 1 rfl) 0 32 (D:=aw (_)) (dh _)) h aP rfl (by first|exact am _|exact ah _ _) rfl fun f h=>aq ac 1 h rfl fun f h=>aE (aO.subL (aO.of_own s 0 rfl) 0 32 (D:=aw (_)) (dh _)) h aP rfl (by first|exact am _|exact ah _ _) rfl fun f h=>cn h s mX (dI x.1 y.1 _) rfl rfl fun f w1 h s=>e9 ac 1 h rfl fun f h=>al (bG ac 2 h rfl fun f h=>cq h rfl (fun hc=>?_) (fun hc=>?_)))
 ·have h0:=of_decide_eq_true hc
  refine bG ac 3 h rfl fun f h=>rt (aI rfl h s rfl (congrArg Value.bool (JA h0)))
 ·have h0:=of_decide_eq_false hc
  refine kt (al (cd ac 2 h rfl fun f h=>ap (ae (aO.of_own s 1 rfl) 32 (fe _)) h bJ rfl rfl fun f h=>aq ac 2 h rfl fun f h=>ap (ae (aO.of_own s 0 rfl) 32 (fe _)) h bJ rfl rfl fun f h=>e9 ac 1 h rfl fun f h=>cq h rfl (fun hc=>?_) (fun hc=>?_)))
  ·have h1:=of_decide_eq_true hc
   refine cd ac 2 h rfl fun f h=>ap (ae (aO.of_own s 1 rfl) 32 (fe _)) h bJ rfl rfl fun f h=>aq ac 2 h rfl fun f h=>ap (ae (aO.of_own s 0 rfl) 32 (fe _)) h bJ rfl rfl fun f h=>e9 ac 2 h rfl fun f h=>rt (aI rfl h s rfl (congrArg Value.bool (JW h0 h1)))
  ·have h1:=of_decide_eq_false hc
   refine kt (cd ac 2 h rfl fun f h=>aE (aO.subL (aO.of_own s 1 rfl) 33 32 (D:=aw (_)) (i6 _)) h aP rfl (by first|exact am _|exact ah _ _) rfl fun f h=>aq ac 2 h rfl fun f h=>aE (aO.subL (aO.of_own s 0 rfl) 33 32 (D:=aw (_)) (i6 _)) h aP rfl (by first|exact am _|exact ah _ _) rfl fun f h=>cn h s mX (dI x.2.1.2.1 y.2.1.2.1 _) rfl rfl fun f w1 h s=>e9 ac 1 h rfl fun f h=>al (bG ac 2 h rfl fun f h=>cq h rfl (fun hc=>?_) (fun hc=>?_)))
   ·have h2:=of_decide_eq_true hc
    refine bG ac 3 h rfl fun f h=>rt (aI rfl h s rfl (congrArg Value.bool (Jh h0 h1 h2)))
   ·have h2:=of_decide_eq_false hc
    refine kt (cd ac 2 h rfl fun f h=>ap (ae (aO.of_own s 1 rfl) 65 (gO _)) h bJ rfl rfl fun f h=>aq ac 2 h rfl fun f h=>ap (ae (aO.of_own s 0 rfl) 65 (gO _)) h bJ rfl rfl fun f h=>e9 ac 2 h rfl fun f h=>wpIn_ret (aI rfl h s rfl (congrArg Value.bool (Ji h0 h1 h2))))
theorem nh (x:Tg) (i:Id) (e:cw) (w:World):Calls Tryz.prog 88 [.agg (au x),en i,.agg (bc e)].toArray w (bT w (is (.bool (gn i e x)))):=by
 refine br Tryz.func88 rfl Tryz.ntmps88 rfl fun f h s=>qr (aR (au x) h s rfl rfl rfl fun f w1 b3 h s=>aR (aw i) h s rfl rfl rfl fun f w1 b4 h s=>aR (bc e) h s rfl rfl rfl fun f w1 b5 h s=>e9 ac 1 h rfl fun f h=>al ?_)
 cases h0:(decide (x.1=i):Bool)
 ·refine rs ac 1 h rfl fun f h=>aE (aO.subL (aO.of_own s 2 rfl) 0 32 (D:=aw (_)) (dh _)) h aP rfl (by first|exact am _|exact ah _ _) rfl fun f h=>aj 1 h s aP rfl rfl (by first|exact am _|exact ah _ _) rfl fun f h=>ag h (bm (.bool false) (cG ep (h.ev rfl) (h.ev rfl)) (congrArg Value.bool h0)) rfl fun f h=>e9 ac 7 h rfl fun f h=>wpIn_ret (aI rfl h s rfl (by show _=_;unfold gn;rw [h0]<;>rfl))
 ·refine rs ac 1 h rfl fun f h=>aE (aO.subL (aO.of_own s 2 rfl) 0 32 (D:=aw (_)) (dh _)) h aP rfl (by first|exact am _|exact ah _ _) rfl fun f h=>aj 1 h s aP rfl rfl (by first|exact am _|exact ah _ _) rfl fun f h=>ag h (bm (.bool true) (cG ep (h.ev rfl) (h.ev rfl)) (congrArg Value.bool h0)) rfl fun f h=>aq ac 2 h rfl fun f h=>ca h rfl (aE (aO.subL (aO.of_own s 2 rfl) 32 34 (D:=bc (_)) (gI _)) h cy rfl (aK _) rfl fun f h=>ca h rfl (aj 0 h s cy rfl rfl (aK _) rfl fun f h=>ca h rfl (ag h (fj (D0 _ _) (by kernel_rfl) (by decide) (h.ev rfl) (h.ev rfl) (decide (x.2.1=e)) (FE _ _)) rfl fun f h=>e9 ac 2 h rfl fun f h=>wpIn_ret (aI rfl h s rfl (by show _=_;unfold gn;rw [h0]<;>rfl)))))
theorem mc (l:List Tg) (vh:Value) (w:World) (hR:bK w vh 67 l.length (aA l)) (hln:l.length≤1000):Calls Tryz.prog 20 [vh].toArray w (bT w (is (.bool (bp l)))):=by
 refine br Tryz.func20 rfl Tryz.ntmps20 rfl fun f h s=>bG ac 1 h rfl fun f h=>al (cd ac 1 h rfl fun f h=>eh h (hR.keep s.ext) Tryz.underlying22 rfl rfl fun f h=>e9 ac 1 h rfl fun f h=>wpIn_block (wpIn_loop_ghost (fun nn aa ww=>∃ k:Nat,Sl 33 aa [(0,vh),(5,vh),(6,.int .i64 (l.length:Int)),(7,.int .i64 (k:Int))]∧St w [] ww∧nn=l.length - k∧k≤l.length∧∀ j,j<k→tR l j=true) (l.length - (0)) ⟨0,h.only ⟨rfl,rfl,rfl,ar rfl (by omega),trivial⟩,s.as trivial,rfl,Nat.zero_le _,fun j hj=>absurd hj (Nat.not_lt_zero _)⟩ ?_))
 rintro _ f w1 ⟨k,h,s,hnn,hp0,hp1⟩
 refine bG ac 1 h rfl fun f h=>al (cL h rfl (fun hc=>?_) (fun hc=>?_))
 ·refine kt (al (wpIn_block (qr ?_)))
  have hkl:k<l.length:=by omega
  refine aq ac 1 h rfl fun f h=>ag h (bW (hR.keep s.ext) (k) Tryz.underlying22 cZ (h.ev rfl) (h.ev rfl) (by omega) (by omega)) rfl fun f h=>aE ((hR.keep s.ext).el (k) (by omega) (by decide) (D:=au (l.getD k aN)) (dd l k hkl)) h aT rfl (ai _) rfl fun f h=>aJ (au aN) h s dM rfl rfl fun f w1 b4 h s=>aq ac 1 h rfl fun f h=>ao 0 h s aT rfl rfl rfl (ai _) (ai _) (aY _) fun w1 s=>nt (al ?_)
  cases h0:(er (l.getD k aN):Bool)
  ·refine d8 17 h (by kernel_rfl) (aV 0 h s aT rfl rfl (ai _) rfl fun f h=>aX h wB (fun w9 hE9=>bj (.bool false) (je (l.getD k aN) w9) (congrArg Value.bool h0)) rfl rfl fun f h=>ay ac 15 h rfl fun f h=>cc s fun w1 s=>A4 h rfl (bG ac 1 h rfl fun f h=>wpIn_ret (cp (bL (bL (cp (bL (aI rfl h s rfl (by show _=_;rw [gV hkl (H0 h0)])))))))))
  ·skip
   cases h1:(decide (k=0):Bool)
   ·skip
    cases h2:(eu (l.getD (k - 1) aN) (l.getD k aN):Bool)
    ·refine d8 17 h (by kernel_rfl) (aV 0 h s aT rfl rfl (ai _) rfl fun f h=>aX h wB (fun w9 hE9=>bj (.bool true) (je (l.getD k aN) w9) (congrArg Value.bool h0)) rfl rfl fun f h=>ay ac 3 h rfl fun f h=>bn h rfl (ob ac h rfl (decide_eq_true (by have:=of_decide_eq_false h1;omega)) fun f h=>ay ac 3 h rfl fun f h=>bn h rfl (ax h (dt (h.ev rfl) (h.ev rfl) (by omega)) rfl fun f h=>bn h rfl (ax h (bW (hR.keep s.ext) ((k - 1)) Tryz.underlying22 cZ (h.ev rfl) (h.ev rfl) (by have:=of_decide_eq_false h1;omega) (by omega)) rfl fun f h=>bn h rfl (bq ((hR.keep s.ext).el ((k - 1)) (by omega) (by decide) (D:=au (l.getD (k - 1) aN)) (dd l (k - 1) (by omega))) h aT rfl (ai _) rfl fun f h=>bn h rfl (aV 0 h s aT rfl rfl (ai _) rfl fun f h=>bn h rfl (aX h x9 (fun w9 hE9=>bj (.bool false) (jH (l.getD (k - 1) aN) (l.getD k aN) w9) (congrArg Value.bool h2)) rfl rfl fun f h=>ay ac 3 h rfl fun f h=>cc s fun w1 s=>A4 h rfl (bG ac 1 h rfl fun f h=>wpIn_ret (cp (bL (bL (cp (bL (aI rfl h s rfl (by show _=_;rw [gV hkl ((C9 h0 (of_decide_eq_false h1)).trans h2)])))))))))))))))
    ·refine d8 17 h (by kernel_rfl) (aV 0 h s aT rfl rfl (ai _) rfl fun f h=>aX h wB (fun w9 hE9=>bj (.bool true) (je (l.getD k aN) w9) (congrArg Value.bool h0)) rfl rfl fun f h=>ay ac 3 h rfl fun f h=>bn h rfl (ob ac h rfl (decide_eq_true (by have:=of_decide_eq_false h1;omega)) fun f h=>ay ac 3 h rfl fun f h=>bn h rfl (ax h (dt (h.ev rfl) (h.ev rfl) (by omega)) rfl fun f h=>bn h rfl (ax h (bW (hR.keep s.ext) ((k - 1)) Tryz.underlying22 cZ (h.ev rfl) (h.ev rfl) (by have:=of_decide_eq_false h1;omega) (by omega)) rfl fun f h=>bn h rfl (bq ((hR.keep s.ext).el ((k - 1)) (by omega) (by decide) (D:=au (l.getD (k - 1) aN)) (dd l (k - 1) (by omega))) h aT rfl (ai _) rfl fun f h=>bn h rfl (aV 0 h s aT rfl rfl (ai _) rfl fun f h=>bn h rfl (aX h x9 (fun w9 hE9=>bj (.bool true) (jH (l.getD (k - 1) aN) (l.getD k aN) w9) (congrArg Value.bool h2)) rfl rfl fun f h=>ay ac 3 h rfl fun f h=>cc s fun w1 s=>BN h rfl (wpIn_skip (bg (aH (az (ag h (bh (h.ev rfl) (h.ev rfl) (by omega)) rfl fun f h=>e9 ac 1 h rfl fun f h=>?_))))))))))))
     exact ⟨_,by omega,⟨k+1,h.only ⟨rfl,rfl,rfl,ar rfl (by omega),trivial⟩,St.as (s.pick _ (List.sublist_append_right [_] _)) trivial,rfl,by omega,kh hp1 ((C9 h0 (of_decide_eq_false h1)).trans h2)⟩⟩
   ·refine d8 17 h (by kernel_rfl) (aV 0 h s aT rfl rfl (ai _) rfl fun f h=>aX h wB (fun w9 hE9=>bj (.bool true) (je (l.getD k aN) w9) (congrArg Value.bool h0)) rfl rfl fun f h=>ay ac 3 h rfl fun f h=>bn h rfl (z4 ac h rfl (decide_eq_false (by have:=of_decide_eq_true h1;omega)) fun f h=>ay ac 11 h rfl fun f h=>cc s fun w1 s=>BN h rfl (wpIn_skip (bg (aH (az (ag h (bh (h.ev rfl) (h.ev rfl) (by omega)) rfl fun f h=>e9 ac 1 h rfl fun f h=>?_)))))))
    exact ⟨_,by omega,⟨k+1,h.only ⟨rfl,rfl,rfl,ar rfl (by omega),trivial⟩,St.as (s.pick _ (List.sublist_append_right [_] _)) trivial,rfl,by omega,kh hp1 (HF h0 (of_decide_eq_true h1))⟩⟩
 ·refine wpIn_exit (aZ (aZ (bQ (aH (cd ac 1 h rfl fun f h=>eh h (hR.keep s.ext) Tryz.underlying22 rfl rfl fun f h=>e9 ac 2 h rfl fun f h=>wpIn_ret (aI rfl h s rfl (by obtain rfl:k=l.length:=(by omega);show _=_;rw [lH hp1];exact congrArg Value.bool (decide_eq_decide.2 (by omega)))))))))
theorem nu (l r:List Tg) (vh vu:Value) (w:World) (hR:bK w vh 67 l.length (aA l)) (hS:bK w vu 67 r.length (aA r)) (hln:l.length≤1000) (hln2:r.length≤1000):Calls Tryz.prog 19 [vh,vu].toArray w (bT w (is (.bool (decide (l=r))))):=by
 refine br Tryz.func19 rfl Tryz.ntmps19 rfl fun f h s=>bG ac 1 h rfl fun f h=>al (cd ac 1 h rfl fun f h=>eh h (hR.keep s.ext) Tryz.underlying22 rfl rfl fun f h=>aq ac 1 h rfl fun f h=>eh h (hS.keep s.ext) Tryz.underlying22 rfl rfl fun f h=>e9 ac 1 h rfl fun f h=>cq h rfl (fun hc=>?_) (fun hc=>?_))
 ·replace hc:=hc
  refine bG ac 1 h rfl fun f h=>rt (aI rfl h s rfl ((by show _=_;rw [decide_eq_false (fun e=>by subst e;simp at hc)])))
 ·have hl9:l.length=r.length:=by have:=hc;simp at this;omega
  refine kt (al (cd ac 1 h rfl fun f h=>eh h (hR.keep s.ext) Tryz.underlying22 rfl rfl fun f h=>e9 ac 1 h rfl fun f h=>wpIn_block (wpIn_loop_ghost (fun nn aa ww=>∃ k:Nat,Sl 26 aa [(0,vh),(1,vu),(12,.int .i64 (l.length:Int)),(13,.int .i64 (k:Int))]∧St w [] ww∧nn=l.length - k∧k≤l.length∧∀ j,j<k→l.getD j aN=r.getD j aN) (l.length - (0)) ⟨0,h.only ⟨rfl,rfl,rfl,ar rfl (by omega),trivial⟩,s.as trivial,rfl,Nat.zero_le _,fun j hj=>absurd hj (Nat.not_lt_zero _)⟩ ?_)))
  rintro _ f w1 ⟨k,h,s,hnn,hp0,hp1⟩
  refine bG ac 1 h rfl fun f h=>al (cL h rfl (fun hc=>?_) (fun hc=>?_))
  ·refine kt (al (wpIn_block (qr ?_)))
   have hkl:k<l.length:=by omega
   have hkb:k<r.length:=by omega
   refine e9 ac 2 h rfl fun f h=>al (d8 9 h (by kernel_rfl) (ay ac 2 h rfl fun f h=>ax h (bW (hR.keep s.ext) (k) Tryz.underlying22 cZ (h.ev rfl) (h.ev rfl) (by omega) (by omega)) rfl fun f h=>bq ((hR.keep s.ext).el (k) (by omega) (by decide) (D:=au (l.getD k aN)) (dd l k hkl)) h aT rfl (ai _) rfl fun f h=>ay ac 2 h rfl fun f h=>ax h (bW (hS.keep s.ext) (k) Tryz.underlying22 cZ (h.ev rfl) (h.ev rfl) (by omega) (by omega)) rfl fun f h=>bq ((hS.keep s.ext).el (k) (by omega) (by decide) (D:=au (r.getD k aN)) (dd r k hkb)) h aT rfl (ai _) rfl fun f h=>ax h (Ca (KK _ _) (by kernel_rfl) (by decide) (h.ev rfl) (h.ev rfl) (decide ((l.getD k aN)=r.getD k aN)) (JL _ _)) rfl fun f h=>cc s fun w1 s=>nt (cq h rfl (fun hc=>?_) (fun hc=>?_))))
   ·refine bG ac 1 h rfl fun f h=>wpIn_ret (cp (bL (bL (cp (bL (aI rfl h s rfl ((by show _=_;rw [decide_eq_false (fun e=>by subst e;simp at hc)]))))))))
   ·refine wpIn_skip (bg (aH (az (ag h (bh (h.ev rfl) (h.ev rfl) (by omega)) rfl fun f h=>e9 ac 1 h rfl fun f h=>?_))))
    exact ⟨_,by omega,⟨k+1,h.only ⟨rfl,rfl,rfl,ar rfl (by omega),trivial⟩,St.as s trivial,rfl,by omega,Ag hp1 (by simpa using hc)⟩⟩
  ·refine wpIn_exit (aZ (aZ (bQ (aH (bG ac 1 h rfl fun f h=>wpIn_ret (aI rfl h s rfl ((by show _=_;rw [decide_eq_true (De hl9 (fun j hj=>hp1 j (by omega)))]))))))))
theorem tQ (l:List Tg) (vh:Value) (i:Id) (e:cw) (w:World) (hR:bK w vh 67 l.length (aA l)) (hln:l.length≤1000):Calls Tryz.prog 59 [vh,en i,.agg (bc e)].toArray w (bT w (is (.agg (au (dH l i e))))):=by
 refine br Tryz.func59 rfl Tryz.ntmps59 rfl fun f h s=>qr (aR (aw i) h s rfl rfl rfl fun f w1 b4 h s=>aR (bc e) h s rfl rfl rfl fun f w1 b5 h s=>aJ (au aN) h s dM rfl rfl fun f w1 b6 h s=>nt (al (cd ac 1 h rfl fun f h=>eh h (hR.keep s.ext) Tryz.underlying22 rfl rfl fun f h=>e9 ac 1 h rfl fun f h=>wpIn_block (wpIn_loop_ghost (fun nn aa ww=>∃ k:Nat,Sl 22 aa [(0,vh),(1,en i),(2,.agg (bc e)),(4,.pointer (some ⟨b4,0,none⟩)),(5,.pointer (some ⟨b5,0,none⟩)),(6,.pointer (some ⟨b6,0,none⟩)),(9,vh),(10,.int .i64 (l.length:Int)),(11,.int .i64 (k:Int))]∧St w [.blk b6 (.cells (au aN) 67),.blk b5 (.cells (bc e) 28),.blk b4 (.cells (aw i) 26)] ww∧nn=l.length - k∧k≤l.length∧∀ j,j<k→gn i e (l.getD j aN)=false) (l.length - (0)) ⟨0,h.only ⟨rfl,rfl,rfl,rfl,rfl,rfl,rfl,rfl,ar rfl (by omega),trivial⟩,s.as ⟨rfl,rfl,rfl,trivial⟩,rfl,Nat.zero_le _,fun j hj=>absurd hj (Nat.not_lt_zero _)⟩ ?_))))
 rintro _ f w1 ⟨k,h,s,hnn,hp0,hp1⟩
 refine bG ac 1 h rfl fun f h=>al (cL h rfl (fun hc=>?_) (fun hc=>?_))
 ·refine kt (al (wpIn_block (qr ?_)))
  have hkl:k<l.length:=by omega
  refine ag h (bW (hR.keep s.ext) (k) Tryz.underlying22 cZ (h.ev rfl) (h.ev rfl) (by omega) (by omega)) rfl fun f h=>aE ((hR.keep s.ext).el (k) (by omega) (by decide) (D:=au (l.getD k aN)) (dd l k hkl)) h aT rfl (ai _) rfl fun f h=>aJ (au aN) h s dM rfl rfl fun f w1 b8 h s=>ao 0 h s aT rfl rfl rfl (ai _) (ai _) (aY _) fun w1 s=>nt (qr (aj 0 h s aT rfl rfl (ai _) rfl fun f h=>aj 3 h s aP rfl rfl (by first|exact am _|exact ah _ _) rfl fun f h=>aj 2 h s cy rfl rfl (aK _) rfl fun f h=>cn h s zW (nh (l.getD k aN) i e _) rfl rfl fun f w1 h s=>nt (cq h rfl (fun hc=>?_) (fun hc=>?_))))
  ·refine qr (aj 0 h s aT rfl rfl (ai _) rfl fun f h=>ao 1 h s aT rfl rfl rfl (ai _) (ai _) (aY _) fun w1 s=>nt (wpIn_ret (cp (bL (bL (cp (bL (fI 1 rfl h s aT rfl rfl (ai _) (by show _=_;unfold dH;rw [wi hkl hp1 hc];rfl)))))))))
  ·refine wpIn_skip (bg (aH (az (ag h (bh (h.ev rfl) (h.ev rfl) (by omega)) rfl fun f h=>e9 ac 1 h rfl fun f h=>?_))))
   exact ⟨_,by omega,⟨k+1,h.only ⟨rfl,rfl,rfl,rfl,rfl,rfl,rfl,rfl,ar rfl (by omega),trivial⟩,St.as (s.pick _ (List.sublist_append_right [_] _)) ⟨rfl,rfl,rfl,trivial⟩,rfl,by omega,u1 hp1 hc⟩⟩
 ·refine wpIn_exit (aZ (aZ (bQ (aH (qr (ag h (qf mw rfl) rfl fun f h=>ao 0 h s aT rfl rfl rfl (ai _) (ai _) (aY _) fun w1 s=>nt (wpIn_ret (fI 0 rfl h s aT rfl rfl (ai _) (by show _=_;unfold dH;rw [Ch (fun j hj=>hp1 j (by omega))];rfl)))))))))
theorem wJ (l:List Tg) (vh:Value) (i:Id) (e:cw) (w:World) (hR:bK w vh 67 l.length (aA l)) (hln:l.length≤1000):Calls Tryz.prog 60 [vh,en i,.agg (bc e)].toArray w (bT w (fun v w'=>cb w' w.heap.size 67 67 v (l.filter (fun y => !gn i e y)).length (aA (l.filter (fun y => !gn i e y))))):=by
 refine br Tryz.func60 rfl Tryz.ntmps60 rfl fun f h s=>qr (aR (aw i) h s rfl rfl rfl fun f w1 b4 h s=>aR (bc e) h s rfl rfl rfl fun f w1 b5 h s=>e9 ac 1 h rfl fun f h=>qr (bF (vs:=[]) [] h s Tryz.underlying22 dU rfl rfl (by simp) rfl rfl rfl fun f w1 v10 h s=>?_))
 replace s:=s.resl (m:=((l.take 0).filter (fun y => !gn i e y)).length) (ys:=aA ((l.take 0).filter (fun y => !gn i e y))) 0 rfl (rfl) (rfl)
 refine e9 ac 1 h rfl fun f h=>al (cd ac 1 h rfl fun f h=>eh h (hR.keep s.ext) Tryz.underlying22 rfl rfl fun f h=>e9 ac 1 h rfl fun f h=>wpIn_block (wpIn_loop_ghost (fun nn aa ww=>∃ k:Nat,∃ vb:Value,Sl 28 aa [(0,vh),(1,en i),(2,.agg (bc e)),(4,.pointer (some ⟨b4,0,none⟩)),(5,.pointer (some ⟨b5,0,none⟩)),(11,vh),(12,.int .i64 (l.length:Int)),(13,.int .i64 (k:Int)),(7,vb)]∧St w [.sl vb 67 67 ((l.take k).filter (fun y => !gn i e y)).length (aA ((l.take k).filter (fun y => !gn i e y))),.blk b5 (.cells (bc e) 28),.blk b4 (.cells (aw i) 26)] ww∧nn=l.length - k∧k≤l.length) (l.length - (0)) ⟨0,v10,h.only ⟨rfl,rfl,rfl,rfl,rfl,rfl,rfl,ar rfl (by omega),rfl,trivial⟩,s.as ⟨rfl,rfl,rfl,trivial⟩,rfl,Nat.zero_le _⟩ ?_))
 rintro _ f w1 ⟨k,vb,h,s,hnn,hp0⟩
 refine bG ac 1 h rfl fun f h=>al (cL h rfl (fun hc=>?_) (fun hc=>?_))
 ·refine kt (al (wpIn_block (qr ?_)))
  have hkl:k<l.length:=by omega
  refine ag h (bW (hR.keep s.ext) (k) Tryz.underlying22 cZ (h.ev rfl) (h.ev rfl) (by omega) (by omega)) rfl fun f h=>aE ((hR.keep s.ext).el (k) (by omega) (by decide) (D:=au (l.getD k aN)) (dd l k hkl)) h aT rfl (ai _) rfl fun f h=>aJ (au aN) h s dM rfl rfl fun f w1 b9 h s=>ao 0 h s aT rfl rfl rfl (ai _) (ai _) (aY _) fun w1 s=>nt (al ?_)
  cases hq:(!gn i e (l.getD k aN):Bool)
  ·refine az (aj 0 h s aT rfl rfl (ai _) rfl fun f h=>aj 3 h s aP rfl rfl (by first|exact am _|exact ah _ _) rfl fun f h=>aj 2 h s cy rfl rfl (aK _) rfl fun f h=>jQ true h s zW (nh (l.getD k aN) i e _) (by simpa using hq) rfl rfl fun f w1 h s=>e9 ac 1 h rfl fun f h=>hI h rfl (wpIn_skip (bg (aH (az (ag h (bh (h.ev rfl) (h.ev rfl) (by omega)) rfl fun f h=>e9 ac 1 h rfl fun f h=>?_))))))
   exact ⟨_,by omega,⟨k+1,vb,h.only ⟨rfl,rfl,rfl,rfl,rfl,rfl,rfl,ar rfl (by omega),rfl,trivial⟩,St.as (s.pick _ (List.sublist_append_right [_] _)) ⟨lY (by rw [ot hkl hq]) (by rw [ot hkl hq]),rfl,rfl,trivial⟩,rfl,by omega⟩⟩
  ·refine az (aj 0 h s aT rfl rfl (ai _) rfl fun f h=>aj 3 h s aP rfl rfl (by first|exact am _|exact ah _ _) rfl fun f h=>aj 2 h s cy rfl rfl (aK _) rfl fun f h=>jQ false h s zW (nh (l.getD k aN) i e _) (by simpa using hq) rfl rfl fun f w1 h s=>e9 ac 1 h rfl fun f h=>cv h rfl (rs ac 1 h rfl fun f h=>aj 0 h s aT rfl rfl (ai _) rfl fun f h=>bF (vs:=[.agg (au (l.getD k aN))]) [.tmp 23] h s Tryz.underlying22 dU rfl rfl (kz _) rfl rfl rfl fun f w1 v24 h s=>dA 2 0 h s Tryz.underlying22 dU rfl rfl rfl rfl (by decide) (by rw [dY];exact aY _) (by have h9:=kY l (fun y => !gn i e y) k;unfold maxLen;omega) (by have h9:=kY l (fun y => !gn i e y) k;omega) rfl fun f w1 v25 h s=>?_))
   replace s:=s.pick _ (List.sublist_cons_self _ _)
   replace s:=s.resl (m:=((l.take (k+1)).filter (fun y => !gn i e y)).length) (ys:=aA ((l.take (k+1)).filter (fun y => !gn i e y))) 1 rfl (by rw [om hkl hq,List.length_append];rfl) (by rw [om hkl hq,dY,gm])
   refine aq ac 1 h rfl fun f h=>aB (bg (aH (az (ag h (bh (h.ev rfl) (h.ev rfl) (by omega)) rfl fun f h=>e9 ac 1 h rfl fun f h=>?_))))
   exact ⟨_,by omega,⟨k+1,v25,h.only ⟨rfl,rfl,rfl,rfl,rfl,rfl,rfl,ar rfl (by omega),rfl,trivial⟩,St.as (s.pick _ (List.sublist_append_right [_] _)) ⟨rfl,rfl,rfl,trivial⟩,rfl,by omega⟩⟩
 ·refine wpIn_exit (aZ (aZ (bQ (aH (bG ac 2 h rfl fun f h=>wpIn_ret (aI rfl h s rfl ((by have h9:=s.getSl 0 rfl;rw [pR (by omega)] at h9;exact h9))))))))
theorem rx (l:List Tg) (vh:Value) (a b:Id) (on:Bool) (w:World) (hR:bK w vh 67 l.length (aA l)) (hln:l.length≤1000):Calls Tryz.prog 18 [vh,en a,en b,.bool on].toArray w (bT w (fun v w'=>cb w' w.heap.size 67 67 v (l.filter (fun y=>jz y.1 a b == on)).length (aA (l.filter (fun y=>jz y.1 a b == on))))):=by
 refine br Tryz.func18 rfl Tryz.ntmps18 rfl fun f h s=>qr (aR (aw a) h s rfl rfl rfl fun f w1 b5 h s=>aR (aw b) h s rfl rfl rfl fun f w1 b6 h s=>e9 ac 1 h rfl fun f h=>qr (bF (vs:=[]) [] h s Tryz.underlying22 dU rfl rfl (by simp) rfl rfl rfl fun f w1 v12 h s=>?_))
 replace s:=s.resl (m:=((l.take 0).filter (fun y=>jz y.1 a b == on)).length) (ys:=aA ((l.take 0).filter (fun y=>jz y.1 a b == on))) 0 rfl (rfl) (rfl)
 refine e9 ac 1 h rfl fun f h=>al (cd ac 1 h rfl fun f h=>eh h (hR.keep s.ext) Tryz.underlying22 rfl rfl fun f h=>e9 ac 1 h rfl fun f h=>wpIn_block (wpIn_loop_ghost (fun nn aa ww=>∃ k:Nat,∃ vb:Value,Sl 32 aa [(0,vh),(1,en a),(2,en b),(5,.pointer (some ⟨b5,0,none⟩)),(6,.pointer (some ⟨b6,0,none⟩)),(13,vh),(14,.int .i64 (l.length:Int)),(15,.int .i64 (k:Int)),(9,vb),(3,.bool on)]∧St w [.sl vb 67 67 ((l.take k).filter (fun y=>jz y.1 a b == on)).length (aA ((l.take k).filter (fun y=>jz y.1 a b == on))),.blk b6 (.cells (aw b) 26),.blk b5 (.cells (aw a) 26)] ww∧nn=l.length - k∧k≤l.length) (l.length - (0)) ⟨0,v12,h.only ⟨rfl,rfl,rfl,rfl,rfl,rfl,rfl,ar rfl (by omega),rfl,rfl,trivial⟩,s.as ⟨rfl,rfl,rfl,trivial⟩,rfl,Nat.zero_le _⟩ ?_))
 rintro _ f w1 ⟨k,vb,h,s,hnn,hp0⟩
 refine bG ac 1 h rfl fun f h=>al (cL h rfl (fun hc=>?_) (fun hc=>?_))
 ·refine kt (al (wpIn_block (qr ?_)))
  have hkl:k<l.length:=by omega
  refine ag h (bW (hR.keep s.ext) (k) Tryz.underlying22 cZ (h.ev rfl) (h.ev rfl) (by omega) (by omega)) rfl fun f h=>aE ((hR.keep s.ext).el (k) (by omega) (by decide) (D:=au (l.getD k aN)) (dd l k hkl)) h aT rfl (ai _) rfl fun f h=>aJ (au aN) h s dM rfl rfl fun f w1 b11 h s=>ao 0 h s aT rfl rfl rfl (ai _) (ai _) (aY _) fun w1 s=>nt (al ?_)
  cases hq:(jz (l.getD k aN).1 a b == on:Bool)
  ·refine rs ac 1 h rfl fun f h=>aE (aO.subL (aO.of_own s 0 rfl) 0 32 (D:=aw (_)) (dh _)) h aP rfl (by first|exact am _|exact ah _ _) rfl fun f h=>aj 3 h s aP rfl rfl (by first|exact am _|exact ah _ _) rfl fun f h=>aj 2 h s aP rfl rfl (by first|exact am _|exact ah _ _) rfl fun f h=>cn h s DZ (vd (l.getD k aN).1 a b _) rfl rfl fun f w1 h s=>aq ac 1 h rfl fun f h=>ag h (bm (.bool false) (lV Tryz.underlying4 (h.ev rfl) (h.ev rfl)) (congrArg Value.bool hq)) rfl fun f h=>BN h rfl (wpIn_skip (bg (aH (az (ag h (bh (h.ev rfl) (h.ev rfl) (by omega)) rfl fun f h=>e9 ac 1 h rfl fun f h=>?_)))))
   exact ⟨_,by omega,⟨k+1,vb,h.only ⟨rfl,rfl,rfl,rfl,rfl,rfl,rfl,ar rfl (by omega),rfl,rfl,trivial⟩,St.as (s.pick _ (List.sublist_append_right [_] _)) ⟨lY (by rw [ot hkl hq]) (by rw [ot hkl hq]),rfl,rfl,trivial⟩,rfl,by omega⟩⟩
  ·refine rs ac 1 h rfl fun f h=>aE (aO.subL (aO.of_own s 0 rfl) 0 32 (D:=aw (_)) (dh _)) h aP rfl (by first|exact am _|exact ah _ _) rfl fun f h=>aj 3 h s aP rfl rfl (by first|exact am _|exact ah _ _) rfl fun f h=>aj 2 h s aP rfl rfl (by first|exact am _|exact ah _ _) rfl fun f h=>cn h s DZ (vd (l.getD k aN).1 a b _) rfl rfl fun f w1 h s=>aq ac 1 h rfl fun f h=>ag h (bm (.bool true) (lV Tryz.underlying4 (h.ev rfl) (h.ev rfl)) (congrArg Value.bool hq)) rfl fun f h=>A4 h rfl (rs ac 1 h rfl fun f h=>aj 0 h s aT rfl rfl (ai _) rfl fun f h=>bF (vs:=[.agg (au (l.getD k aN))]) [.tmp 27] h s Tryz.underlying22 dU rfl rfl (kz _) rfl rfl rfl fun f w1 v28 h s=>dA 2 0 h s Tryz.underlying22 dU rfl rfl rfl rfl (by decide) (by rw [dY];exact aY _) (by have h9:=kY l (fun y=>jz y.1 a b == on) k;unfold maxLen;omega) (by have h9:=kY l (fun y=>jz y.1 a b == on) k;omega) rfl fun f w1 v29 h s=>?_)
   replace s:=s.pick _ (List.sublist_cons_self _ _)
   replace s:=s.resl (m:=((l.take (k+1)).filter (fun y=>jz y.1 a b == on)).length) (ys:=aA ((l.take (k+1)).filter (fun y=>jz y.1 a b == on))) 1 rfl (by rw [om hkl hq,List.length_append];rfl) (by rw [om hkl hq,dY,gm])
   refine aq ac 1 h rfl fun f h=>aB (bg (aH (az (ag h (bh (h.ev rfl) (h.ev rfl) (by omega)) rfl fun f h=>e9 ac 1 h rfl fun f h=>?_))))
   exact ⟨_,by omega,⟨k+1,v29,h.only ⟨rfl,rfl,rfl,rfl,rfl,rfl,rfl,ar rfl (by omega),rfl,rfl,trivial⟩,St.as (s.pick _ (List.sublist_append_right [_] _)) ⟨rfl,rfl,rfl,trivial⟩,rfl,by omega⟩⟩
 ·refine wpIn_exit (aZ (aZ (bQ (aH (bG ac 2 h rfl fun f h=>wpIn_ret (aI rfl h s rfl ((by have h9:=s.getSl 0 rfl;rw [pR (by omega)] at h9;exact h9))))))))
set_option maxHeartbeats 1000000 in
theorem wZ (l:List Tg) (vh:Value) (x:Tg) (w:World) (hR:bK w vh 67 l.length (aA l)) (hln:l.length≤1000):Calls Tryz.prog 42 [vh,.agg (au x)].toArray w (bT w (fun v w'=>∃ p,v=.tuple #[p,.bool (decide ((cP l x).length≤32))]∧cb w' w.heap.size 67 67 p (cP l x).length (aA (cP l x)))):=by
 obtain ⟨W,hW⟩:∃ W,W=iX l x.1 x.2.1:=⟨_,rfl⟩
 refine br Tryz.func42 rfl Tryz.ntmps42 rfl fun f h s=>qr (aR (au x) h s rfl rfl rfl fun f w1 b3 h s=>e9 ac 2 h rfl fun f h=>cd ac 2 h rfl fun f h=>aE (aO.subL (aO.of_own s 0 rfl) 0 32 (D:=aw (_)) (dh _)) h aP rfl (by first|exact am _|exact ah _ _) rfl fun f h=>aq ac 1 h rfl fun f h=>aE (aO.subL (aO.of_own s 0 rfl) 32 34 (D:=bc (_)) (gI _)) h cy rfl (aK _) rfl fun f h=>bk h s Hk (tQ l vh x.1 x.2.1 _ (hR.keep s.ext) hln) rfl rfl ?_);intro f w1 v9 hT hE h s;obtain rfl:=hT
 refine aJ (au aN) h s dM rfl rfl fun f w1 b6 h s=>ao 0 h s aT rfl rfl rfl (ai _) (ai _) (aY _) fun w1 s=>nt (al (cd ac 1 h rfl fun f h=>ap (ae (aO.of_own s 0 rfl) 66 (cR _)) h bJ rfl rfl fun f h=>aq ac 1 h rfl fun f h=>ap (ae (aO.of_own s 1 rfl) 66 (cR _)) h bJ rfl rfl fun f h=>e9 ac 1 h rfl fun f h=>Fh (fun aa ww=>Sl 63 aa [(0,vh),(1,.agg (au x)),(3,.pointer (some ⟨b3,0,none⟩)),(6,.pointer (some ⟨b6,0,none⟩))]∧St w [.blk b6 (.cells (au (dH l x.1 x.2.1)) 67),.blk b3 (.cells (au (cm l x)) 67)] ww) ?_ ?_))
 ·skip
  refine cL h rfl (fun hc=>?_) (fun hc=>?_)
  ·refine rs ac 1 h rfl fun f h=>ap (ae (aO.of_own s 0 rfl) 66 (cR _)) h bJ rfl rfl fun f h=>aq ac 1 h rfl fun f h=>bD 1 h s bJ rfl rfl rfl (by rw [ai];omega) (rfl) fun w1 s=>nt ?_
   replace s:=s.recell (D:=au (cm l x)) 1 rfl (by rw [vQ];unfold cm;rw [decide_eq_true hc];rfl)
   exact ⟨h.only ⟨rfl,rfl,rfl,rfl,trivial⟩,St.as s ⟨rfl,rfl,trivial⟩⟩
  ·refine kt ?_
   replace s:=s.recell (D:=au (cm l x)) 1 rfl (by unfold cm;rw [decide_eq_false hc];rfl)
   exact ⟨h.only ⟨rfl,rfl,rfl,rfl,trivial⟩,St.as s ⟨rfl,rfl,trivial⟩⟩
 rintro f w1 ⟨h,s⟩
 refine aH (qr (bF (vs:=[]) [] h s Tryz.underlying22 dU rfl rfl (by simp) rfl rfl rfl fun f w1 v25 h s=>?_))
 replace s:=s.resl (m:=(j4 W (cm l x) 0).length) (ys:=aA (j4 W (cm l x) 0)) 0 rfl (rfl) (rfl)
 refine e9 ac 1 h rfl fun f h=>bG ac 1 h rfl fun f h=>al (cd ac 2 h rfl fun f h=>aE (aO.subL (aO.of_own s 2 rfl) 0 32 (D:=aw (_)) (dh _)) h aP rfl (by first|exact am _|exact ah _ _) rfl fun f h=>aq ac 1 h rfl fun f h=>aE (aO.subL (aO.of_own s 2 rfl) 32 34 (D:=bc (_)) (gI _)) h cy rfl (aK _) rfl fun f h=>bk h s GM (wJ l vh (cm l x).1 (cm l x).2.1 _ (hR.keep s.ext) hln) rfl rfl ?_);intro f w1 v31 hT hE h sq;rw [(jF l x).1,(jF l x).2] at hT;change cb _ _ _ 67 _ (iX l x.1 x.2.1).length (aA (iX l x.1 x.2.1)) at hT;rw [← hW] at hT;replace s:=s.sl_new hE hT
 have hWl:W.length≤l.length:=by rw [hW];exact List.length_filter_le _ _
 refine m3 0 h s Tryz.underlying22 rfl rfl rfl fun f h=>e9 ac 1 h rfl fun f h=>wpIn_block (wpIn_loop_ghost (fun nn aa ww=>∃ k:Nat,∃ vb:Value,Sl 63 aa [(0,vh),(1,.agg (au x)),(3,.pointer (some ⟨b3,0,none⟩)),(6,.pointer (some ⟨b6,0,none⟩)),(7,vb),(8,.bool (xv W (cm l x) k)),(31,v31),(32,.int .i64 (W.length:Int)),(33,.int .i64 (k:Int))]∧St w [.sl v31 67 67 W.length (aA W),.sl vb 67 67 (j4 W (cm l x) k).length (aA (j4 W (cm l x) k)),.blk b6 (.cells (au (dH l x.1 x.2.1)) 67),.blk b3 (.cells (au (cm l x)) 67)] ww∧nn=W.length - k∧k≤W.length) (W.length - (0)) ⟨0,v25,h.only ⟨rfl,rfl,rfl,rfl,rfl,rfl,rfl,rfl,ar rfl (by omega),trivial⟩,s.as ⟨rfl,rfl,rfl,rfl,trivial⟩,rfl,Nat.zero_le _⟩ ?_)
 rintro _ f w1 ⟨k,vb,h,s,hnn,hp0⟩
 refine bG ac 1 h rfl fun f h=>al (cL h rfl (fun hc=>?_) (fun hc=>?_))
 ·refine kt (al (wpIn_block (qr ?_)))
  have hkw:k<W.length:=by omega
  refine ag h (bW (bK.of_own (s.getSl 0 rfl)) (k) Tryz.underlying22 cZ (h.ev rfl) (h.ev rfl) (by omega) (by omega)) rfl fun f h=>aE ((bK.of_own (s.getSl 0 rfl)).el (k) (by omega) (by decide) (D:=au (W.getD k aN)) (dd W k hkw)) h aT rfl (ai _) rfl fun f h=>aJ (au aN) h s dM rfl rfl fun f w1 b10 h s=>ao 0 h s aT rfl rfl rfl (ai _) (ai _) (aY _) fun w1 s=>nt (al (al ?_))
  refine az (da ac h rfl (fun dn f h=>?_) (fun dn f h=>?_))
  ·skip
   refine aq ac 2 h rfl fun f h=>ca h rfl (aj 4 h s aT rfl rfl (ai _) rfl fun f h=>ca h rfl (aj 0 h s aT rfl rfl (ai _) rfl fun f h=>ca h rfl (fJ h s x9 (jH (cm l x) (W.getD k aN) _) rfl rfl (fun hl f w1 h s=>?_) (fun hl f w1 h s=>?_))))
   ·refine e9 ac 1 h rfl fun f h=>jw h rfl (rs ac 1 h rfl fun f h=>aj 0 h s aT rfl rfl (ai _) rfl fun f h=>bF (vs:=[.agg (au (W.getD k aN))]) [.tmp 49] h s Tryz.underlying22 dU rfl rfl (kz _) rfl rfl rfl fun f w1 v50 h s=>dA 3 0 h s Tryz.underlying22 dU rfl rfl rfl rfl (by decide) (by rw [dY];exact aY _) (by have h9:=jx W (cm l x) k;first|(unfold maxLen;omega)|(simp only [List.length_append,List.length_cons,List.length_nil];unfold maxLen;omega)) (by have h9:=jx W (cm l x) k;first|omega|(simp only [List.length_append,List.length_cons,List.length_nil];omega)) rfl fun f w1 v51 h s=>?_)
    replace s:=s.pick _ (List.sublist_cons_self _ _)
    replace s:=s.resl (m:=(j4 W (cm l x) (k+1)).length) (ys:=aA (j4 W (cm l x) (k+1))) 2 rfl (by rw [DO hkw dn hl];simp only [List.length_append,List.length_cons,List.length_nil]) (by rw [DO hkw dn hl,dY,gm])
    refine aq ac 1 h rfl fun f h=>aB (bg (aH (az (ag h (bh (h.ev rfl) (h.ev rfl) (by omega)) rfl fun f h=>e9 ac 1 h rfl fun f h=>?_))))
    exact ⟨_,by omega,⟨k+1,v51,h.only ⟨rfl,rfl,rfl,rfl,rfl,fh rfl (by rw [jd hkw,dn,hl];rfl),rfl,rfl,ar rfl (by omega),trivial⟩,St.as (s.pick _ (List.sublist_append_right [_] _)) ⟨rfl,rfl,rfl,rfl,trivial⟩,rfl,by omega⟩⟩
   ·refine e9 ac 1 h rfl fun f h=>cv h rfl (cd ac 1 h rfl fun f h=>aj 4 h s aT rfl rfl (ai _) rfl fun f h=>bF (vs:=[.agg (au (cm l x))]) [.tmp 45] h s Tryz.underlying22 dU rfl rfl (kz _) rfl rfl rfl fun f w1 v46 h s=>dA 3 0 h s Tryz.underlying22 dU rfl rfl rfl rfl (by decide) (by rw [dY];exact aY _) (by have h9:=jx W (cm l x) k;first|(unfold maxLen;omega)|(simp only [List.length_append,List.length_cons,List.length_nil];unfold maxLen;omega)) (by have h9:=jx W (cm l x) k;first|omega|(simp only [List.length_append,List.length_cons,List.length_nil];omega)) rfl fun f w1 v47 h s=>?_)
    replace s:=s.pick _ (List.sublist_cons_self _ _)
    replace s:=s.resl (m:=((j4 W (cm l x) k)++[(cm l x)]).length) (ys:=aA ((j4 W (cm l x) k)++[(cm l x)])) 2 rfl (by rw [List.length_append];rfl) (by rw [dY,gm])
    refine e9 ac 1 h rfl fun f h=>re ac 1 h rfl fun f h=>rs ac 1 h rfl fun f h=>aj 0 h s aT rfl rfl (ai _) rfl fun f h=>bF (vs:=[.agg (au (W.getD k aN))]) [.tmp 49] h s Tryz.underlying22 dU rfl rfl (kz _) rfl rfl rfl fun f w1 v50 h s=>dA 3 0 h s Tryz.underlying22 dU rfl rfl rfl rfl (by decide) (by rw [dY];exact aY _) (by have h9:=jx W (cm l x) k;first|(unfold maxLen;omega)|(simp only [List.length_append,List.length_cons,List.length_nil];unfold maxLen;omega)) (by have h9:=jx W (cm l x) k;first|omega|(simp only [List.length_append,List.length_cons,List.length_nil];omega)) rfl fun f w1 v51 h s=>?_
    replace s:=s.pick _ (List.sublist_cons_self _ _)
    replace s:=s.resl (m:=(j4 W (cm l x) (k+1)).length) (ys:=aA (j4 W (cm l x) (k+1))) 2 rfl (by rw [uv hkw dn hl];simp only [List.length_append,List.length_cons,List.length_nil]) (by rw [uv hkw dn hl,dY,gm])
    refine aq ac 1 h rfl fun f h=>aB (bg (aH (az (ag h (bh (h.ev rfl) (h.ev rfl) (by omega)) rfl fun f h=>e9 ac 1 h rfl fun f h=>?_))))
    exact ⟨_,by omega,⟨k+1,v51,h.only ⟨rfl,rfl,rfl,rfl,rfl,fh rfl (by rw [jd hkw,dn,hl];rfl),rfl,rfl,ar rfl (by omega),trivial⟩,St.as (s.pick _ (List.sublist_append_right [_] _)) ⟨rfl,rfl,rfl,rfl,trivial⟩,rfl,by omega⟩⟩
  ·refine e9 ac 6 h rfl fun f h=>jw h rfl (rs ac 1 h rfl fun f h=>aj 0 h s aT rfl rfl (ai _) rfl fun f h=>bF (vs:=[.agg (au (W.getD k aN))]) [.tmp 49] h s Tryz.underlying22 dU rfl rfl (kz _) rfl rfl rfl fun f w1 v50 h s=>dA 3 0 h s Tryz.underlying22 dU rfl rfl rfl rfl (by decide) (by rw [dY];exact aY _) (by have h9:=jx W (cm l x) k;first|(unfold maxLen;omega)|(simp only [List.length_append,List.length_cons,List.length_nil];unfold maxLen;omega)) (by have h9:=jx W (cm l x) k;first|omega|(simp only [List.length_append,List.length_cons,List.length_nil];omega)) rfl fun f w1 v51 h s=>?_)
   replace s:=s.pick _ (List.sublist_cons_self _ _)
   replace s:=s.resl (m:=(j4 W (cm l x) (k+1)).length) (ys:=aA (j4 W (cm l x) (k+1))) 2 rfl (by rw [uY hkw dn];simp only [List.length_append,List.length_cons,List.length_nil]) (by rw [uY hkw dn,dY,gm])
   refine aq ac 1 h rfl fun f h=>aB (bg (aH (az (ag h (bh (h.ev rfl) (h.ev rfl) (by omega)) rfl fun f h=>e9 ac 1 h rfl fun f h=>?_))))
   exact ⟨_,by omega,⟨k+1,v51,h.only ⟨rfl,rfl,rfl,rfl,rfl,fh rfl (by rw [jd hkw,dn];rfl),rfl,rfl,ar rfl (by omega),trivial⟩,St.as (s.pick _ (List.sublist_append_right [_] _)) ⟨rfl,rfl,rfl,rfl,trivial⟩,rfl,by omega⟩⟩
 ·refine wpIn_exit (aZ (aZ (bQ (aH (al (al ?_))))))
  cases de:((xv W (cm l x) W.length):Bool)
  ·refine az ?_
   obtain rfl:k=W.length:=by omega
   refine my ac h rfl de fun f h=>e9 ac 1 h rfl fun f h=>cv h rfl (rs ac 1 h rfl fun f h=>aj 3 h s aT rfl rfl (ai _) rfl fun f h=>bF (vs:=[.agg (au (cm l x))]) [.tmp 56] h s Tryz.underlying22 dU rfl rfl (kz _) rfl rfl rfl fun f w1 v57 h s=>dA 2 0 h s Tryz.underlying22 dU rfl rfl rfl rfl (by decide) (by rw [dY];exact aY _) (by have h9:=jx W (cm l x) W.length;first|(unfold maxLen;omega)|(simp only [List.length_append,List.length_cons,List.length_nil];unfold maxLen;omega)) (by have h9:=jx W (cm l x) W.length;first|omega|(simp only [List.length_append,List.length_cons,List.length_nil];omega)) rfl fun f w1 v58 h s=>?_)
   replace s:=s.pick _ (List.sublist_cons_self _ _)
   replace s:=s.resl (m:=((j4 W (cm l x) W.length)++[(cm l x)]).length) (ys:=aA ((j4 W (cm l x) W.length)++[(cm l x)])) 1 rfl (by rw [List.length_append];rfl) (by rw [dY,gm])
   refine e9 ac 1 h rfl fun f h=>cd ac 2 h rfl fun f h=>m3 1 h s Tryz.underlying22 rfl rfl rfl fun f h=>e9 ac 3 h rfl fun f h=>wpIn_ret (cg rfl h s rfl rfl ((by have he:=zj (W:=W) (y:=(cm l x));rw [de] at he;exact rN (K:=((j4 W (cm l x) W.length)++[(cm l x)])) ((by rw [hW];rfl:cP l x=ef W (cm l x)).trans he) (s.getSl 1 rfl))))
  ·refine az ?_
   obtain rfl:k=W.length:=by omega
   refine jK ac h rfl de fun f h=>e9 ac 1 h rfl fun f h=>jw h rfl (cd ac 2 h rfl fun f h=>m3 1 h s Tryz.underlying22 rfl rfl rfl fun f h=>e9 ac 3 h rfl fun f h=>wpIn_ret (cg rfl h s rfl rfl ((by have he:=zj (W:=W) (y:=(cm l x));rw [de] at he;exact rN (K:=(j4 W (cm l x) W.length)) ((by rw [hW];rfl:cP l x=ef W (cm l x)).trans he) (s.getSl 1 rfl)))))
end Go.Proofs.YtobfeflheaobiaaGreatDoor
