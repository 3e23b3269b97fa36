/- Tables, by the reference. -/
import Derived.Test.YtobfeflheaobiaaGreatDoorVr
import Derived.Test.YtobfeflheaobiaaGreatDoorVe
set_option linter.unusedVariables false
set_option linter.unusedSimpArgs false
set_option linter.unusedSectionVars false
namespace Go.Proofs.YtobfeflheaobiaaGreatDoor
open Go.RowKit
theorem l9 (x:Tg) (w:World):Calls Tryz.prog 40 [.agg (aB x)].toArray w (cp w (is (.bool (ge x)))):=by
 refine bF Tryz.func40 rfl Tryz.ntmps40 rfl fun f h s=>qr (aZ (aB x) h s rfl rfl rfl fun f w1 b1 h s=>e9 ab 1 h rfl fun f h=>al ?_)
 refine rs ab 1 h rfl fun f h=>ar (aG.subL (aG.of_own s 0 rfl) 32 34 (D:=bg (_)) (iT _)) h bY rfl (aC _) rfl fun f h=>gg h s Cg (tR x.2.1 _) rfl rfl (fun h0 f w1 h s=>?_) (fun h0 f w1 h s=>?_)
 ·refine e9 ab 11 h rfl fun f h=>wpIn_ret (aH rfl h s rfl (by show _=_;unfold ge;rw [h0]<;>rfl))
 ·skip
  refine am ab 2 h rfl fun f h=>bf h rfl (ag (ac (aG.of_own s 0 rfl) 66 (dD _)) h bo rfl rfl fun f h=>bf h rfl (cZ ab h rfl (fun h1 f h=>?_) (fun h1 f h=>?_)))
  ·refine e9 ab 7 h rfl fun f h=>wpIn_ret (aH rfl h s rfl (by show _=_;unfold ge;rw [h0,h1]<;>rfl))
  ·refine am ab 3 h rfl fun f h=>bf h rfl (ag (ac (aG.of_own s 0 rfl) 66 (dD _)) h bo rfl rfl fun f h=>e9 ab 3 h rfl fun f h=>wpIn_ret (aH rfl h s rfl (by show _=_;unfold ge;rw [h0,h1]<;>rfl)))
theorem m6 (x y:Tg) (w:World):Calls Tryz.prog 41 [.agg (aB x),.agg (aB y)].toArray w (cp w (is (.bool (fV x y)))):=by
 refine bF Tryz.func41 rfl Tryz.ntmps41 rfl fun f h s=>qr (aZ (aB x) h s rfl rfl rfl fun f w1 b2 h s=>aZ (aB y) h s rfl rfl rfl fun f w1 b3 h s=>e9 ab 1 h rfl fun f h=>bZ ab 1 h rfl fun f h=>ar (aG.subL (aG.of_own s 1 rfl) 0 32 (D:=aA (_)) (dV _)) h aN rfl (by first|exact ai _|exact ah _ _) rfl fun f h=>am ab 1 h rfl fun f h=>ar (aG.subL (aG.of_own s 0 rfl) 0 32 (D:=aA (_)) (dV _)) h aN rfl (by first|exact ai _|exact ah _ _) rfl fun f h=>c7 h s Iw (nA x.1 y.1 _) rfl rfl fun f w1 h s=>e9 ab 1 h rfl fun f h=>al (bH ab 2 h rfl fun f h=>cd h rfl (fun hc=>?_) (fun hc=>?_)))
 ·have h0:=of_decide_eq_true hc
  refine bH ab 3 h rfl fun f h=>rt (aH rfl h s rfl (congrArg Value.bool (Of h0)))
 ·have h0:=of_decide_eq_false hc
  refine kt (al (bZ ab 2 h rfl fun f h=>ag (ac (aG.of_own s 1 rfl) 32 (gI _)) h bo rfl rfl fun f h=>am ab 2 h rfl fun f h=>ag (ac (aG.of_own s 0 rfl) 32 (gI _)) h bo rfl rfl fun f h=>e9 ab 1 h rfl fun f h=>cd h rfl (fun hc=>?_) (fun hc=>?_)))
  ·have h1:=of_decide_eq_true hc
   refine bZ ab 2 h rfl fun f h=>ag (ac (aG.of_own s 1 rfl) 32 (gI _)) h bo rfl rfl fun f h=>am ab 2 h rfl fun f h=>ag (ac (aG.of_own s 0 rfl) 32 (gI _)) h bo rfl rfl fun f h=>e9 ab 2 h rfl fun f h=>rt (aH rfl h s rfl (congrArg Value.bool (On h0 h1)))
  ·have h1:=of_decide_eq_false hc
   refine kt (bZ ab 2 h rfl fun f h=>ar (aG.subL (aG.of_own s 1 rfl) 33 32 (D:=aA (_)) (md _)) h aN rfl (by first|exact ai _|exact ah _ _) rfl fun f h=>am ab 2 h rfl fun f h=>ar (aG.subL (aG.of_own s 0 rfl) 33 32 (D:=aA (_)) (md _)) h aN rfl (by first|exact ai _|exact ah _ _) rfl fun f h=>c7 h s Iw (nA x.2.1.2.1 y.2.1.2.1 _) rfl rfl fun f w1 h s=>e9 ab 1 h rfl fun f h=>al (bH ab 2 h rfl fun f h=>cd h rfl (fun hc=>?_) (fun hc=>?_)))
   ·have h2:=of_decide_eq_true hc
    refine bH ab 3 h rfl fun f h=>rt (aH rfl h s rfl (congrArg Value.bool (ON h0 h1 h2)))
   ·have h2:=of_decide_eq_false hc
    refine kt (bZ ab 2 h rfl fun f h=>ag (ac (aG.of_own s 1 rfl) 65 (j8 _)) h bo rfl rfl fun f h=>am ab 2 h rfl fun f h=>ag (ac (aG.of_own s 0 rfl) 65 (j8 _)) h bo rfl rfl fun f h=>e9 ab 2 h rfl fun f h=>wpIn_ret (aH rfl h s rfl (congrArg Value.bool (Ou h0 h1 h2))))
theorem q8 (x:Tg) (i:Id) (e:cU) (w:World):Calls Tryz.prog 88 [.agg (aB x),gp i,.agg (bg e)].toArray w (cp w (is (.bool (jn i e x)))):=by
 refine bF Tryz.func88 rfl Tryz.ntmps88 rfl fun f h s=>qr (aZ (aB x) h s rfl rfl rfl fun f w1 b3 h s=>aZ (aA i) h s rfl rfl rfl fun f w1 b4 h s=>aZ (bg e) h s rfl rfl rfl fun f w1 b5 h s=>e9 ab 1 h rfl fun f h=>al ?_)
 cases h0:(decide (x.1=i):Bool)
 ·refine rs ab 1 h rfl fun f h=>ar (aG.subL (aG.of_own s 2 rfl) 0 32 (D:=aA (_)) (dV _)) h aN rfl (by first|exact ai _|exact ah _ _) rfl fun f h=>ak 1 h s aN rfl rfl (by first|exact ai _|exact ah _ _) rfl fun f h=>ae h (aV (.bool false) (cn d8 (h.ev rfl) (h.ev rfl)) (congrArg Value.bool h0)) rfl fun f h=>e9 ab 7 h rfl fun f h=>wpIn_ret (aH rfl h s rfl (by show _=_;unfold jn;rw [h0]<;>rfl))
 ·refine rs ab 1 h rfl fun f h=>ar (aG.subL (aG.of_own s 2 rfl) 0 32 (D:=aA (_)) (dV _)) h aN rfl (by first|exact ai _|exact ah _ _) rfl fun f h=>ak 1 h s aN rfl rfl (by first|exact ai _|exact ah _ _) rfl fun f h=>ae h (aV (.bool true) (cn d8 (h.ev rfl) (h.ev rfl)) (congrArg Value.bool h0)) rfl fun f h=>am ab 2 h rfl fun f h=>bf h rfl (ar (aG.subL (aG.of_own s 2 rfl) 32 34 (D:=bg (_)) (iT _)) h bY rfl (aC _) rfl fun f h=>bf h rfl (ak 0 h s bY rfl rfl (aC _) rfl fun f h=>bf h rfl (ae h (fU (xP _ _) (by kernel_rfl) (by decide) (h.ev rfl) (h.ev rfl) (decide (x.2.1=e)) (BR _ _)) rfl fun f h=>e9 ab 2 h rfl fun f h=>wpIn_ret (aH rfl h s rfl (by show _=_;unfold jn;rw [h0]<;>rfl)))))
theorem uJ (l:List Tg) (vh:Value) (w:World) (hR:bI w vh 67 l.length (aJ l)) (hln:l.length≤1000):Calls Tryz.prog 20 [vh].toArray w (cp w (is (.bool (ce l)))):=by
 refine bF Tryz.func20 rfl Tryz.ntmps20 rfl fun f h s=>bH ab 1 h rfl fun f h=>al (bZ ab 1 h rfl fun f h=>dN h (hR.keep s.ext) Tryz.underlying22 rfl rfl fun f h=>e9 ab 1 h rfl fun f h=>wpIn_block (wpIn_loop_ghost (fun nn aa ww=>∃ k:Nat,Sl 33 aa [(0,vh),(5,vh),(6,.int .i64 (l.length:Int)),(7,.int .i64 (k:Int))]∧St w [] ww∧nn=l.length - k∧k≤l.length∧∀ j,j<k→xA l j=true) (l.length - (0)) ⟨0,h.only ⟨rfl,rfl,rfl,aq rfl (by omega),trivial⟩,s.as trivial,rfl,Nat.zero_le _,fun j hj=>absurd hj (Nat.not_lt_zero _)⟩ ?_))
 rintro _ f w1 ⟨k,h,s,hnn,hp0,hp1⟩
 refine bH ab 1 h rfl fun f h=>al (cV h rfl (fun hc=>?_) (fun hc=>?_))
 ·refine kt (al (wpIn_block (qr ?_)))
  have hkl:k<l.length:=by omega
  refine am ab 1 h rfl fun f h=>ae h (a7 (hR.keep s.ext) (k) Tryz.underlying22 dZ (h.ev rfl) (h.ev rfl) (by omega) (by omega)) rfl fun f h=>ar ((hR.keep s.ext).el (k) (by omega) (by decide) (D:=aB (l.getD k aW)) (dX l k hkl)) h a8 rfl (ao _) rfl fun f h=>aK (aB aW) h s eL rfl rfl fun f w1 b4 h s=>am ab 1 h rfl fun f h=>aj 0 h s a8 rfl rfl rfl (ao _) (ao _) (bm _) fun w1 s=>nt (al ?_)
  cases h0:(ge (l.getD k aW):Bool)
  ·refine eo 17 h (by kernel_rfl) (bh 0 h s a8 rfl rfl (ao _) rfl fun f h=>aY h za (fun w9 hE9=>bG (.bool false) (l9 (l.getD k aW) w9) (congrArg Value.bool h0)) rfl rfl fun f h=>az ab 15 h rfl fun f h=>cj s fun w1 s=>wy h rfl (bH ab 1 h rfl fun f h=>wpIn_ret (ck (bK (bK (ck (bK (aH rfl h s rfl (by show _=_;rw [kc hkl (M9 h0)])))))))))
  ·skip
   cases h1:(decide (k=0):Bool)
   ·skip
    cases h2:(fV (l.getD (k - 1) aW) (l.getD k aW):Bool)
    ·refine eo 17 h (by kernel_rfl) (bh 0 h s a8 rfl rfl (ao _) rfl fun f h=>aY h za (fun w9 hE9=>bG (.bool true) (l9 (l.getD k aW) w9) (congrArg Value.bool h0)) rfl rfl fun f h=>az ab 3 h rfl fun f h=>bA h rfl (qu ab h rfl (decide_eq_true (by have:=of_decide_eq_false h1;omega)) fun f h=>az ab 3 h rfl fun f h=>bA h rfl (au h (ea (h.ev rfl) (h.ev rfl) (by omega)) rfl fun f h=>bA h rfl (au h (a7 (hR.keep s.ext) ((k - 1)) Tryz.underlying22 dZ (h.ev rfl) (h.ev rfl) (by have:=of_decide_eq_false h1;omega) (by omega)) rfl fun f h=>bA h rfl (bj ((hR.keep s.ext).el ((k - 1)) (by omega) (by decide) (D:=aB (l.getD (k - 1) aW)) (dX l (k - 1) (by omega))) h a8 rfl (ao _) rfl fun f h=>bA h rfl (bh 0 h s a8 rfl rfl (ao _) rfl fun f h=>bA h rfl (aY h EH (fun w9 hE9=>bG (.bool false) (m6 (l.getD (k - 1) aW) (l.getD k aW) w9) (congrArg Value.bool h2)) rfl rfl fun f h=>az ab 3 h rfl fun f h=>cj s fun w1 s=>wy h rfl (bH ab 1 h rfl fun f h=>wpIn_ret (ck (bK (bK (ck (bK (aH rfl h s rfl (by show _=_;rw [kc hkl ((GC h0 (of_decide_eq_false h1)).trans h2)])))))))))))))))
    ·refine eo 17 h (by kernel_rfl) (bh 0 h s a8 rfl rfl (ao _) rfl fun f h=>aY h za (fun w9 hE9=>bG (.bool true) (l9 (l.getD k aW) w9) (congrArg Value.bool h0)) rfl rfl fun f h=>az ab 3 h rfl fun f h=>bA h rfl (qu ab h rfl (decide_eq_true (by have:=of_decide_eq_false h1;omega)) fun f h=>az ab 3 h rfl fun f h=>bA h rfl (au h (ea (h.ev rfl) (h.ev rfl) (by omega)) rfl fun f h=>bA h rfl (au h (a7 (hR.keep s.ext) ((k - 1)) Tryz.underlying22 dZ (h.ev rfl) (h.ev rfl) (by have:=of_decide_eq_false h1;omega) (by omega)) rfl fun f h=>bA h rfl (bj ((hR.keep s.ext).el ((k - 1)) (by omega) (by decide) (D:=aB (l.getD (k - 1) aW)) (dX l (k - 1) (by omega))) h a8 rfl (ao _) rfl fun f h=>bA h rfl (bh 0 h s a8 rfl rfl (ao _) rfl fun f h=>bA h rfl (aY h EH (fun w9 hE9=>bG (.bool true) (m6 (l.getD (k - 1) aW) (l.getD k aW) w9) (congrArg Value.bool h2)) rfl rfl fun f h=>az ab 3 h rfl fun f h=>cj s fun w1 s=>A8 h rfl (wpIn_skip (ba (aE (aF (ae h (a6 (h.ev rfl) (h.ev rfl) (by omega)) rfl fun f h=>e9 ab 1 h rfl fun f h=>?_))))))))))))
     exact ⟨_,by omega,⟨k+1,h.only ⟨rfl,rfl,rfl,aq rfl (by omega),trivial⟩,St.as (s.pick _ (List.sublist_append_right [_] _)) trivial,rfl,by omega,nC hp1 ((GC h0 (of_decide_eq_false h1)).trans h2)⟩⟩
   ·refine eo 17 h (by kernel_rfl) (bh 0 h s a8 rfl rfl (ao _) rfl fun f h=>aY h za (fun w9 hE9=>bG (.bool true) (l9 (l.getD k aW) w9) (congrArg Value.bool h0)) rfl rfl fun f h=>az ab 3 h rfl fun f h=>bA h rfl (vz ab h rfl (decide_eq_false (by have:=of_decide_eq_true h1;omega)) fun f h=>az ab 11 h rfl fun f h=>cj s fun w1 s=>A8 h rfl (wpIn_skip (ba (aE (aF (ae h (a6 (h.ev rfl) (h.ev rfl) (by omega)) rfl fun f h=>e9 ab 1 h rfl fun f h=>?_)))))))
    exact ⟨_,by omega,⟨k+1,h.only ⟨rfl,rfl,rfl,aq rfl (by omega),trivial⟩,St.as (s.pick _ (List.sublist_append_right [_] _)) trivial,rfl,by omega,nC hp1 (Mo h0 (of_decide_eq_true h1))⟩⟩
 ·refine wpIn_exit (aU (aU (bR (aE (bZ ab 1 h rfl fun f h=>dN h (hR.keep s.ext) Tryz.underlying22 rfl rfl fun f h=>e9 ab 2 h rfl fun f h=>wpIn_ret (aH rfl h s rfl (by obtain rfl:k=l.length:=(by omega);show _=_;rw [oG hp1];exact congrArg Value.bool (decide_eq_decide.2 (by omega)))))))))
theorem w8 (l r:List Tg) (vh vu:Value) (w:World) (hR:bI w vh 67 l.length (aJ l)) (hS:bI w vu 67 r.length (aJ r)) (hln:l.length≤1000) (hln2:r.length≤1000):Calls Tryz.prog 19 [vh,vu].toArray w (cp w (is (.bool (decide (l=r))))):=by
 refine bF Tryz.func19 rfl Tryz.ntmps19 rfl fun f h s=>bH ab 1 h rfl fun f h=>al (bZ ab 1 h rfl fun f h=>dN h (hR.keep s.ext) Tryz.underlying22 rfl rfl fun f h=>am ab 1 h rfl fun f h=>dN h (hS.keep s.ext) Tryz.underlying22 rfl rfl fun f h=>e9 ab 1 h rfl fun f h=>cd h rfl (fun hc=>?_) (fun hc=>?_))
 ·replace hc:=hc
  refine bH ab 1 h rfl fun f h=>rt (aH rfl h s rfl ((by show _=_;rw [decide_eq_false (fun e=>by subst e;simp at hc)])))
 ·have hl9:l.length=r.length:=by have:=hc;simp at this;omega
  refine kt (al (bZ ab 1 h rfl fun f h=>dN h (hR.keep s.ext) Tryz.underlying22 rfl rfl fun f h=>e9 ab 1 h rfl fun f h=>wpIn_block (wpIn_loop_ghost (fun nn aa ww=>∃ k:Nat,Sl 26 aa [(0,vh),(1,vu),(12,.int .i64 (l.length:Int)),(13,.int .i64 (k:Int))]∧St w [] ww∧nn=l.length - k∧k≤l.length∧∀ j,j<k→l.getD j aW=r.getD j aW) (l.length - (0)) ⟨0,h.only ⟨rfl,rfl,rfl,aq rfl (by omega),trivial⟩,s.as trivial,rfl,Nat.zero_le _,fun j hj=>absurd hj (Nat.not_lt_zero _)⟩ ?_)))
  rintro _ f w1 ⟨k,h,s,hnn,hp0,hp1⟩
  refine bH ab 1 h rfl fun f h=>al (cV h rfl (fun hc=>?_) (fun hc=>?_))
  ·refine kt (al (wpIn_block (qr ?_)))
   have hkl:k<l.length:=by omega
   have hkb:k<r.length:=by omega
   refine e9 ab 2 h rfl fun f h=>al (eo 9 h (by kernel_rfl) (az ab 2 h rfl fun f h=>au h (a7 (hR.keep s.ext) (k) Tryz.underlying22 dZ (h.ev rfl) (h.ev rfl) (by omega) (by omega)) rfl fun f h=>bj ((hR.keep s.ext).el (k) (by omega) (by decide) (D:=aB (l.getD k aW)) (dX l k hkl)) h a8 rfl (ao _) rfl fun f h=>az ab 2 h rfl fun f h=>au h (a7 (hS.keep s.ext) (k) Tryz.underlying22 dZ (h.ev rfl) (h.ev rfl) (by omega) (by omega)) rfl fun f h=>bj ((hS.keep s.ext).el (k) (by omega) (by decide) (D:=aB (r.getD k aW)) (dX r k hkb)) h a8 rfl (ao _) rfl fun f h=>au h (iE (N4 _ _) (by kernel_rfl) (by decide) (h.ev rfl) (h.ev rfl) (decide ((l.getD k aW)=r.getD k aW)) (Gw _ _)) rfl fun f h=>cj s fun w1 s=>nt (cd h rfl (fun hc=>?_) (fun hc=>?_))))
   ·refine bH ab 1 h rfl fun f h=>wpIn_ret (ck (bK (bK (ck (bK (aH rfl h s rfl ((by show _=_;rw [decide_eq_false (fun e=>by subst e;simp at hc)]))))))))
   ·refine wpIn_skip (ba (aE (aF (ae h (a6 (h.ev rfl) (h.ev rfl) (by omega)) rfl fun f h=>e9 ab 1 h rfl fun f h=>?_))))
    exact ⟨_,by omega,⟨k+1,h.only ⟨rfl,rfl,rfl,aq rfl (by omega),trivial⟩,St.as s trivial,rfl,by omega,DD hp1 (by simpa using hc)⟩⟩
  ·refine wpIn_exit (aU (aU (bR (aE (bH ab 1 h rfl fun f h=>wpIn_ret (aH rfl h s rfl ((by show _=_;rw [decide_eq_true (Gm hl9 (fun j hj=>hp1 j (by omega)))]))))))))
theorem qq (l:List Tg) (vh:Value) (i:Id) (e:cU) (w:World) (hR:bI w vh 67 l.length (aJ l)) (hln:l.length≤1000):Calls Tryz.prog 59 [vh,gp i,.agg (bg e)].toArray w (cp w (is (.agg (aB (ey l i e))))):=by
 refine bF Tryz.func59 rfl Tryz.ntmps59 rfl fun f h s=>qr (aZ (aA i) h s rfl rfl rfl fun f w1 b4 h s=>aZ (bg e) h s rfl rfl rfl fun f w1 b5 h s=>aK (aB aW) h s eL rfl rfl fun f w1 b6 h s=>nt (al (bZ ab 1 h rfl fun f h=>dN h (hR.keep s.ext) Tryz.underlying22 rfl rfl fun f h=>e9 ab 1 h rfl fun f h=>wpIn_block (wpIn_loop_ghost (fun nn aa ww=>∃ k:Nat,Sl 22 aa [(0,vh),(1,gp i),(2,.agg (bg e)),(4,.pointer (some ⟨b4,0,none⟩)),(5,.pointer (some ⟨b5,0,none⟩)),(6,.pointer (some ⟨b6,0,none⟩)),(9,vh),(10,.int .i64 (l.length:Int)),(11,.int .i64 (k:Int))]∧St w [.blk b6 (.cells (aB aW) 67),.blk b5 (.cells (bg e) 28),.blk b4 (.cells (aA i) 26)] ww∧nn=l.length - k∧k≤l.length∧∀ j,j<k→jn i e (l.getD j aW)=false) (l.length - (0)) ⟨0,h.only ⟨rfl,rfl,rfl,rfl,rfl,rfl,rfl,rfl,aq rfl (by omega),trivial⟩,s.as ⟨rfl,rfl,rfl,trivial⟩,rfl,Nat.zero_le _,fun j hj=>absurd hj (Nat.not_lt_zero _)⟩ ?_))))
 rintro _ f w1 ⟨k,h,s,hnn,hp0,hp1⟩
 refine bH ab 1 h rfl fun f h=>al (cV h rfl (fun hc=>?_) (fun hc=>?_))
 ·refine kt (al (wpIn_block (qr ?_)))
  have hkl:k<l.length:=by omega
  refine ae h (a7 (hR.keep s.ext) (k) Tryz.underlying22 dZ (h.ev rfl) (h.ev rfl) (by omega) (by omega)) rfl fun f h=>ar ((hR.keep s.ext).el (k) (by omega) (by decide) (D:=aB (l.getD k aW)) (dX l k hkl)) h a8 rfl (ao _) rfl fun f h=>aK (aB aW) h s eL rfl rfl fun f w1 b8 h s=>aj 0 h s a8 rfl rfl rfl (ao _) (ao _) (bm _) fun w1 s=>nt (qr (ak 0 h s a8 rfl rfl (ao _) rfl fun f h=>ak 3 h s aN rfl rfl (by first|exact ai _|exact ah _ _) rfl fun f h=>ak 2 h s bY rfl rfl (aC _) rfl fun f h=>c7 h s Cq (q8 (l.getD k aW) i e _) rfl rfl fun f w1 h s=>nt (cd h rfl (fun hc=>?_) (fun hc=>?_))))
  ·refine qr (ak 0 h s a8 rfl rfl (ao _) rfl fun f h=>aj 1 h s a8 rfl rfl rfl (ao _) (ao _) (bm _) fun w1 s=>nt (wpIn_ret (ck (bK (bK (ck (bK (cR 1 rfl h s a8 rfl rfl (ao _) (by show _=_;unfold ey;rw [yP hkl hp1 hc];rfl)))))))))
  ·refine wpIn_skip (ba (aE (aF (ae h (a6 (h.ev rfl) (h.ev rfl) (by omega)) rfl fun f h=>e9 ab 1 h rfl fun f h=>?_))))
   exact ⟨_,by omega,⟨k+1,h.only ⟨rfl,rfl,rfl,rfl,rfl,rfl,rfl,rfl,aq rfl (by omega),trivial⟩,St.as (s.pick _ (List.sublist_append_right [_] _)) ⟨rfl,rfl,rfl,trivial⟩,rfl,by omega,y7 hp1 hc⟩⟩
 ·refine wpIn_exit (aU (aU (bR (aE (qr (ae h (tr jM rfl) rfl fun f h=>aj 0 h s a8 rfl rfl rfl (ao _) (ao _) (bm _) fun w1 s=>nt (wpIn_ret (cR 0 rfl h s a8 rfl rfl (ao _) (by show _=_;unfold ey;rw [E6 (fun j hj=>hp1 j (by omega))];rfl)))))))))
theorem sj (l:List Tg) (vh:Value) (i:Id) (e:cU) (w:World) (hR:bI w vh 67 l.length (aJ l)) (hln:l.length≤1000):Calls Tryz.prog 60 [vh,gp i,.agg (bg e)].toArray w (cp w (fun v w'=>cB w' w.heap.size 67 67 v (l.filter (fun y => !jn i e y)).length (aJ (l.filter (fun y => !jn i e y))))):=by
 refine bF Tryz.func60 rfl Tryz.ntmps60 rfl fun f h s=>qr (aZ (aA i) h s rfl rfl rfl fun f w1 b4 h s=>aZ (bg e) h s rfl rfl rfl fun f w1 b5 h s=>e9 ab 1 h rfl fun f h=>qr (bn (vs:=[]) [] h s Tryz.underlying22 ex rfl rfl (by simp) rfl rfl rfl fun f w1 v10 h s=>?_))
 replace s:=s.resl (m:=((l.take 0).filter (fun y => !jn i e y)).length) (ys:=aJ ((l.take 0).filter (fun y => !jn i e y))) 0 rfl (rfl) (rfl)
 refine e9 ab 1 h rfl fun f h=>al (bZ ab 1 h rfl fun f h=>dN h (hR.keep s.ext) Tryz.underlying22 rfl rfl fun f h=>e9 ab 1 h rfl fun f h=>wpIn_block (wpIn_loop_ghost (fun nn aa ww=>∃ k:Nat,∃ vb:Value,Sl 28 aa [(0,vh),(1,gp i),(2,.agg (bg e)),(4,.pointer (some ⟨b4,0,none⟩)),(5,.pointer (some ⟨b5,0,none⟩)),(11,vh),(12,.int .i64 (l.length:Int)),(13,.int .i64 (k:Int)),(7,vb)]∧St w [.sl vb 67 67 ((l.take k).filter (fun y => !jn i e y)).length (aJ ((l.take k).filter (fun y => !jn i e y))),.blk b5 (.cells (bg e) 28),.blk b4 (.cells (aA i) 26)] ww∧nn=l.length - k∧k≤l.length) (l.length - (0)) ⟨0,v10,h.only ⟨rfl,rfl,rfl,rfl,rfl,rfl,rfl,aq rfl (by omega),rfl,trivial⟩,s.as ⟨rfl,rfl,rfl,trivial⟩,rfl,Nat.zero_le _⟩ ?_))
 rintro _ f w1 ⟨k,vb,h,s,hnn,hp0⟩
 refine bH ab 1 h rfl fun f h=>al (cV h rfl (fun hc=>?_) (fun hc=>?_))
 ·refine kt (al (wpIn_block (qr ?_)))
  have hkl:k<l.length:=by omega
  refine ae h (a7 (hR.keep s.ext) (k) Tryz.underlying22 dZ (h.ev rfl) (h.ev rfl) (by omega) (by omega)) rfl fun f h=>ar ((hR.keep s.ext).el (k) (by omega) (by decide) (D:=aB (l.getD k aW)) (dX l k hkl)) h a8 rfl (ao _) rfl fun f h=>aK (aB aW) h s eL rfl rfl fun f w1 b9 h s=>aj 0 h s a8 rfl rfl rfl (ao _) (ao _) (bm _) fun w1 s=>nt (al ?_)
  cases hq:(!jn i e (l.getD k aW):Bool)
  ·refine aF (ak 0 h s a8 rfl rfl (ao _) rfl fun f h=>ak 3 h s aN rfl rfl (by first|exact ai _|exact ah _ _) rfl fun f h=>ak 2 h s bY rfl rfl (aC _) rfl fun f h=>jm true h s Cq (q8 (l.getD k aW) i e _) (by simpa using hq) rfl rfl fun f w1 h s=>e9 ab 1 h rfl fun f h=>ij h rfl (wpIn_skip (ba (aE (aF (ae h (a6 (h.ev rfl) (h.ev rfl) (by omega)) rfl fun f h=>e9 ab 1 h rfl fun f h=>?_))))))
   exact ⟨_,by omega,⟨k+1,vb,h.only ⟨rfl,rfl,rfl,rfl,rfl,rfl,rfl,aq rfl (by omega),rfl,trivial⟩,St.as (s.pick _ (List.sublist_append_right [_] _)) ⟨eJ (by rw [qn hkl hq]) (by rw [qn hkl hq]),rfl,rfl,trivial⟩,rfl,by omega⟩⟩
  ·refine aF (ak 0 h s a8 rfl rfl (ao _) rfl fun f h=>ak 3 h s aN rfl rfl (by first|exact ai _|exact ah _ _) rfl fun f h=>ak 2 h s bY rfl rfl (aC _) rfl fun f h=>jm false h s Cq (q8 (l.getD k aW) i e _) (by simpa using hq) rfl rfl fun f w1 h s=>e9 ab 1 h rfl fun f h=>cy h rfl (rs ab 1 h rfl fun f h=>ak 0 h s a8 rfl rfl (ao _) rfl fun f h=>bn (vs:=[.agg (aB (l.getD k aW))]) [.tmp 23] h s Tryz.underlying22 ex rfl rfl (lN _) rfl rfl rfl fun f w1 v24 h s=>cq 2 0 h s Tryz.underlying22 ex rfl rfl rfl rfl (by decide) (by rw [eC];exact bm _) (by have h9:=oo l (fun y => !jn i e y) k;unfold maxLen;omega) (by have h9:=oo l (fun y => !jn i e y) k;omega) rfl fun f w1 v25 h s=>?_))
   replace s:=s.pick _ (List.sublist_cons_self _ _)
   replace s:=s.resl (m:=((l.take (k+1)).filter (fun y => !jn i e y)).length) (ys:=aJ ((l.take (k+1)).filter (fun y => !jn i e y))) 1 rfl (by rw [rR hkl hq,List.length_append];rfl) (by rw [rR hkl hq,eC,hQ])
   refine am ab 1 h rfl fun f h=>av (ba (aE (aF (ae h (a6 (h.ev rfl) (h.ev rfl) (by omega)) rfl fun f h=>e9 ab 1 h rfl fun f h=>?_))))
   exact ⟨_,by omega,⟨k+1,v25,h.only ⟨rfl,rfl,rfl,rfl,rfl,rfl,rfl,aq rfl (by omega),rfl,trivial⟩,St.as (s.pick _ (List.sublist_append_right [_] _)) ⟨rfl,rfl,rfl,trivial⟩,rfl,by omega⟩⟩
 ·refine wpIn_exit (aU (aU (bR (aE (bH ab 2 h rfl fun f h=>wpIn_ret (aH rfl h s rfl ((by have h9:=s.getSl 0 rfl;rw [sS (by omega)] at h9;exact h9))))))))
theorem Ba (l:List Tg) (vh:Value) (now:Int) (w:World) (hR:bI w vh 67 l.length (aJ l)) (hln:l.length≤1000):Calls Tryz.prog 33 [vh,.int .i64 now].toArray w (cp w (fun v w'=>cB w' w.heap.size 67 67 v (l.filter (fun y=>decide (now<y.2.2))).length (aJ (l.filter (fun y=>decide (now<y.2.2)))))):=by
 refine bF Tryz.func33 rfl Tryz.ntmps33 rfl fun f h s=>bH ab 1 h rfl fun f h=>qr (bn (vs:=[]) [] h s Tryz.underlying22 ex rfl rfl (by simp) rfl rfl rfl fun f w1 v8 h s=>?_)
 replace s:=s.resl (m:=((l.take 0).filter (fun y=>decide (now<y.2.2))).length) (ys:=aJ ((l.take 0).filter (fun y=>decide (now<y.2.2)))) 0 rfl (rfl) (rfl)
 refine e9 ab 1 h rfl fun f h=>al (bZ ab 1 h rfl fun f h=>dN h (hR.keep s.ext) Tryz.underlying22 rfl rfl fun f h=>e9 ab 1 h rfl fun f h=>wpIn_block (wpIn_loop_ghost (fun nn aa ww=>∃ k:Nat,∃ vb:Value,Sl 25 aa [(0,vh),(9,vh),(10,.int .i64 (l.length:Int)),(11,.int .i64 (k:Int)),(5,vb),(1,.int .i64 now)]∧St w [.sl vb 67 67 ((l.take k).filter (fun y=>decide (now<y.2.2))).length (aJ ((l.take k).filter (fun y=>decide (now<y.2.2))))] ww∧nn=l.length - k∧k≤l.length) (l.length - (0)) ⟨0,v8,h.only ⟨rfl,rfl,rfl,aq rfl (by omega),rfl,rfl,trivial⟩,s.as ⟨rfl,trivial⟩,rfl,Nat.zero_le _⟩ ?_))
 rintro _ f w1 ⟨k,vb,h,s,hnn,hp0⟩
 refine bH ab 1 h rfl fun f h=>al (cV h rfl (fun hc=>?_) (fun hc=>?_))
 ·refine kt (al (wpIn_block (qr ?_)))
  have hkl:k<l.length:=by omega
  refine ae h (a7 (hR.keep s.ext) (k) Tryz.underlying22 dZ (h.ev rfl) (h.ev rfl) (by omega) (by omega)) rfl fun f h=>ar ((hR.keep s.ext).el (k) (by omega) (by decide) (D:=aB (l.getD k aW)) (dX l k hkl)) h a8 rfl (ao _) rfl fun f h=>aK (aB aW) h s eL rfl rfl fun f w1 b7 h s=>aj 0 h s a8 rfl rfl rfl (ao _) (ao _) (bm _) fun w1 s=>nt (al ?_)
  refine rs ab 1 h rfl fun f h=>ag (ac (aG.of_own s 0 rfl) 66 (dD _)) h bo rfl rfl fun f h=>am ab 1 h rfl fun f h=>cZ ab h rfl (fun hq f h=>?_) (fun hq f h=>?_)
  ·refine A8 h rfl (wpIn_skip (ba (aE (aF (ae h (a6 (h.ev rfl) (h.ev rfl) (by omega)) rfl fun f h=>e9 ab 1 h rfl fun f h=>?_)))))
   exact ⟨_,by omega,⟨k+1,vb,h.only ⟨rfl,rfl,rfl,aq rfl (by omega),rfl,rfl,trivial⟩,St.as (s.pick _ (List.sublist_append_right [_] _)) ⟨eJ (by rw [qn hkl hq]) (by rw [qn hkl hq]),trivial⟩,rfl,by omega⟩⟩
  ·refine wy h rfl (rs ab 1 h rfl fun f h=>ak 0 h s a8 rfl rfl (ao _) rfl fun f h=>bn (vs:=[.agg (aB (l.getD k aW))]) [.tmp 20] h s Tryz.underlying22 ex rfl rfl (lN _) rfl rfl rfl fun f w1 v21 h s=>cq 2 0 h s Tryz.underlying22 ex rfl rfl rfl rfl (by decide) (by rw [eC];exact bm _) (by have h9:=oo l (fun y=>decide (now<y.2.2)) k;unfold maxLen;omega) (by have h9:=oo l (fun y=>decide (now<y.2.2)) k;omega) rfl fun f w1 v22 h s=>?_)
   replace s:=s.pick _ (List.sublist_cons_self _ _)
   replace s:=s.resl (m:=((l.take (k+1)).filter (fun y=>decide (now<y.2.2))).length) (ys:=aJ ((l.take (k+1)).filter (fun y=>decide (now<y.2.2)))) 1 rfl (by rw [rR hkl hq,List.length_append];rfl) (by rw [rR hkl hq,eC,hQ])
   refine am ab 1 h rfl fun f h=>av (ba (aE (aF (ae h (a6 (h.ev rfl) (h.ev rfl) (by omega)) rfl fun f h=>e9 ab 1 h rfl fun f h=>?_))))
   exact ⟨_,by omega,⟨k+1,v22,h.only ⟨rfl,rfl,rfl,aq rfl (by omega),rfl,rfl,trivial⟩,St.as (s.pick _ (List.sublist_append_right [_] _)) ⟨rfl,trivial⟩,rfl,by omega⟩⟩
 ·refine wpIn_exit (aU (aU (bR (aE (bH ab 2 h rfl fun f h=>wpIn_ret (aH rfl h s rfl ((by have h9:=s.getSl 0 rfl;rw [sS (by omega)] at h9;exact h9))))))))
set_option maxHeartbeats 1000000 in
theorem sD (l:List Tg) (vh:Value) (x:Tg) (w:World) (hR:bI w vh 67 l.length (aJ l)) (hln:l.length≤1000):Calls Tryz.prog 42 [vh,.agg (aB x)].toArray w (cp w (fun v w'=>∃ p,v=.tuple #[p,.bool (decide ((dL l x).length≤32))]∧cB w' w.heap.size 67 67 p (dL l x).length (aJ (dL l x)))):=by
 obtain ⟨W,hW⟩:∃ W,W=jo l x.1 x.2.1:=⟨_,rfl⟩
 refine bF Tryz.func42 rfl Tryz.ntmps42 rfl fun f h s=>qr (aZ (aB x) h s rfl rfl rfl fun f w1 b3 h s=>e9 ab 2 h rfl fun f h=>bZ ab 2 h rfl fun f h=>ar (aG.subL (aG.of_own s 0 rfl) 0 32 (D:=aA (_)) (dV _)) h aN rfl (by first|exact ai _|exact ah _ _) rfl fun f h=>am ab 1 h rfl fun f h=>ar (aG.subL (aG.of_own s 0 rfl) 32 34 (D:=bg (_)) (iT _)) h bY rfl (aC _) rfl fun f h=>bq h s Ih (qq l vh x.1 x.2.1 _ (hR.keep s.ext) hln) rfl rfl ?_);intro f w1 v9 hT hE h s;obtain rfl:=hT
 refine aK (aB aW) h s eL rfl rfl fun f w1 b6 h s=>aj 0 h s a8 rfl rfl rfl (ao _) (ao _) (bm _) fun w1 s=>nt (al (bZ ab 1 h rfl fun f h=>ag (ac (aG.of_own s 0 rfl) 66 (dD _)) h bo rfl rfl fun f h=>am ab 1 h rfl fun f h=>ag (ac (aG.of_own s 1 rfl) 66 (dD _)) h bo rfl rfl fun f h=>e9 ab 1 h rfl fun f h=>pW (fun aa ww=>Sl 63 aa [(0,vh),(1,.agg (aB x)),(3,.pointer (some ⟨b3,0,none⟩)),(6,.pointer (some ⟨b6,0,none⟩))]∧St w [.blk b6 (.cells (aB (ey l x.1 x.2.1)) 67),.blk b3 (.cells (aB (dx l x)) 67)] ww) ?_ ?_))
 ·skip
  refine cV h rfl (fun hc=>?_) (fun hc=>?_)
  ·refine rs ab 1 h rfl fun f h=>ag (ac (aG.of_own s 0 rfl) 66 (dD _)) h bo rfl rfl fun f h=>am ab 1 h rfl fun f h=>bN 1 h s bo rfl rfl rfl (by rw [ao];omega) (rfl) fun w1 s=>nt ?_
   replace s:=s.recell (D:=aB (dx l x)) 1 rfl (by rw [yK];unfold dx;rw [decide_eq_true hc];rfl)
   exact ⟨h.only ⟨rfl,rfl,rfl,rfl,trivial⟩,St.as s ⟨rfl,rfl,trivial⟩⟩
  ·refine kt ?_
   replace s:=s.recell (D:=aB (dx l x)) 1 rfl (by unfold dx;rw [decide_eq_false hc];rfl)
   exact ⟨h.only ⟨rfl,rfl,rfl,rfl,trivial⟩,St.as s ⟨rfl,rfl,trivial⟩⟩
 rintro f w1 ⟨h,s⟩
 refine aE (qr (bn (vs:=[]) [] h s Tryz.underlying22 ex rfl rfl (by simp) rfl rfl rfl fun f w1 v25 h s=>?_))
 replace s:=s.resl (m:=(nc W (dx l x) 0).length) (ys:=aJ (nc W (dx l x) 0)) 0 rfl (rfl) (rfl)
 refine e9 ab 1 h rfl fun f h=>bH ab 1 h rfl fun f h=>al (bZ ab 2 h rfl fun f h=>ar (aG.subL (aG.of_own s 2 rfl) 0 32 (D:=aA (_)) (dV _)) h aN rfl (by first|exact ai _|exact ah _ _) rfl fun f h=>am ab 1 h rfl fun f h=>ar (aG.subL (aG.of_own s 2 rfl) 32 34 (D:=bg (_)) (iT _)) h bY rfl (aC _) rfl fun f h=>bq h s Iu (sj l vh (dx l x).1 (dx l x).2.1 _ (hR.keep s.ext) hln) rfl rfl ?_);intro f w1 v31 hT hE h sq;rw [(mL l x).1,(mL l x).2] at hT;change cB _ _ _ 67 _ (jo l x.1 x.2.1).length (aJ (jo l x.1 x.2.1)) at hT;rw [← hW] at hT;replace s:=s.sl_new hE hT
 have hWl:W.length≤l.length:=by rw [hW];exact List.length_filter_le _ _
 refine eA 0 h s Tryz.underlying22 rfl rfl rfl fun f h=>e9 ab 1 h rfl fun f h=>wpIn_block (wpIn_loop_ghost (fun nn aa ww=>∃ k:Nat,∃ vb:Value,Sl 63 aa [(0,vh),(1,.agg (aB x)),(3,.pointer (some ⟨b3,0,none⟩)),(6,.pointer (some ⟨b6,0,none⟩)),(7,vb),(8,.bool (AC W (dx l x) k)),(31,v31),(32,.int .i64 (W.length:Int)),(33,.int .i64 (k:Int))]∧St w [.sl v31 67 67 W.length (aJ W),.sl vb 67 67 (nc W (dx l x) k).length (aJ (nc W (dx l x) k)),.blk b6 (.cells (aB (ey l x.1 x.2.1)) 67),.blk b3 (.cells (aB (dx l x)) 67)] ww∧nn=W.length - k∧k≤W.length) (W.length - (0)) ⟨0,v25,h.only ⟨rfl,rfl,rfl,rfl,rfl,rfl,rfl,rfl,aq rfl (by omega),trivial⟩,s.as ⟨rfl,rfl,rfl,rfl,trivial⟩,rfl,Nat.zero_le _⟩ ?_)
 rintro _ f w1 ⟨k,vb,h,s,hnn,hp0⟩
 refine bH ab 1 h rfl fun f h=>al (cV h rfl (fun hc=>?_) (fun hc=>?_))
 ·refine kt (al (wpIn_block (qr ?_)))
  have hkw:k<W.length:=by omega
  refine ae h (a7 (bI.of_own (s.getSl 0 rfl)) (k) Tryz.underlying22 dZ (h.ev rfl) (h.ev rfl) (by omega) (by omega)) rfl fun f h=>ar ((bI.of_own (s.getSl 0 rfl)).el (k) (by omega) (by decide) (D:=aB (W.getD k aW)) (dX W k hkw)) h a8 rfl (ao _) rfl fun f h=>aK (aB aW) h s eL rfl rfl fun f w1 b10 h s=>aj 0 h s a8 rfl rfl rfl (ao _) (ao _) (bm _) fun w1 s=>nt (al (al ?_))
  refine aF (cZ ab h rfl (fun dn f h=>?_) (fun dn f h=>?_))
  ·skip
   refine am ab 2 h rfl fun f h=>bf h rfl (ak 4 h s a8 rfl rfl (ao _) rfl fun f h=>bf h rfl (ak 0 h s a8 rfl rfl (ao _) rfl fun f h=>bf h rfl (gg h s EH (m6 (dx l x) (W.getD k aW) _) rfl rfl (fun hl f w1 h s=>?_) (fun hl f w1 h s=>?_))))
   ·refine e9 ab 1 h rfl fun f h=>iU h rfl (rs ab 1 h rfl fun f h=>ak 0 h s a8 rfl rfl (ao _) rfl fun f h=>bn (vs:=[.agg (aB (W.getD k aW))]) [.tmp 49] h s Tryz.underlying22 ex rfl rfl (lN _) rfl rfl rfl fun f w1 v50 h s=>cq 3 0 h s Tryz.underlying22 ex rfl rfl rfl rfl (by decide) (by rw [eC];exact bm _) (by have h9:=mG W (dx l x) k;first|(unfold maxLen;omega)|(simp only [List.length_append,List.length_cons,List.length_nil];unfold maxLen;omega)) (by have h9:=mG W (dx l x) k;first|omega|(simp only [List.length_append,List.length_cons,List.length_nil];omega)) rfl fun f w1 v51 h s=>?_)
    replace s:=s.pick _ (List.sublist_cons_self _ _)
    replace s:=s.resl (m:=(nc W (dx l x) (k+1)).length) (ys:=aJ (nc W (dx l x) (k+1))) 2 rfl (by rw [HV hkw dn hl];simp only [List.length_append,List.length_cons,List.length_nil]) (by rw [HV hkw dn hl,eC,hQ])
    refine am ab 1 h rfl fun f h=>av (ba (aE (aF (ae h (a6 (h.ev rfl) (h.ev rfl) (by omega)) rfl fun f h=>e9 ab 1 h rfl fun f h=>?_))))
    exact ⟨_,by omega,⟨k+1,v51,h.only ⟨rfl,rfl,rfl,rfl,rfl,d5 rfl (by rw [mj hkw,dn,hl];rfl),rfl,rfl,aq rfl (by omega),trivial⟩,St.as (s.pick _ (List.sublist_append_right [_] _)) ⟨rfl,rfl,rfl,rfl,trivial⟩,rfl,by omega⟩⟩
   ·refine e9 ab 1 h rfl fun f h=>cy h rfl (bZ ab 1 h rfl fun f h=>ak 4 h s a8 rfl rfl (ao _) rfl fun f h=>bn (vs:=[.agg (aB (dx l x))]) [.tmp 45] h s Tryz.underlying22 ex rfl rfl (lN _) rfl rfl rfl fun f w1 v46 h s=>cq 3 0 h s Tryz.underlying22 ex rfl rfl rfl rfl (by decide) (by rw [eC];exact bm _) (by have h9:=mG W (dx l x) k;first|(unfold maxLen;omega)|(simp only [List.length_append,List.length_cons,List.length_nil];unfold maxLen;omega)) (by have h9:=mG W (dx l x) k;first|omega|(simp only [List.length_append,List.length_cons,List.length_nil];omega)) rfl fun f w1 v47 h s=>?_)
    replace s:=s.pick _ (List.sublist_cons_self _ _)
    replace s:=s.resl (m:=((nc W (dx l x) k)++[(dx l x)]).length) (ys:=aJ ((nc W (dx l x) k)++[(dx l x)])) 2 rfl (by rw [List.length_append];rfl) (by rw [eC,hQ])
    refine e9 ab 1 h rfl fun f h=>re ab 1 h rfl fun f h=>rs ab 1 h rfl fun f h=>ak 0 h s a8 rfl rfl (ao _) rfl fun f h=>bn (vs:=[.agg (aB (W.getD k aW))]) [.tmp 49] h s Tryz.underlying22 ex rfl rfl (lN _) rfl rfl rfl fun f w1 v50 h s=>cq 3 0 h s Tryz.underlying22 ex rfl rfl rfl rfl (by decide) (by rw [eC];exact bm _) (by have h9:=mG W (dx l x) k;first|(unfold maxLen;omega)|(simp only [List.length_append,List.length_cons,List.length_nil];unfold maxLen;omega)) (by have h9:=mG W (dx l x) k;first|omega|(simp only [List.length_append,List.length_cons,List.length_nil];omega)) rfl fun f w1 v51 h s=>?_
    replace s:=s.pick _ (List.sublist_cons_self _ _)
    replace s:=s.resl (m:=(nc W (dx l x) (k+1)).length) (ys:=aJ (nc W (dx l x) (k+1))) 2 rfl (by rw [zp hkw dn hl];simp only [List.length_append,List.length_cons,List.length_nil]) (by rw [zp hkw dn hl,eC,hQ])
    refine am ab 1 h rfl fun f h=>av (ba (aE (aF (ae h (a6 (h.ev rfl) (h.ev rfl) (by omega)) rfl fun f h=>e9 ab 1 h rfl fun f h=>?_))))
    exact ⟨_,by omega,⟨k+1,v51,h.only ⟨rfl,rfl,rfl,rfl,rfl,d5 rfl (by rw [mj hkw,dn,hl];rfl),rfl,rfl,aq rfl (by omega),trivial⟩,St.as (s.pick _ (List.sublist_append_right [_] _)) ⟨rfl,rfl,rfl,rfl,trivial⟩,rfl,by omega⟩⟩
  ·refine e9 ab 6 h rfl fun f h=>iU h rfl (rs ab 1 h rfl fun f h=>ak 0 h s a8 rfl rfl (ao _) rfl fun f h=>bn (vs:=[.agg (aB (W.getD k aW))]) [.tmp 49] h s Tryz.underlying22 ex rfl rfl (lN _) rfl rfl rfl fun f w1 v50 h s=>cq 3 0 h s Tryz.underlying22 ex rfl rfl rfl rfl (by decide) (by rw [eC];exact bm _) (by have h9:=mG W (dx l x) k;first|(unfold maxLen;omega)|(simp only [List.length_append,List.length_cons,List.length_nil];unfold maxLen;omega)) (by have h9:=mG W (dx l x) k;first|omega|(simp only [List.length_append,List.length_cons,List.length_nil];omega)) rfl fun f w1 v51 h s=>?_)
   replace s:=s.pick _ (List.sublist_cons_self _ _)
   replace s:=s.resl (m:=(nc W (dx l x) (k+1)).length) (ys:=aJ (nc W (dx l x) (k+1))) 2 rfl (by rw [yo hkw dn];simp only [List.length_append,List.length_cons,List.length_nil]) (by rw [yo hkw dn,eC,hQ])
   refine am ab 1 h rfl fun f h=>av (ba (aE (aF (ae h (a6 (h.ev rfl) (h.ev rfl) (by omega)) rfl fun f h=>e9 ab 1 h rfl fun f h=>?_))))
   exact ⟨_,by omega,⟨k+1,v51,h.only ⟨rfl,rfl,rfl,rfl,rfl,d5 rfl (by rw [mj hkw,dn];rfl),rfl,rfl,aq rfl (by omega),trivial⟩,St.as (s.pick _ (List.sublist_append_right [_] _)) ⟨rfl,rfl,rfl,rfl,trivial⟩,rfl,by omega⟩⟩
 ·refine wpIn_exit (aU (aU (bR (aE (al (al ?_))))))
  cases de:((AC W (dx l x) W.length):Bool)
  ·refine aF ?_
   obtain rfl:k=W.length:=by omega
   refine gE ab h rfl de fun f h=>e9 ab 1 h rfl fun f h=>cy h rfl (rs ab 1 h rfl fun f h=>ak 3 h s a8 rfl rfl (ao _) rfl fun f h=>bn (vs:=[.agg (aB (dx l x))]) [.tmp 56] h s Tryz.underlying22 ex rfl rfl (lN _) rfl rfl rfl fun f w1 v57 h s=>cq 2 0 h s Tryz.underlying22 ex rfl rfl rfl rfl (by decide) (by rw [eC];exact bm _) (by have h9:=mG W (dx l x) W.length;first|(unfold maxLen;omega)|(simp only [List.length_append,List.length_cons,List.length_nil];unfold maxLen;omega)) (by have h9:=mG W (dx l x) W.length;first|omega|(simp only [List.length_append,List.length_cons,List.length_nil];omega)) rfl fun f w1 v58 h s=>?_)
   replace s:=s.pick _ (List.sublist_cons_self _ _)
   replace s:=s.resl (m:=((nc W (dx l x) W.length)++[(dx l x)]).length) (ys:=aJ ((nc W (dx l x) W.length)++[(dx l x)])) 1 rfl (by rw [List.length_append];rfl) (by rw [eC,hQ])
   refine e9 ab 1 h rfl fun f h=>bZ ab 2 h rfl fun f h=>eA 1 h s Tryz.underlying22 rfl rfl rfl fun f h=>e9 ab 3 h rfl fun f h=>wpIn_ret (dr rfl h s rfl rfl ((by have he:=DP (W:=W) (y:=(dx l x));rw [de] at he;exact wo (K:=((nc W (dx l x) W.length)++[(dx l x)])) ((by rw [hW];rfl:dL l x=fE W (dx l x)).trans he) (s.getSl 1 rfl))))
  ·refine aF ?_
   obtain rfl:k=W.length:=by omega
   refine fm ab h rfl de fun f h=>e9 ab 1 h rfl fun f h=>iU h rfl (bZ ab 2 h rfl fun f h=>eA 1 h s Tryz.underlying22 rfl rfl rfl fun f h=>e9 ab 3 h rfl fun f h=>wpIn_ret (dr rfl h s rfl rfl ((by have he:=DP (W:=W) (y:=(dx l x));rw [de] at he;exact wo (K:=(nc W (dx l x) W.length)) ((by rw [hW];rfl:dL l x=fE W (dx l x)).trans he) (s.getSl 1 rfl)))))
set_option maxHeartbeats 1000000 in
theorem um (l:List Tg) (vh:Value) (x:Id) (w:World) (hR:bI w vh 67 l.length (aJ l)) (hln:l.length≤1000):Calls Tryz.prog 84 [vh,gp x].toArray w (cp w (fun v w'=>cB w' w.heap.size 67 67 v (jU l x).length (aJ (jU l x)))):=by
 refine bF Tryz.func84 rfl Tryz.ntmps84 rfl fun f h s=>qr (aZ (aA x) h s rfl rfl rfl fun f w1 b3 h s=>e9 ab 1 h rfl fun f h=>qr (bn (vs:=[]) [] h s Tryz.underlying22 ex rfl rfl (by simp) rfl rfl rfl fun f w1 v9 h s=>?_))
 replace s:=s.resl (m:=([]:List Tg).length) (ys:=aJ ([]:List Tg)) 0 rfl (rfl) (rfl)
 refine e9 ab 1 h rfl fun f h=>al (bH ab 1 h rfl fun f h=>wpIn_block (wpIn_loop_ghost (fun nn aa ww=>∃ j:Nat,∃ vb:Value,Sl 50 aa [(1,gp x),(3,.pointer (some ⟨b3,0,none⟩)),(0,vh),(5,vb),(6,.int .i64 (((127+j):Nat):Int))]∧St w [.sl vb 67 67 ([]:List Tg).length (aJ []),.blk b3 (.cells (aA x) 26)] ww∧nn=j∧j≤129∧∀ i,j≤i→i<129→fb l x (128+i)=[]) ((129)) ⟨129,v9,h.only ⟨rfl,rfl,rfl,rfl,rfl,trivial⟩,s.as ⟨rfl,rfl,trivial⟩,rfl,Nat.le_refl _,fun i h1 h2=>absurd h2 (by omega)⟩ ?_))
 rintro _ f w1 ⟨j,vb,h,s,hnn,hp0,hp1⟩
 refine al (bH ab 2 h rfl fun f h=>cV h rfl (fun hc=>?_) (fun hc=>?_))
 ·refine kt (al (wpIn_block (al (qr ?_))))
  have hj1:1≤j:=by omega
  have hj0:=hp0
  have hjA:=hp1
  refine am ab 1 h rfl fun f h=>dN h (hR.keep s.ext) Tryz.underlying22 rfl rfl fun f h=>e9 ab 1 h rfl fun f h=>wpIn_block (wpIn_loop_ghost (fun nn aa ww=>∃ k:Nat,∃ vc:Value,Sl 50 aa [(1,gp x),(3,.pointer (some ⟨b3,0,none⟩)),(0,vh),(5,vc),(6,.int .i64 (((127+j):Nat):Int)),(14,vh),(15,.int .i64 (l.length:Int)),(16,.int .i64 (k:Int))]∧St w [.sl vc 67 67 (fb (l.take k) x (127+j)).length (aJ (fb (l.take k) x (127+j))),.blk b3 (.cells (aA x) 26)] ww∧nn=l.length - k∧k≤l.length) (l.length - (0)) ⟨0,vb,h.only ⟨rfl,rfl,rfl,rfl,rfl,rfl,rfl,aq rfl (by omega),trivial⟩,s.as ⟨rfl,rfl,trivial⟩,rfl,Nat.zero_le _⟩ ?_)
  rintro _ f w1 ⟨k,vc,h,s,hnn,hp0⟩
  refine bH ab 1 h rfl fun f h=>al (cV h rfl (fun hc=>?_) (fun hc=>?_))
  ·refine kt (al (wpIn_block (qr ?_)))
   have hkl:k<l.length:=by omega
   refine ae h (a7 (hR.keep s.ext) (k) Tryz.underlying22 dZ (h.ev rfl) (h.ev rfl) (by omega) (by omega)) rfl fun f h=>ar ((hR.keep s.ext).el (k) (by omega) (by decide) (D:=aB (l.getD k aW)) (dX l k hkl)) h a8 rfl (ao _) rfl fun f h=>aK (aB aW) h s eL rfl rfl fun f w1 b8 h s=>aj 0 h s a8 rfl rfl rfl (ao _) (ao _) (bm _) fun w1 s=>nt (al ?_)
   refine eo 20 h (by kernel_rfl) (az ab 1 h rfl fun f h=>bj (aG.subL (aG.of_own s 0 rfl) 0 32 (D:=aA (_)) (dV _)) h aN rfl (by first|exact ai _|exact ah _ _) rfl fun f h=>bh 2 h s aN rfl rfl (by first|exact ai _|exact ah _ _) rfl fun f h=>aY h Jg (fun w9 hE9=>uE (l.getD k aW).1 x w9) rfl rfl fun f h=>az ab 1 h rfl fun f h=>FK ab (decide (iH (l.getD k aW).1 x=(127+j))) h rfl ((decide_eq_decide.2 (by omega))) (fun c0 f h=>?_) (fun c0 f h=>?_))
   ·refine az ab 14 h rfl fun f h=>cj s fun w1 s=>A8 h rfl (wpIn_skip (ba (aE (aF (ae h (a6 (h.ev rfl) (h.ev rfl) (by omega)) rfl fun f h=>e9 ab 1 h rfl fun f h=>?_)))))
    exact ⟨_,by omega,⟨k+1,vc,h.only ⟨rfl,rfl,rfl,rfl,rfl,rfl,rfl,aq rfl (by omega),trivial⟩,St.as (s.pick _ (List.sublist_append_right [_] _)) ⟨eJ (by rw [u6 hkl (of_decide_eq_false c0)]) (by rw [u6 hkl (of_decide_eq_false c0)]),rfl,trivial⟩,rfl,by omega⟩⟩
   ·skip
    refine az ab 2 h rfl fun f h=>bA h rfl (au h (jf (bI.of_own (s.getSl 1 rfl)) Tryz.underlying22 (h.ev rfl)) rfl fun f h=>bA h rfl (FK ab (decide ((fb (l.take k) x (127+j)).length=0)) h rfl ((decide_eq_decide.2 (by omega))) (fun c1 f h=>?_) (fun c1 f h=>?_)))
    ·skip
     cases c2:(decide (((fb (l.take k) x (127+j)).getD 0 aW).1=(l.getD k aW).1):Bool)
     ·refine az ab 1 h rfl fun f h=>bA h rfl ?_
      have hm0:=of_decide_eq_false c1
      refine az ab 1 h rfl fun f h=>bA h rfl (au h (a7 (bI.of_own (s.getSl 1 rfl)) (0) Tryz.underlying22 dZ (h.ev rfl) (h.ev rfl) (rfl) (by have:=of_decide_eq_false c1;omega)) rfl fun f h=>bA h rfl (au h (bM tV (h.ev rfl) ((bI.of_own (s.getSl 1 rfl)).some (by omega))) rfl fun f h=>bA h rfl (bj (bI.elF (bI.of_own (s.getSl 1 rfl)) (0) 0 32 (by omega) (by decide) (C:=aB ((fb (l.take k) x (127+j)).getD 0 aW)) (dX (fb (l.take k) x (127+j)) 0 (by have:=of_decide_eq_false c1;omega)) (D:=aA ((fb (l.take k) x (127+j)).getD 0 aW).1) (dV _)) h aN rfl (by first|exact ai _|exact ah _ _) rfl fun f h=>az ab 1 h rfl fun f h=>bA h rfl (bj (aG.subL (aG.of_own s 0 rfl) 0 32 (D:=aA (_)) (dV _)) h aN rfl (by first|exact ai _|exact ah _ _) rfl fun f h=>bA h rfl (au h (aV (.bool false) (cn d8 (h.ev rfl) (h.ev rfl)) (congrArg Value.bool c2)) rfl fun f h=>az ab 2 h rfl fun f h=>cj s fun w1 s=>A8 h rfl (wpIn_skip (ba (aE (aF (ae h (a6 (h.ev rfl) (h.ev rfl) (by omega)) rfl fun f h=>e9 ab 1 h rfl fun f h=>?_))))))))))
      exact ⟨_,by omega,⟨k+1,vc,h.only ⟨rfl,rfl,rfl,rfl,rfl,rfl,rfl,aq rfl (by omega),trivial⟩,St.as (s.pick _ (List.sublist_append_right [_] _)) ⟨eJ (by rw [Io hkl (of_decide_eq_true c0) (of_decide_eq_false c1) c2]) (by rw [Io hkl (of_decide_eq_true c0) (of_decide_eq_false c1) c2]),rfl,trivial⟩,rfl,by omega⟩⟩
     ·refine az ab 1 h rfl fun f h=>bA h rfl ?_
      have hm0:=of_decide_eq_false c1
      refine az ab 1 h rfl fun f h=>bA h rfl (au h (a7 (bI.of_own (s.getSl 1 rfl)) (0) Tryz.underlying22 dZ (h.ev rfl) (h.ev rfl) (rfl) (by have:=of_decide_eq_false c1;omega)) rfl fun f h=>bA h rfl (au h (bM tV (h.ev rfl) ((bI.of_own (s.getSl 1 rfl)).some (by omega))) rfl fun f h=>bA h rfl (bj (bI.elF (bI.of_own (s.getSl 1 rfl)) (0) 0 32 (by omega) (by decide) (C:=aB ((fb (l.take k) x (127+j)).getD 0 aW)) (dX (fb (l.take k) x (127+j)) 0 (by have:=of_decide_eq_false c1;omega)) (D:=aA ((fb (l.take k) x (127+j)).getD 0 aW).1) (dV _)) h aN rfl (by first|exact ai _|exact ah _ _) rfl fun f h=>az ab 1 h rfl fun f h=>bA h rfl (bj (aG.subL (aG.of_own s 0 rfl) 0 32 (D:=aA (_)) (dV _)) h aN rfl (by first|exact ai _|exact ah _ _) rfl fun f h=>bA h rfl (au h (aV (.bool true) (cn d8 (h.ev rfl) (h.ev rfl)) (congrArg Value.bool c2)) rfl fun f h=>az ab 2 h rfl fun f h=>cj s fun w1 s=>wy h rfl (rs ab 1 h rfl fun f h=>ak 0 h s a8 rfl rfl (ao _) rfl fun f h=>bn (vs:=[.agg (aB (l.getD k aW))]) [.tmp 41] h s Tryz.underlying22 ex rfl rfl (lN _) rfl rfl rfl fun f w1 v42 h s=>cq 2 0 h s Tryz.underlying22 ex rfl rfl rfl rfl (by decide) (by rw [eC];exact bm _) (by have h9:=pT l x (127+j) k;unfold maxLen;omega) (by have h9:=pT l x (127+j) k;omega) rfl fun f w1 v43 h s=>?_))))))
      replace s:=s.pick _ (List.sublist_cons_self _ _)
      replace s:=s.resl (m:=(fb (l.take (k+1)) x (127+j)).length) (ys:=aJ (fb (l.take (k+1)) x (127+j))) 1 rfl (by rw [H1 hkl (of_decide_eq_true c0) (of_decide_eq_false c1) c2,List.length_append];rfl) (by rw [H1 hkl (of_decide_eq_true c0) (of_decide_eq_false c1) c2,eC,hQ])
      refine am ab 1 h rfl fun f h=>av (ba (aE (aF (ae h (a6 (h.ev rfl) (h.ev rfl) (by omega)) rfl fun f h=>e9 ab 1 h rfl fun f h=>?_))))
      exact ⟨_,by omega,⟨k+1,v43,h.only ⟨rfl,rfl,rfl,rfl,rfl,rfl,rfl,aq rfl (by omega),trivial⟩,St.as (s.pick _ (List.sublist_append_right [_] _)) ⟨rfl,rfl,trivial⟩,rfl,by omega⟩⟩
    ·refine az ab 10 h rfl fun f h=>cj s fun w1 s=>wy h rfl (rs ab 1 h rfl fun f h=>ak 0 h s a8 rfl rfl (ao _) rfl fun f h=>bn (vs:=[.agg (aB (l.getD k aW))]) [.tmp 41] h s Tryz.underlying22 ex rfl rfl (lN _) rfl rfl rfl fun f w1 v42 h s=>cq 2 0 h s Tryz.underlying22 ex rfl rfl rfl rfl (by decide) (by rw [eC];exact bm _) (by have h9:=pT l x (127+j) k;unfold maxLen;omega) (by have h9:=pT l x (127+j) k;omega) rfl fun f w1 v43 h s=>?_)
     replace s:=s.pick _ (List.sublist_cons_self _ _)
     replace s:=s.resl (m:=(fb (l.take (k+1)) x (127+j)).length) (ys:=aJ (fb (l.take (k+1)) x (127+j))) 1 rfl (by rw [zF hkl (of_decide_eq_true c0) (of_decide_eq_true c1),List.length_append];rfl) (by rw [zF hkl (of_decide_eq_true c0) (of_decide_eq_true c1),eC,hQ])
     refine am ab 1 h rfl fun f h=>av (ba (aE (aF (ae h (a6 (h.ev rfl) (h.ev rfl) (by omega)) rfl fun f h=>e9 ab 1 h rfl fun f h=>?_))))
     exact ⟨_,by omega,⟨k+1,v43,h.only ⟨rfl,rfl,rfl,rfl,rfl,rfl,rfl,aq rfl (by omega),trivial⟩,St.as (s.pick _ (List.sublist_append_right [_] _)) ⟨rfl,rfl,trivial⟩,rfl,by omega⟩⟩
  ·refine wpIn_exit (aU (aU (bR (aE (qr ?_)))))
   obtain rfl:k=l.length:=by omega
   rw [List.take_length] at s
   refine am ab 1 h rfl fun f h=>eA 0 h s Tryz.underlying22 rfl rfl rfl fun f h=>e9 ab 1 h rfl fun f h=>cd h rfl (fun hc=>?_) (fun hc=>?_)
   ·have hne:fb l x (127+j)≠[]:=fun e9=>by rw [e9] at hc;exact absurd (of_decide_eq_true hc) (by decide)
    refine bH ab 2 h rfl fun f h=>wpIn_ret (ck (bK (bK (ck (bK (aH rfl h s rfl ((by rw [Kl hj1 hj0 hjA hne];exact s.getSl 0 rfl))))))))
   ·have hnil:fb l x (127+j)=[]:=List.length_eq_zero_iff.1 (by have:=of_decide_eq_false hc;omega)
    refine wpIn_skip (ba (aE (rs ab 1 h rfl fun f h=>ae h (ea (h.ev rfl) (h.ev rfl) (by omega)) rfl fun f h=>e9 ab 1 h rfl fun f h=>?_)))
    exact ⟨_,by omega,⟨j - 1,vc,h.only ⟨rfl,rfl,rfl,rfl,aq rfl (by omega),trivial⟩,St.as s ⟨eJ (by rw [hnil]) (by rw [hnil]),rfl,trivial⟩,rfl,by omega,Gh hj1 hnil hjA⟩⟩
 ·refine wpIn_exit (aU (aU (bR (aE (bH ab 2 h rfl fun f h=>wpIn_ret (aH rfl h s rfl ((by rw [G4 fun i hi=>hp1 i (by omega) hi];exact s.getSl 0 rfl))))))))
end Go.Proofs.YtobfeflheaobiaaGreatDoor
