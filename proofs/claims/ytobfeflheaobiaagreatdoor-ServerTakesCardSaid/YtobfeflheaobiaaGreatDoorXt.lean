/- How package table compares triggers; which tables may be, what is put, dropped, over, matched, on a way. -/
import Derived.Test.YtobfeflheaobiaaGreatDoorVi
set_option linter.unusedVariables false
set_option linter.unusedSimpArgs false
set_option linter.unusedSectionVars false
namespace Go.Proofs.YtobfeflheaobiaaGreatDoor
open Go.RowKit
theorem uZ (x:Int) (w:World):Calls Tryz.prog 120 [.int .i64 x].toArray w (cp w (is (.bool false))):=by
 refine bF Tryz.func120 rfl Tryz.ntmps120 rfl fun f h s=>bH ab 1 h rfl fun f h=>bZ ab 2 h rfl fun f h=>qh ab (.bool false) h rfl (by simp) rfl fun f h=>e9 ab 1 h rfl fun f h=>wpIn_ret (aH rfl h s rfl (rfl))
theorem uI (x y:Int) (w:World):Calls Tryz.prog 103 [.int .i64 x,.int .i64 y].toArray w (cp w (is (.int .i64 (er x y)))):=by
 refine bF Tryz.func103 rfl Tryz.ntmps103 rfl fun f h s=>bH ab 1 h rfl fun f h=>bZ ab 1 h rfl fun f h=>c7 h s Er (uZ _ _) rfl rfl fun f w1 h s=>e9 ab 1 h rfl fun f h=>bZ ab 1 h rfl fun f h=>c7 h s Er (uZ _ _) rfl rfl fun f w1 h s=>e9 ab 1 h rfl fun f h=>al (bH ab 1 h rfl fun f h=>iU h rfl (al (bH ab 1 h rfl fun f h=>iU h rfl (al (bH ab 3 h rfl fun f h=>cd h rfl (fun hc=>?_) (fun hc=>?_))))))
 ·have hc:=of_decide_eq_true hc
  refine bH ab 1 h rfl fun f h=>rt (aH rfl h s rfl (by show _=_;unfold er;rw [if_pos hc]))
 ·have hc1:=of_decide_eq_false hc
  refine kt (al (bH ab 3 h rfl fun f h=>cV h rfl (fun hc=>?_) (fun hc=>?_)))
  ·refine bH ab 1 h rfl fun f h=>rt (aH rfl h s rfl (by show _=_;unfold er;rw [if_neg (by omega),if_pos (by omega)]))
  ·refine kt (bH ab 1 h rfl fun f h=>wpIn_ret (aH rfl h s rfl (by show _=_;unfold er;rw [if_neg (by omega),if_neg (by omega)])))
theorem lB (e:cU) (w:World):Calls Tryz.prog 45 [.agg (bg e)].toArray w (cp w (is (.bool (fK e)))):=by
 refine bF Tryz.func45 rfl Tryz.ntmps45 rfl fun f h s=>qr (aZ (bg e) h s rfl rfl rfl fun f w1 b1 h s=>e9 ab 1 h rfl fun f h=>al (bZ ab 1 h rfl fun f h=>ag (ac (aG.of_own s 0 rfl) 0 (d7 _)) h bo rfl rfl fun f h=>nt (wpIn_block (bH ab 2 h rfl fun f h=>cV h rfl (fun hc=>?_) (fun hc=>?_)))))
 ·refine bZ ab 1 h rfl fun f h=>ag (ac (aG.of_own s 0 rfl) 33 (dO _)) h bo rfl rfl fun f h=>e9 ab 2 h rfl fun f h=>wpIn_ret (ck (bK (aH rfl h s rfl (by show _=_;rw [sQ _ hc]))))
 ·have hk:=hc
  refine bH ab 2 h rfl fun f h=>cV h rfl (fun hc=>?_) (fun hc=>?_)
  ·refine al ?_
   cases hz:(decide (e.2.1=0#256):Bool)
   ·refine rs ab 1 h rfl fun f h=>ar (aG.subL (aG.of_own s 0 rfl) 1 32 (D:=aA (_)) (fR _)) h aN rfl (by first|exact ai _|exact ah _ _) rfl fun f h=>ae h (dA d8) rfl fun f h=>ae h (aV (.bool false) (cn d8 (h.ev rfl) (h.ev rfl)) (congrArg Value.bool hz)) rfl fun f h=>e9 ab 11 h rfl fun f h=>wpIn_ret (ck (bK (aH rfl h s rfl (by show _=_;rw [mu _ hc,hz];rfl))))
   ·skip
    refine rs ab 1 h rfl fun f h=>ar (aG.subL (aG.of_own s 0 rfl) 1 32 (D:=aA (_)) (fR _)) h aN rfl (by first|exact ai _|exact ah _ _) rfl fun f h=>ae h (dA d8) rfl fun f h=>ae h (aV (.bool true) (cn d8 (h.ev rfl) (h.ev rfl)) (congrArg Value.bool hz)) rfl fun f h=>am ab 2 h rfl fun f h=>bf h rfl (ag (ac (aG.of_own s 0 rfl) 33 (dO _)) h bo rfl rfl fun f h=>bf h rfl (cZ ab h rfl (fun hg f h=>?_) (fun hg f h=>?_)))
    ·refine e9 ab 7 h rfl fun f h=>wpIn_ret (ck (bK (aH rfl h s rfl (by show _=_;rw [mu _ hc,hz,hg];rfl))))
    ·refine am ab 3 h rfl fun f h=>bf h rfl (ag (ac (aG.of_own s 0 rfl) 33 (dO _)) h bo rfl rfl fun f h=>e9 ab 3 h rfl fun f h=>wpIn_ret (ck (bK (aH rfl h s rfl (by show _=_;rw [mu _ hc,hz,hg];rfl)))))
  ·refine wpIn_skip (ba (aE (bH ab 1 h rfl fun f h=>wpIn_ret (aH rfl h s rfl (by show _=_;rw [vp _ hk hc])))))
theorem AK (x y:Tg) (w:World):Calls Tryz.prog 80 [.agg (aB x),.agg (aB y)].toArray w (cp w (is (.int .i64 (oV x y 0)))):=by
 refine bF Tryz.func80 rfl Tryz.ntmps80 rfl fun f h s=>qr (aZ (aB x) h s rfl rfl rfl fun f w1 b2 h s=>aZ (aB y) h s rfl rfl rfl fun f w1 b3 h s=>e9 ab 1 h rfl fun f h=>bZ ab 1 h rfl fun f h=>ar (aG.subL (aG.of_own s 1 rfl) 0 32 (D:=aA (_)) (dV _)) h aN rfl (by first|exact ai _|exact ah _ _) rfl fun f h=>am ab 1 h rfl fun f h=>ar (aG.subL (aG.of_own s 0 rfl) 0 32 (D:=aA (_)) (dV _)) h aN rfl (by first|exact ai _|exact ah _ _) rfl fun f h=>c7 h s Iz (o3 x.1 y.1 _) rfl rfl fun f w1 h s=>e9 ab 1 h rfl fun f h=>wpIn_ret (aH rfl h s rfl (rfl)))
theorem uj (x y:Tg) (w:World):Calls Tryz.prog 81 [.agg (aB x),.agg (aB y)].toArray w (cp w (is (.int .i64 (oV x y 1)))):=by
 refine bF Tryz.func81 rfl Tryz.ntmps81 rfl fun f h s=>qr (aZ (aB x) h s rfl rfl rfl fun f w1 b2 h s=>aZ (aB y) h s rfl rfl rfl fun f w1 b3 h s=>e9 ab 1 h rfl fun f h=>bZ ab 2 h rfl fun f h=>ag (ac (aG.of_own s 1 rfl) 32 (gI _)) h bo rfl rfl fun f h=>am ab 2 h rfl fun f h=>ag (ac (aG.of_own s 0 rfl) 32 (gI _)) h bo rfl rfl fun f h=>c7 h s CP (uI x.2.1.1 y.2.1.1 _) rfl rfl fun f w1 h s=>e9 ab 1 h rfl fun f h=>wpIn_ret (aH rfl h s rfl (rfl)))
theorem w5 (x y:Tg) (w:World):Calls Tryz.prog 82 [.agg (aB x),.agg (aB y)].toArray w (cp w (is (.int .i64 (oV x y 2)))):=by
 refine bF Tryz.func82 rfl Tryz.ntmps82 rfl fun f h s=>qr (aZ (aB x) h s rfl rfl rfl fun f w1 b2 h s=>aZ (aB y) h s rfl rfl rfl fun f w1 b3 h s=>e9 ab 1 h rfl fun f h=>bZ ab 2 h rfl fun f h=>ar (aG.subL (aG.of_own s 1 rfl) 33 32 (D:=aA (_)) (md _)) h aN rfl (by first|exact ai _|exact ah _ _) rfl fun f h=>am ab 2 h rfl fun f h=>ar (aG.subL (aG.of_own s 0 rfl) 33 32 (D:=aA (_)) (md _)) h aN rfl (by first|exact ai _|exact ah _ _) rfl fun f h=>c7 h s Iz (o3 x.2.1.2.1 y.2.1.2.1 _) rfl rfl fun f w1 h s=>e9 ab 1 h rfl fun f h=>wpIn_ret (aH rfl h s rfl (rfl)))
theorem u4 (x y:Tg) (w:World):Calls Tryz.prog 83 [.agg (aB x),.agg (aB y)].toArray w (cp w (is (.int .i64 (oV x y 3)))):=by
 refine bF Tryz.func83 rfl Tryz.ntmps83 rfl fun f h s=>qr (aZ (aB x) h s rfl rfl rfl fun f w1 b2 h s=>aZ (aB y) h s rfl rfl rfl fun f w1 b3 h s=>e9 ab 1 h rfl fun f h=>bZ ab 2 h rfl fun f h=>ag (ac (aG.of_own s 1 rfl) 65 (j8 _)) h bo rfl rfl fun f h=>am ab 2 h rfl fun f h=>ag (ac (aG.of_own s 0 rfl) 65 (j8 _)) h bo rfl rfl fun f h=>c7 h s CP (uI x.2.1.2.2 y.2.1.2.2 _) rfl rfl fun f w1 h s=>e9 ab 1 h rfl fun f h=>wpIn_ret (aH rfl h s rfl (rfl)))
theorem zC (x y:Tg) (k:Nat) (hk:k<4) (w:World):Fnc Tryz.prog (OJ 80 81 82 83 k)∧Calls Tryz.prog (OJ 80 81 82 83 k) [.agg (aB x),.agg (aB y)].toArray w (cp w (is (.int .i64 (oV x y k)))):=by
 match k,hk with
 |0,_=>exact ⟨L8,AK x y w⟩
 |1,_=>exact ⟨Nx,uj x y w⟩
 |2,_=>exact ⟨Ln,w5 x y w⟩
 |3,_=>exact ⟨Mc,u4 x y w⟩
theorem fG (x y:Tg) (w:World):Calls Tryz.prog 51 [.agg (aB x),.agg (aB y)].toArray w (cp w (is (.int .i64 (sI x y)))):=by
 refine bF Tryz.func51 rfl Tryz.ntmps51 rfl fun f h s=>qr (aZ (aB x) h s rfl rfl rfl fun f w1 b2 h s=>aZ (aB y) h s rfl rfl rfl fun f w1 b3 h s=>e9 ab 1 h rfl fun f h=>qr (ae h (nW [.func 80,.func 81,.func 82,.func 83] [.func (.func 80) #[] #[],.func (.func 81) #[] #[],.func (.func 82) #[] #[],.func (.func 83) #[] #[]] Tryz.underlying134 yF ⟨_,yZ,rfl⟩ rfl (NZ h rfl) (by simp [Value.cells]) rfl) rfl fun f h=>aK (#[.nilFunc,.nilFunc,.nilFunc,.nilFunc]) h s yZ rfl rfl fun f w1 b5 h s=>aj 0 h s EN rfl rfl rfl (rfl) (rfl) (by decide) fun w1 s=>nt (al (qr (ak 0 h s EN rfl rfl (rfl) rfl fun f h=>e9 ab 1 h rfl fun f h=>wpIn_block (wpIn_loop_ghost (fun nn aa ww=>∃ k:Nat,Sl 22 aa [(0,.agg (aB x)),(1,.agg (aB y)),(2,.pointer (some ⟨b2,0,none⟩)),(3,.pointer (some ⟨b3,0,none⟩)),(5,.pointer (some ⟨b5,0,none⟩)),(10,.agg (#[.func (.func 80) #[] #[],.func (.func 81) #[] #[],.func (.func 82) #[] #[],.func (.func 83) #[] #[]])),(11,.int .i64 (k:Int))]∧St w [.blk b5 (.cells (#[.func (.func 80) #[] #[],.func (.func 81) #[] #[],.func (.func 82) #[] #[],.func (.func 83) #[] #[]]) 134),.blk b3 (.cells (aB y) 67),.blk b2 (.cells (aB x) 67)] ww∧nn=4 - k∧k≤4∧∀ j,j<k→oV x y j=0) (4 - (0)) ⟨0,h.only ⟨rfl,rfl,rfl,rfl,rfl,rfl,aq rfl (by omega),trivial⟩,s.as ⟨rfl,rfl,rfl,trivial⟩,rfl,Nat.zero_le _,fun j hj=>absurd hj (Nat.not_lt_zero _)⟩ ?_))))))
 rintro _ f w1 ⟨k,h,s,hnn,hp0,hp1⟩
 refine bH ab 1 h rfl fun f h=>al (cV h rfl (fun hc=>?_) (fun hc=>?_))
 ·refine kt (al (wpIn_block (qr ?_)))
  have hk4:k<4:=by omega
  obtain ⟨hfn4,_⟩:=zC x y k hk4 w
  refine ae h (vZ k Tryz.underlying134 yF Tryz.underlying131 (h.ev rfl) (h.ev rfl) rfl (by omega) (Kc hk4)) rfl fun f h=>e9 ab 1 h rfl fun f h=>bZ ab 1 h rfl fun f h=>ak 2 h s a8 rfl rfl (ao _) rfl fun f h=>ak 1 h s a8 rfl rfl (ao _) rfl fun f h=>nu [.agg (aB x),.agg (aB y)] (caps:=[]) h s hfn4 rfl (zC x y k hk4 _).2 rfl rfl ?_;intro f w1 v17 hT hE h s;obtain rfl:=hT
  refine e9 ab 1 h rfl fun f h=>bH ab 2 h rfl fun f h=>cd h rfl (fun hc=>?_) (fun hc=>?_)
  ·have hc:=of_decide_eq_true hc
   refine bH ab 2 h rfl fun f h=>wpIn_ret (ck (bK (bK (ck (bK (aH rfl h s rfl (by show _=_;rw [F2 hk4 hp1 hc])))))))
  ·have hc:=Decidable.of_not_not (of_decide_eq_false hc)
   refine wpIn_skip (ba (aE (aF (ae h (a6 (h.ev rfl) (h.ev rfl) (by omega)) rfl fun f h=>e9 ab 1 h rfl fun f h=>?_))))
   exact ⟨_,by omega,⟨k+1,h.only ⟨rfl,rfl,rfl,rfl,rfl,rfl,aq rfl (by omega),trivial⟩,St.as s ⟨rfl,rfl,rfl,trivial⟩,rfl,by omega,GE hp1 hc⟩⟩
 ·refine wpIn_exit (aU (aU (bR (aE (bH ab 1 h rfl fun f h=>wpIn_ret (aH rfl h s rfl (by show _=_;rw [HB (fun j hj=>hp1 j (by omega))])))))))
theorem ib (x:Tg) (w:World):Calls Tryz.prog 50 [.agg (aB x)].toArray w (cp w (is (.bool (ge x)))):=by
 refine bF Tryz.func50 rfl Tryz.ntmps50 rfl fun f h s=>qr (aZ (aB x) h s rfl rfl rfl fun f w1 b1 h s=>e9 ab 1 h rfl fun f h=>al ?_)
 refine rs ab 1 h rfl fun f h=>ar (aG.subL (aG.of_own s 0 rfl) 32 34 (D:=bg (_)) (iT _)) h bY rfl (aC _) rfl fun f h=>gg h s oU (lB x.2.1 _) rfl rfl (fun h0 f w1 h s=>?_) (fun h0 f w1 h s=>?_)
 ·refine e9 ab 11 h rfl fun f h=>wpIn_ret (aH rfl h s rfl (by show _=_;unfold ge;rw [h0]<;>rfl))
 ·skip
  refine am ab 2 h rfl fun f h=>bf h rfl (ag (ac (aG.of_own s 0 rfl) 66 (dD _)) h bo rfl rfl fun f h=>bf h rfl (cZ ab h rfl (fun h1 f h=>?_) (fun h1 f h=>?_)))
  ·refine e9 ab 7 h rfl fun f h=>wpIn_ret (aH rfl h s rfl (by show _=_;unfold ge;rw [h0,h1]<;>rfl))
  ·refine am ab 3 h rfl fun f h=>bf h rfl (ag (ac (aG.of_own s 0 rfl) 66 (dD _)) h bo rfl rfl fun f h=>e9 ab 3 h rfl fun f h=>wpIn_ret (aH rfl h s rfl (by show _=_;unfold ge;rw [h0,h1]<;>rfl)))
theorem gb (l:List Tg) (vh:Value) (w:World) (hR:bI w vh 67 l.length (aJ l)) (hln:l.length≤1000):Calls Tryz.prog 28 [vh].toArray w (cp w (is (.bool (ce l)))):=by
 refine bF Tryz.func28 rfl Tryz.ntmps28 rfl fun f h s=>bH ab 1 h rfl fun f h=>al (bZ ab 1 h rfl fun f h=>dN h (hR.keep s.ext) Tryz.underlying22 rfl rfl fun f h=>e9 ab 1 h rfl fun f h=>cd h rfl (fun hc=>?_) (fun hc=>?_))
 ·have h32:¬ l.length≤32:=by have:=of_decide_eq_true hc;omega
  refine bH ab 1 h rfl fun f h=>rt (aH rfl h s rfl (by first|(unfold ce;rw [decide_eq_false h32,Bool.and_false];rfl)|(obtain rfl:k=l.length:=(by omega);show _=_;rw [oG hp1];exact congrArg Value.bool (decide_eq_true h32).symm)))
 ·have h32:l.length≤32:=by have:=of_decide_eq_false hc;omega
  refine kt (al (bZ ab 1 h rfl fun f h=>dN h (hR.keep s.ext) Tryz.underlying22 rfl rfl fun f h=>e9 ab 1 h rfl fun f h=>wpIn_block (wpIn_loop_ghost (fun nn aa ww=>∃ k:Nat,Sl 33 aa [(0,vh),(8,vh),(9,.int .i64 (l.length:Int)),(10,.int .i64 (k:Int))]∧St w [] ww∧nn=l.length - k∧k≤l.length∧∀ j,j<k→xA l j=true) (l.length - (0)) ⟨0,h.only ⟨rfl,rfl,rfl,aq rfl (by omega),trivial⟩,s.as trivial,rfl,Nat.zero_le _,fun j hj=>absurd hj (Nat.not_lt_zero _)⟩ ?_)))
  rintro _ f w1 ⟨k,h,s,hnn,hp0,hp1⟩
  refine bH ab 1 h rfl fun f h=>al (cV h rfl (fun hc=>?_) (fun hc=>?_))
  ·refine kt (al (wpIn_block (bZ ab 1 h rfl fun f h=>?_)))
   have hkl:k<l.length:=by omega
   refine ae h (a7 (hR.keep s.ext) (k) Tryz.underlying22 dZ (h.ev rfl) (h.ev rfl) (by omega) (by omega)) rfl fun f h=>ar ((hR.keep s.ext).el (k) (by omega) (by decide) (D:=aB (l.getD k aW)) (dX l k hkl)) h a8 rfl (ao _) rfl fun f h=>aK (aB aW) h s eL rfl rfl fun f w1 b4 h s=>am ab 1 h rfl fun f h=>aj 0 h s a8 rfl rfl rfl (ao _) (ao _) (bm _) fun w1 s=>nt (al ?_)
   cases h0:(ge (l.getD k aW):Bool)
   ·refine eo 17 h (by kernel_rfl) (bh 0 h s a8 rfl rfl (ao _) rfl fun f h=>aY h wn (fun w9 hE9=>bG (.bool false) (ib (l.getD k aW) w9) (congrArg Value.bool h0)) rfl rfl fun f h=>az ab 15 h rfl fun f h=>cj s fun w1 s=>wy h rfl (bH ab 1 h rfl fun f h=>wpIn_ret (ck (bK (bK (ck (bK (aH rfl h s rfl (by show _=_;rw [kc hkl (M9 h0)])))))))))
   ·skip
    cases h1:(decide (k=0):Bool)
    ·skip
     cases h2:(fV (l.getD (k - 1) aW) (l.getD k aW):Bool)
     ·refine eo 17 h (by kernel_rfl) (bh 0 h s a8 rfl rfl (ao _) rfl fun f h=>aY h wn (fun w9 hE9=>bG (.bool true) (ib (l.getD k aW) w9) (congrArg Value.bool h0)) rfl rfl fun f h=>az ab 3 h rfl fun f h=>bA h rfl (qu ab h rfl (decide_eq_true (by have:=of_decide_eq_false h1;omega)) fun f h=>az ab 3 h rfl fun f h=>bA h rfl (au h (ea (h.ev rfl) (h.ev rfl) (by omega)) rfl fun f h=>bA h rfl (au h (a7 (hR.keep s.ext) ((k - 1)) Tryz.underlying22 dZ (h.ev rfl) (h.ev rfl) (by have:=of_decide_eq_false h1;omega) (by omega)) rfl fun f h=>bA h rfl (bj ((hR.keep s.ext).el ((k - 1)) (by omega) (by decide) (D:=aB (l.getD (k - 1) aW)) (dX l (k - 1) (by omega))) h a8 rfl (ao _) rfl fun f h=>bA h rfl (bh 0 h s a8 rfl rfl (ao _) rfl fun f h=>bA h rfl (aY h rZ (fun w9 hE9=>fG (l.getD (k - 1) aW) (l.getD k aW) w9) rfl rfl fun f h=>bA h rfl (qu ab h rfl ((Dy _ _).trans (by rw [h2];rfl)) fun f h=>az ab 2 h rfl fun f h=>cj s fun w1 s=>wy h rfl (bH ab 1 h rfl fun f h=>wpIn_ret (ck (bK (bK (ck (bK (aH rfl h s rfl (by show _=_;rw [kc hkl ((GC h0 (of_decide_eq_false h1)).trans h2)]))))))))))))))))
     ·refine eo 17 h (by kernel_rfl) (bh 0 h s a8 rfl rfl (ao _) rfl fun f h=>aY h wn (fun w9 hE9=>bG (.bool true) (ib (l.getD k aW) w9) (congrArg Value.bool h0)) rfl rfl fun f h=>az ab 3 h rfl fun f h=>bA h rfl (qu ab h rfl (decide_eq_true (by have:=of_decide_eq_false h1;omega)) fun f h=>az ab 3 h rfl fun f h=>bA h rfl (au h (ea (h.ev rfl) (h.ev rfl) (by omega)) rfl fun f h=>bA h rfl (au h (a7 (hR.keep s.ext) ((k - 1)) Tryz.underlying22 dZ (h.ev rfl) (h.ev rfl) (by have:=of_decide_eq_false h1;omega) (by omega)) rfl fun f h=>bA h rfl (bj ((hR.keep s.ext).el ((k - 1)) (by omega) (by decide) (D:=aB (l.getD (k - 1) aW)) (dX l (k - 1) (by omega))) h a8 rfl (ao _) rfl fun f h=>bA h rfl (bh 0 h s a8 rfl rfl (ao _) rfl fun f h=>bA h rfl (aY h rZ (fun w9 hE9=>fG (l.getD (k - 1) aW) (l.getD k aW) w9) rfl rfl fun f h=>bA h rfl (vz ab h rfl ((Dy _ _).trans (by rw [h2];rfl)) fun f h=>az ab 2 h rfl fun f h=>cj s fun w1 s=>A8 h rfl (wpIn_skip (ba (aE (aF (ae h (a6 (h.ev rfl) (h.ev rfl) (by omega)) rfl fun f h=>e9 ab 1 h rfl fun f h=>?_)))))))))))))
      exact ⟨_,by omega,⟨k+1,h.only ⟨rfl,rfl,rfl,aq rfl (by omega),trivial⟩,St.as (s.pick _ (List.sublist_append_right [_] _)) trivial,rfl,by omega,nC hp1 ((GC h0 (of_decide_eq_false h1)).trans h2)⟩⟩
    ·refine eo 17 h (by kernel_rfl) (bh 0 h s a8 rfl rfl (ao _) rfl fun f h=>aY h wn (fun w9 hE9=>bG (.bool true) (ib (l.getD k aW) w9) (congrArg Value.bool h0)) rfl rfl fun f h=>az ab 3 h rfl fun f h=>bA h rfl (vz ab h rfl (decide_eq_false (by have:=of_decide_eq_true h1;omega)) fun f h=>az ab 11 h rfl fun f h=>cj s fun w1 s=>A8 h rfl (wpIn_skip (ba (aE (aF (ae h (a6 (h.ev rfl) (h.ev rfl) (by omega)) rfl fun f h=>e9 ab 1 h rfl fun f h=>?_)))))))
     exact ⟨_,by omega,⟨k+1,h.only ⟨rfl,rfl,rfl,aq rfl (by omega),trivial⟩,St.as (s.pick _ (List.sublist_append_right [_] _)) trivial,rfl,by omega,nC hp1 (Mo h0 (of_decide_eq_true h1))⟩⟩
  ·refine wpIn_exit (aU (aU (bR (aE (bH ab 1 h rfl fun f h=>wpIn_ret (aH rfl h s rfl (by first|(unfold ce;rw [decide_eq_false h32,Bool.and_false];rfl)|(obtain rfl:k=l.length:=(by omega);show _=_;rw [oG hp1];exact congrArg Value.bool (decide_eq_true h32).symm))))))))
theorem tF (l:List Tg) (vh:Value) (x:Tg) (w:World) (hR:bI w vh 67 l.length (aJ l)) (hln:l.length≤1000) (hs9:sf l):Calls Tryz.prog 89 [vh,.agg (aB x),.func (.func 51) #[] #[]].toArray w (cp w (fun v _=>∃ n b,v=.tuple #[.int .i64 ((n:Nat):Int),.bool b]∧FndT l x n b)):=by
 refine bF Tryz.func89 rfl Tryz.ntmps89 rfl fun f h s=>qr (aZ (aB x) h s rfl rfl rfl fun f w1 b4 h s=>e9 ab 2 h rfl fun f h=>bZ ab 1 h rfl fun f h=>dN h (hR.keep s.ext) Tryz.underlying22 rfl rfl fun f h=>e9 ab 1 h rfl fun f h=>bH ab 3 h rfl fun f h=>al (wpIn_block (wpIn_loop_ghost (fun nn aa ww=>∃ i:Nat,∃ j:Nat,Sl 49 aa [(1,.agg (aB x)),(4,.pointer (some ⟨b4,0,none⟩)),(0,vh),(2,.func (.func 51) #[] #[]),(8,.int .i64 (l.length:Int)),(9,.int .i64 (i:Int)),(10,.int .i64 (j:Int))]∧St w [.blk b4 (.cells (aB x) 67)] ww∧nn=j - i∧i≤j∧j≤l.length∧(∀ q,q<i→fV (l.getD q aW) x=true)∧∀ q,j≤q→q<l.length→fV (l.getD q aW) x=false) ((l.length) - (0)) ⟨0,l.length,h.only ⟨rfl,rfl,rfl,rfl,rfl,aq rfl (by omega),aq rfl (by omega),trivial⟩,s.as ⟨rfl,trivial⟩,rfl,Nat.zero_le _,Nat.le_refl _,fun q hq=>absurd hq (Nat.not_lt_zero _),fun q h1 h2=>absurd h2 (by omega)⟩ ?_)))
 rintro _ f w1 ⟨i,j,h,s,hnn,hp0,hp1,hp2,hp3⟩
 refine al (bH ab 3 h rfl fun f h=>cV h rfl (fun hc=>?_) (fun hc=>?_))
 ·refine kt (wpIn_block (bZ ab 2 h rfl fun f h=>ae h (a6 (h.ev rfl) (h.ev rfl) (by omega)) rfl fun f h=>ae h (gK Tryz.underlying3 Tryz.underlying163 (h.ev rfl) (IntWalk.u64_in _ (by omega))) rfl fun f h=>ae h (aV (.int .u64 ((((i+j) / 2):Nat):Int)) (xO (h.ev rfl) (h.ev rfl) (by omega)) (congrArg (Value.int .u64) (FM i j))) rfl fun f h=>ae h (gK Tryz.underlying163 Tryz.underlying3 (h.ev rfl) (IntWalk.i64_in _ (by omega))) rfl fun f h=>e9 ab 1 h rfl fun f h=>al ?_))
  cases hq:(fV (l.getD ((i+j) / 2) aW) x:Bool)
  ·refine eo 8 h (by kernel_rfl) (az ab 3 h rfl fun f h=>au h (a7 (hR.keep s.ext) (((i+j) / 2)) Tryz.underlying22 dZ (h.ev rfl) (h.ev rfl) (rfl) (by omega)) rfl fun f h=>bj ((hR.keep s.ext).el (((i+j) / 2)) (by omega) (by decide) (D:=aB (l.getD ((i+j) / 2) aW)) (dX l _ (by omega))) h a8 rfl (ao _) rfl fun f h=>bh 0 h s a8 rfl rfl (ao _) rfl fun f h=>l6 [.agg (aB (l.getD ((i+j) / 2) aW)),.agg (aB x)] (caps:=[]) h rZ rfl (fun w9 h9=>fG _ _ w9) rfl rfl ?_);intro f h
   refine vz ab h rfl ((sW _ _).trans hq) fun f h=>cj s fun w1 s=>A8 h rfl (rs ab 2 h rfl fun f h=>av (ba (aE ?_)))
   exact ⟨_,by omega,⟨i,((i+j) / 2),h.only ⟨rfl,rfl,rfl,rfl,rfl,aq rfl (by omega),aq rfl (by omega),trivial⟩,St.as s ⟨rfl,trivial⟩,rfl,by omega,by omega,hp2,LR hs9 hq⟩⟩
  ·refine eo 8 h (by kernel_rfl) (az ab 3 h rfl fun f h=>au h (a7 (hR.keep s.ext) (((i+j) / 2)) Tryz.underlying22 dZ (h.ev rfl) (h.ev rfl) (rfl) (by omega)) rfl fun f h=>bj ((hR.keep s.ext).el (((i+j) / 2)) (by omega) (by decide) (D:=aB (l.getD ((i+j) / 2) aW)) (dX l _ (by omega))) h a8 rfl (ao _) rfl fun f h=>bh 0 h s a8 rfl rfl (ao _) rfl fun f h=>l6 [.agg (aB (l.getD ((i+j) / 2) aW)),.agg (aB x)] (caps:=[]) h rZ rfl (fun w9 h9=>fG _ _ w9) rfl rfl ?_);intro f h
   refine qu ab h rfl ((sW _ _).trans hq) fun f h=>cj s fun w1 s=>wy h rfl (rs ab 1 h rfl fun f h=>ae h (a6 (h.ev rfl) (h.ev rfl) (by omega)) rfl fun f h=>am ab 1 h rfl fun f h=>av (ba (aE ?_)))
   exact ⟨_,by omega,⟨((i+j) / 2)+1,j,h.only ⟨rfl,rfl,rfl,rfl,rfl,aq rfl (by omega),aq rfl (by omega),trivial⟩,St.as s ⟨rfl,trivial⟩,rfl,by omega,hp1,NL hs9 (by omega) hq,hp3⟩⟩
 ·refine wpIn_exit (aU (aU (bR (aE (al ?_)))))
  refine eo 16 h (by kernel_rfl) (az ab 3 h rfl fun f h=>FK ab (decide (i<l.length)) h rfl ((decide_eq_decide.2 (by omega))) (fun hn f h=>?_) (fun hn f h=>?_))
  ·refine az ab 12 h rfl fun f h=>cj s fun w1 s=>nt (wpIn_ret (dr rfl h s rfl rfl (⟨i,_,rfl,⟨by omega,hp2,fun q h1 h2=>hp3 q (by omega) h2,by rw [hn];rfl⟩⟩)))
  ·skip
   cases he:(jn x.1 x.2.1 (l.getD i aW):Bool)
   ·refine az ab 4 h rfl fun f h=>bA h rfl ?_
    have hil:i<l.length:=of_decide_eq_true hn
    refine au h (a7 (hR.keep s.ext) (i) Tryz.underlying22 dZ (h.ev rfl) (h.ev rfl) (rfl) (by omega)) rfl fun f h=>bA h rfl (bj ((hR.keep s.ext).el (i) (by omega) (by decide) (D:=aB (l.getD i aW)) (dX l i hil)) h a8 rfl (ao _) rfl fun f h=>bA h rfl (bh 0 h s a8 rfl rfl (ao _) rfl fun f h=>bA h rfl (l6 [.agg (aB (l.getD i aW)),.agg (aB x)] (caps:=[]) h rZ rfl (fun w9 h9=>fG _ _ w9) rfl rfl ?_)));intro f h
    refine bA h rfl (vz ab h rfl ((vV _ _).trans he) fun f h=>az ab 3 h rfl fun f h=>cj s fun w1 s=>nt (wpIn_ret (dr rfl h s rfl rfl (⟨i,_,rfl,⟨by omega,hp2,fun q h1 h2=>hp3 q (by omega) h2,by rw [hn,he];rfl⟩⟩))))
   ·refine az ab 4 h rfl fun f h=>bA h rfl ?_
    have hil:i<l.length:=of_decide_eq_true hn
    refine au h (a7 (hR.keep s.ext) (i) Tryz.underlying22 dZ (h.ev rfl) (h.ev rfl) (rfl) (by omega)) rfl fun f h=>bA h rfl (bj ((hR.keep s.ext).el (i) (by omega) (by decide) (D:=aB (l.getD i aW)) (dX l i hil)) h a8 rfl (ao _) rfl fun f h=>bA h rfl (bh 0 h s a8 rfl rfl (ao _) rfl fun f h=>bA h rfl (l6 [.agg (aB (l.getD i aW)),.agg (aB x)] (caps:=[]) h rZ rfl (fun w9 h9=>fG _ _ w9) rfl rfl ?_)));intro f h
    refine bA h rfl (qu ab h rfl ((vV _ _).trans he) fun f h=>az ab 3 h rfl fun f h=>cj s fun w1 s=>nt (wpIn_ret (dr rfl h s rfl rfl (⟨i,_,rfl,⟨by omega,hp2,fun q h1 h2=>hp3 q (by omega) h2,by rw [hn,he];rfl⟩⟩))))
theorem sg (l:List Tg) (vh:Value) (x:Tg) (w:World) (hR:bI w vh 67 l.length (aJ l)) (hln:l.length≤1000) (hs9:sf l):Calls Tryz.prog 62 [vh,.agg (aB x)].toArray w (cp w (fun v _=>∃ n b,v=.tuple #[.int .i64 ((n:Nat):Int),.bool b]∧FndT l x n b)):=by
 refine bF Tryz.func62 rfl Tryz.ntmps62 rfl fun f h s=>qr (aZ (aB x) h s rfl rfl rfl fun f w1 b3 h s=>e9 ab 2 h rfl fun f h=>bZ ab 1 h rfl fun f h=>ak 0 h s a8 rfl rfl (ao _) rfl fun f h=>bq h s Ni (tF l vh x _ (hR.keep s.ext) hln hs9) rfl rfl ?_);rintro f w1 v8 ⟨n,b,rfl,hf9⟩ hE h s
 refine e9 ab 4 h rfl fun f h=>wpIn_ret (dr rfl h s rfl rfl (⟨n,b,rfl,hf9⟩))
theorem rP (l:List Tg) (vh:Value) (g9:Nat) (caps:List Value) (p:Tg→Bool) (w:World) (hR:bI w vh 67 l.length (aJ l)) (hln:l.length≤1000) (hg:Fnc Tryz.prog g9) (hp:∀ w9,Ext w w9→∀ y∈l,Calls Tryz.prog g9 (.agg (aB y)::caps).toArray w9 (cp w9 (is (.bool (p y))))):Calls Tryz.prog 67 [vh,.func (.func g9) #[] caps.toArray].toArray w (cp w (fun v w'=>cB w' w.heap.size 67 67 v (l.filter p).length (aJ (l.filter p)))):=by
 refine bF Tryz.func67 rfl Tryz.ntmps67 rfl fun f h s=>bH ab 1 h rfl fun f h=>bH ab 1 h rfl fun f h=>al (qr ?_)
 replace s:=s.nilSl 67 67
 refine am ab 1 h rfl fun f h=>dN h (hR.keep s.ext) Tryz.underlying22 rfl rfl fun f h=>e9 ab 1 h rfl fun f h=>wpIn_block (wpIn_loop_ghost (fun nn aa ww=>∃ k:Nat,∃ vb:Value,Sl 23 aa [(0,vh),(1,.func (.func g9) #[] caps.toArray),(5,vb),(8,vh),(9,.int .i64 (l.length:Int)),(10,.int .i64 (k:Int))]∧St w [.sl vb 67 67 ((l.take k).filter p).length (aJ ((l.take k).filter p))] ww∧nn=l.length - k∧k≤l.length) (l.length - (0)) ⟨0,aI,h.only ⟨rfl,rfl,rfl,rfl,rfl,aq rfl (by omega),trivial⟩,s.as ⟨rfl,trivial⟩,rfl,Nat.zero_le _⟩ ?_)
 rintro _ f w1 ⟨k,vb,h,s,hnn,hp0⟩
 refine bH ab 1 h rfl fun f h=>al (cV h rfl (fun hc=>?_) (fun hc=>?_))
 ·refine kt (al (wpIn_block (qr ?_)))
  have hkl:k<l.length:=by omega
  refine ae h (a7 (hR.keep s.ext) (k) Tryz.underlying22 dZ (h.ev rfl) (h.ev rfl) (by omega) (by omega)) rfl fun f h=>ar ((hR.keep s.ext).el (k) (by omega) (by decide) (D:=aB (l.getD k aW)) (dX l k hkl)) h a8 rfl (ao _) rfl fun f h=>aK (aB aW) h s eL rfl rfl fun f w1 b7 h s=>aj 0 h s a8 rfl rfl rfl (ao _) (ao _) (bm _) fun w1 s=>nt (bZ ab 1 h rfl fun f h=>ak 0 h s a8 rfl rfl (ao _) rfl fun f h=>nu [.agg (aB (l.getD k aW))] (caps:=caps) h s hg rfl (hp _ s.ext _ (jy hkl)) rfl rfl ?_);intro f w1 v16 hT hE h s;obtain rfl:=hT
  refine nt (cd h rfl (fun hc=>?_) (fun hc=>?_))
  ·have hq:p (l.getD k aW)=true:=hc
   refine rs ab 1 h rfl fun f h=>ak 0 h s a8 rfl rfl (ao _) rfl fun f h=>bn (vs:=[.agg (aB (l.getD k aW))]) [.tmp 18] h s Tryz.underlying22 ex rfl rfl (lN _) rfl rfl rfl fun f w1 v19 h s=>cq 2 0 h s Tryz.underlying22 ex rfl rfl rfl rfl (by decide) (by rw [eC];exact bm _) (by have h9:=oo l p k;unfold maxLen;omega) (by have h9:=oo l p k;omega) rfl fun f w1 v20 h s=>?_
   replace s:=s.pick _ (List.sublist_cons_self _ _)
   replace s:=s.resl (m:=((l.take (k+1)).filter p).length) (ys:=aJ ((l.take (k+1)).filter p)) 1 rfl (by rw [rR hkl hq,List.length_append];rfl) (by rw [rR hkl hq,eC,hQ])
   refine am ab 1 h rfl fun f h=>av (ba (aE (aF (ae h (a6 (h.ev rfl) (h.ev rfl) (by omega)) rfl fun f h=>e9 ab 1 h rfl fun f h=>?_))))
   exact ⟨_,by omega,⟨k+1,v20,h.only ⟨rfl,rfl,rfl,rfl,rfl,aq rfl (by omega),trivial⟩,St.as (s.pick _ (List.sublist_append_right [_] _)) ⟨rfl,trivial⟩,rfl,by omega⟩⟩
  ·have hq:p (l.getD k aW)=false:=hc
   refine wpIn_skip (ba (aE (aF (ae h (a6 (h.ev rfl) (h.ev rfl) (by omega)) rfl fun f h=>e9 ab 1 h rfl fun f h=>?_))))
   exact ⟨_,by omega,⟨k+1,vb,h.only ⟨rfl,rfl,rfl,rfl,rfl,aq rfl (by omega),trivial⟩,St.as (s.pick _ (List.sublist_append_right [_] _)) ⟨eJ (by rw [qn hkl hq]) (by rw [qn hkl hq]),trivial⟩,rfl,by omega⟩⟩
 ·refine wpIn_exit (aU (aU (bR (aE (bH ab 2 h rfl fun f h=>wpIn_ret (aH rfl h s rfl ((by have h9:=s.getSl 0 rfl;rw [sS (by omega)] at h9;exact h9))))))))
theorem qw (l:List Tg) (vh:Value) (g9:Nat) (caps:List Value) (m:Tg→Int) (le:Int) (w:World) (hR:bI w vh 67 l.length (aJ l)) (hln:l.length≤1000) (hg:Fnc Tryz.prog g9) (hp:∀ w9,Ext w w9→∀ y∈l,Calls Tryz.prog g9 (.agg (aB y)::caps).toArray w9 (cp w9 (is (.int .i64 (m y))))):Calls Tryz.prog 118 [vh,.func (.func g9) #[] caps.toArray,.int .i64 le].toArray w (cp w (is (.tuple #[.agg (aB (vX m le l l.length).1),.bool (vX m le l l.length).2.2]))):=by
 refine bF Tryz.func118 rfl Tryz.ntmps118 rfl fun f h s=>qr (aK (aB aW) h s eL rfl rfl fun f w1 b6 h s=>e9 ab 1 h rfl fun f h=>qr (aK (aB aW) h s eL rfl rfl fun f w1 b8 h s=>nt (bH ab 2 h rfl fun f h=>al (bZ ab 1 h rfl fun f h=>dN h (hR.keep s.ext) Tryz.underlying22 rfl rfl fun f h=>e9 ab 1 h rfl fun f h=>wpIn_block (wpIn_loop_ghost (fun nn aa ww=>∃ k:Nat,∃ z:Tg,∃ mo:Int,∃ bi:Bool,Sl 40 aa [(0,vh),(6,.pointer (some ⟨b6,0,none⟩)),(8,.pointer (some ⟨b8,0,none⟩)),(1,.func (.func g9) #[] caps.toArray),(2,.int .i64 le),(9,.int .i64 mo),(10,.bool bi),(14,vh),(15,.int .i64 (l.length:Int)),(16,.int .i64 (k:Int))]∧St w [.blk b8 (.cells (aB z) 67),.blk b6 (.cells (aB aW) 67)] ww∧nn=l.length - k∧k≤l.length∧(z,mo,bi)=vX m le l k) (l.length - (0)) ⟨0,aW,0,false,h.only ⟨rfl,rfl,rfl,rfl,rfl,rfl,rfl,rfl,rfl,aq rfl (by omega),trivial⟩,s.as ⟨rfl,rfl,trivial⟩,rfl,Nat.zero_le _,rfl⟩ ?_)))))
 rintro _ f w1 ⟨k,z,mo,bi,h,s,hnn,hp0,hp1⟩
 refine bH ab 1 h rfl fun f h=>al (cV h rfl (fun hc=>?_) (fun hc=>?_))
 ·refine kt (al (wpIn_block (qr ?_)))
  have hkl:k<l.length:=by omega
  refine ae h (a7 (hR.keep s.ext) (k) Tryz.underlying22 dZ (h.ev rfl) (h.ev rfl) (by omega) (by omega)) rfl fun f h=>ar ((hR.keep s.ext).el (k) (by omega) (by decide) (D:=aB (l.getD k aW)) (dX l k hkl)) h a8 rfl (ao _) rfl fun f h=>aK (aB aW) h s eL rfl rfl fun f w1 b12 h s=>aj 0 h s a8 rfl rfl rfl (ao _) (ao _) (bm _) fun w1 s=>nt (bZ ab 1 h rfl fun f h=>ak 0 h s a8 rfl rfl (ao _) rfl fun f h=>nu [.agg (aB (l.getD k aW))] (caps:=caps) h s hg rfl (hp _ s.ext _ (jy hkl)) rfl rfl ?_);intro f w1 v22 hT hE h s;obtain rfl:=hT
  refine e9 ab 1 h rfl fun f h=>al ?_
  refine rs ab 2 h rfl fun f h=>cZ ab h rfl (fun h0 f h=>?_) (fun h0 f h=>?_)
  ·refine am ab 4 h rfl fun f h=>cw h rfl rfl rfl rfl ?_;intro f h
   refine cw h rfl rfl rfl rfl ?_;intro f h
   refine cw h rfl rfl rfl rfl ?_;intro f h
   refine e9 ab 2 h rfl fun f h=>ij h rfl (wpIn_skip (ba (aE (aF (ae h (a6 (h.ev rfl) (h.ev rfl) (by omega)) rfl fun f h=>e9 ab 1 h rfl fun f h=>?_)))))
   exact ⟨_,by omega,⟨k+1,z,mo,bi,h.only ⟨rfl,rfl,rfl,rfl,rfl,rfl,rfl,rfl,rfl,aq rfl (by omega),trivial⟩,St.as (s.pick _ (List.sublist_append_right [_] _)) ⟨rfl,rfl,trivial⟩,rfl,by omega,M7 hp1 (by rw [h0];rfl)⟩⟩
  ·skip
   refine am ab 1 h rfl fun f h=>bf h rfl (cZ ab h rfl (fun h1 f h=>?_) (fun h1 f h=>?_))
   ·refine e9 ab 7 h rfl fun f h=>cy h rfl (aF (ak 0 h s a8 rfl rfl (ao _) rfl fun f h=>am ab 1 h rfl fun f h=>aj 1 h s a8 rfl rfl rfl (ao _) (ao _) (bm _) fun w1 s=>am ab 2 h rfl fun f h=>av (ba (aE (aF (ae h (a6 (h.ev rfl) (h.ev rfl) (by omega)) rfl fun f h=>e9 ab 1 h rfl fun f h=>?_))))))
    exact ⟨_,by omega,⟨k+1,(l.getD k aW),(m (l.getD k aW)),true,h.only ⟨rfl,rfl,rfl,rfl,rfl,rfl,rfl,rfl,rfl,aq rfl (by omega),trivial⟩,St.as (s.pick _ (List.sublist_append_right [_] _)) ⟨rfl,rfl,trivial⟩,rfl,by omega,Nm hp1 h0 (by rw [h1];rfl)⟩⟩
   ·skip
    refine am ab 4 h rfl fun f h=>bf h rfl (cZ ab h rfl (fun h2 f h=>?_) (fun h2 f h=>?_))
    ·refine e9 ab 2 h rfl fun f h=>ij h rfl (wpIn_skip (ba (aE (aF (ae h (a6 (h.ev rfl) (h.ev rfl) (by omega)) rfl fun f h=>e9 ab 1 h rfl fun f h=>?_)))))
     exact ⟨_,by omega,⟨k+1,z,mo,bi,h.only ⟨rfl,rfl,rfl,rfl,rfl,rfl,rfl,rfl,rfl,aq rfl (by omega),trivial⟩,St.as (s.pick _ (List.sublist_append_right [_] _)) ⟨rfl,rfl,trivial⟩,rfl,by omega,M7 hp1 (by rw [h0,h1,h2];rfl)⟩⟩
    ·refine e9 ab 2 h rfl fun f h=>cy h rfl (aF (ak 0 h s a8 rfl rfl (ao _) rfl fun f h=>am ab 1 h rfl fun f h=>aj 1 h s a8 rfl rfl rfl (ao _) (ao _) (bm _) fun w1 s=>am ab 2 h rfl fun f h=>av (ba (aE (aF (ae h (a6 (h.ev rfl) (h.ev rfl) (by omega)) rfl fun f h=>e9 ab 1 h rfl fun f h=>?_))))))
     exact ⟨_,by omega,⟨k+1,(l.getD k aW),(m (l.getD k aW)),true,h.only ⟨rfl,rfl,rfl,rfl,rfl,rfl,rfl,rfl,rfl,aq rfl (by omega),trivial⟩,St.as (s.pick _ (List.sublist_append_right [_] _)) ⟨rfl,rfl,trivial⟩,rfl,by omega,Nm hp1 h0 (by rw [h1,h2];rfl)⟩⟩
 ·refine wpIn_exit (aU (aU (bR (aE (qr (ak 0 h s a8 rfl rfl (ao _) rfl fun f h=>am ab 1 h rfl fun f h=>aj 1 h s a8 rfl rfl rfl (ao _) (ao _) (bm _) fun w1 s=>e9 ab 1 h rfl fun f h=>wpIn_ret (cY 1 rfl h s a8 rfl rfl (ao _) rfl (by obtain rfl:k=l.length:=(by omega);show _=_;rw [← hp1]))))))))
theorem AM (n:Nat) (hn:n≤1000) (w:World):Calls Tryz.prog 90 [.slice none 0 0,.int .i64 (n:Int)].toArray w (cp w (fun v w'=>cB w' w.heap.size 67 67 v 0 [])):=by
 refine bF Tryz.func90 rfl Tryz.ntmps90 rfl fun f h s=>bH ab 1 h rfl fun f h=>al (bZ ab 1 h rfl fun f h=>gE ab h rfl (decide_eq_false (by omega)) fun f h=>rH h rfl (al (bZ ab 2 h rfl fun f h=>ae h (kB Tryz.underlying22 (h.ev rfl)) rfl fun f h=>am ab 1 h rfl fun f h=>ae h (kL Tryz.underlying22 (h.ev rfl)) rfl fun f h=>ae h (aV (.int .i64 0) (ea (h.ev rfl) (h.ev rfl) (by omega)) (rfl)) rfl fun f h=>ae h (aV (.int .i64 (n:Int)) (ea (h.ev rfl) (h.ev rfl) (by omega)) (congrArg (Value.int .i64) (by omega))) rfl fun f h=>e9 ab 1 h rfl fun f h=>bH ab 2 h rfl fun f h=>cV h rfl (fun hc=>?_) (fun hc=>?_))))
 ·refine rs ab 2 h rfl fun f h=>ae h (kB Tryz.underlying22 (h.ev rfl)) rfl fun f h=>ae h (ny Tryz.underlying22 dZ (h.ev rfl) (h.ev rfl)) rfl fun f h=>am ab 1 h rfl fun f h=>lG (n:=n) (base:=w.heap.size) h Tryz.underlying22 Tryz.underlying3 ex rfl rfl (by omega) (by omega) (by omega) (Nat.le_refl _) rfl fun f w1 v22 xs9 h hE9 hO9=>?_
  replace s:=s.sl_new hE9 hO9
  refine am ab 1 h rfl fun f h=>ae h (kL Tryz.underlying22 (h.ev rfl)) rfl fun f h=>ae h (mD hO9 Tryz.underlying22 dZ (h.ev rfl) (h.ev rfl)) rfl fun f h=>e9 ab 1 h rfl fun f h=>bH ab 2 h rfl fun f h=>wpIn_ret (aH rfl h s rfl (hO9.cut0))
 ·refine kt (bH ab 2 h rfl fun f h=>wpIn_ret (aH rfl h s rfl (nN _ _ _ _)))
theorem pp (vh:Value) (us:List Value) (ls:List (List Tg)) (hls:us.length=ls.length) (htot:ls.flatten.length≤1000) (hvn:us.length≤1000) (w:World) (hv:bI w vh 1 us.length us) (hr:∀ k,k<us.length→bI w (us.getD k undef) 67 (ls.getD k []).length (aJ (ls.getD k []))):Calls Tryz.prog 63 [vh].toArray w (cp w (fun v w'=>cB w' w.heap.size 67 67 v ls.flatten.length (aJ ls.flatten))):=by
 refine bF Tryz.func63 rfl Tryz.ntmps63 rfl fun f h s=>bH ab 1 h rfl fun f h=>bH ab 1 h rfl fun f h=>al (bZ ab 1 h rfl fun f h=>dN h (hv.keep s.ext) Tryz.underlying141 rfl rfl fun f h=>e9 ab 1 h rfl fun f h=>wpIn_block (wpIn_loop_ghost (fun nn aa ww=>∃ k:Nat,Sl 36 aa [(0,vh),(3,.int .i64 (((ls.take k).flatten.length:Nat):Int)),(9,vh),(10,.int .i64 (us.length:Int)),(11,.int .i64 (k:Int))]∧St w [] ww∧nn=us.length - k∧k≤us.length) (us.length - (0)) ⟨0,h.only ⟨rfl,aq rfl rfl,rfl,rfl,aq rfl (by omega),trivial⟩,s.as trivial,rfl,Nat.zero_le _⟩ ?_))
 rintro _ f w1 ⟨k,h,s,hnn,hp0⟩
 refine bH ab 1 h rfl fun f h=>al (cV h rfl (fun hc=>?_) (fun hc=>?_))
 ·refine kt (al (wpIn_block (qr ?_)))
  have hkl:k<us.length:=by omega
  refine ae h (a7 (hv.keep s.ext) (k) Tryz.underlying141 H5 (h.ev rfl) (h.ev rfl) (by omega) (by omega)) rfl fun f h=>ag ((hv.keep s.ext).el1 (k) (V:=us.getD k undef) (pQ hkl)) h eO rfl rfl fun f h=>e9 ab 1 h rfl fun f h=>bZ ab 2 h rfl fun f h=>dN h ((hr k hkl).keep s.ext) Tryz.underlying22 rfl rfl fun f h=>?_
  have hk1:=qy ls k (by omega)
  have hk2:=yI ls (k+1)
  refine ae h (a6 (h.ev rfl) (h.ev rfl) (by omega)) rfl fun f h=>e9 ab 1 h rfl fun f h=>bZ ab 1 h rfl fun f h=>gE ab h rfl (decide_eq_false (by omega)) fun f h=>A8 h rfl (wpIn_skip (ba (aE (aF (ae h (a6 (h.ev rfl) (h.ev rfl) (by omega)) rfl fun f h=>e9 ab 1 h rfl fun f h=>?_)))))
  exact ⟨_,by omega,⟨k+1,h.only ⟨rfl,aq rfl (by omega),rfl,rfl,aq rfl (by omega),trivial⟩,St.as s trivial,rfl,by omega⟩⟩
 ·refine wpIn_exit (aU (aU (bR (aE (qr ?_)))))
  obtain rfl:k=us.length:=by omega
  refine qh ab (.int .i64 ((ls.flatten.length:Nat):Int)) h rfl (by rw [hls,List.take_length]) rfl fun f h=>bq h s M0 (AM ls.flatten.length (by omega) _) rfl rfl ?_;intro f w1 v24 hT hE h sq;replace s:=s.sl_new hE hT
  refine e9 ab 1 h rfl fun f h=>al (bZ ab 1 h rfl fun f h=>dN h (hv.keep s.ext) Tryz.underlying141 rfl rfl fun f h=>e9 ab 1 h rfl fun f h=>wpIn_block (wpIn_loop_ghost (fun nn aa ww=>∃ i:Nat,∃ vb:Value,Sl 36 aa [(0,vh),(6,vb),(25,vh),(26,.int .i64 (us.length:Int)),(27,.int .i64 (i:Int))]∧St w [.sl vb 67 67 (ls.take i).flatten.length (aJ (ls.take i).flatten)] ww∧nn=us.length - i∧i≤us.length) (us.length - (0)) ⟨0,v24,h.only ⟨rfl,rfl,rfl,rfl,aq rfl (by omega),trivial⟩,s.as ⟨eJ rfl rfl,trivial⟩,rfl,Nat.zero_le _⟩ ?_))
  rintro _ f w1 ⟨i,vb,h,s,hnn,hp0⟩
  refine bH ab 1 h rfl fun f h=>al (cV h rfl (fun hc=>?_) (fun hc=>?_))
  ·refine kt (al (wpIn_block (qr ?_)))
   have hkl:i<us.length:=by omega
   have hk1:=qy ls i (by omega)
   have hk2:=yI ls (i+1)
   refine ae h (a7 (hv.keep s.ext) (i) Tryz.underlying141 H5 (h.ev rfl) (h.ev rfl) (by omega) (by omega)) rfl fun f h=>ag ((hv.keep s.ext).el1 (i) (V:=us.getD i undef) (pQ hkl)) h eO rfl rfl fun f h=>e9 ab 1 h rfl fun f h=>rs ab 2 h rfl fun f h=>i9 0 ((hr i hkl).keep s.ext) h s Tryz.underlying22 ex rfl rfl rfl (nj _) (by unfold maxLen;omega) (by omega) rfl fun f w1 v33 h s=>am ab 1 h rfl fun f h=>av (ba (aE (aF (ae h (a6 (h.ev rfl) (h.ev rfl) (by omega)) rfl fun f h=>e9 ab 1 h rfl fun f h=>?_))))
   exact ⟨_,by omega,⟨i+1,v33,h.only ⟨rfl,rfl,rfl,rfl,aq rfl (by omega),trivial⟩,St.as s ⟨eJ (qy ls i (by omega)) (wM ls i (by omega)),trivial⟩,rfl,by omega⟩⟩
  ·refine wpIn_exit (aU (aU (bR (aE (bH ab 2 h rfl fun f h=>wpIn_ret (aH rfl h s rfl (uH (by omega) (s.getSl 0 rfl))))))))
theorem A1 (l:List Tg) (hln:l.length≤1000) (a9:Option Addr) (n9 c9:Nat) (w:World) (hR:bI w (.slice a9 n9 c9) 67 l.length (aJ l)):Calls Tryz.prog 27 [.slice a9 n9 c9].toArray w (cp w (fun v w'=>cB w' w.heap.size 67 67 v l.length (aJ l))):=by
 refine bF Tryz.func27 rfl Tryz.ntmps27 rfl fun f h s=>bH ab 1 h rfl fun f h=>al (al ?_)
 cases hn:(a9.isNone:Bool)
 ·refine rs ab 1 h rfl fun f h=>ae h (aV (.bool false) (oW Tryz.underlying22 (h.ev rfl) (h.ev rfl)) (congrArg Value.bool hn)) rfl fun f h=>rH h rfl (qr (AV (base:=w.heap.size) h Tryz.underlying22 ex (Nat.le_refl _) rfl fun f w2 v5 h hE3 e5=>am ab 1 h rfl fun f h=>tG (base:=w.heap.size) e5 (hR.keep hE3) h Tryz.underlying22 ex rfl rfl hE3.le (nj _) (by unfold maxLen;omega) (by omega) rfl fun f w3 v7 h hE4 e7=>?_))
  replace s:=s.sl_new (hE3.trans hE4) e7
  refine e9 ab 1 h rfl fun f h=>wpIn_ret (aH rfl h s rfl (s.getSl 0 rfl))
 ·refine rs ab 1 h rfl fun f h=>ae h (aV (.bool true) (oW Tryz.underlying22 (h.ev rfl) (h.ev rfl)) (congrArg Value.bool hn)) rfl fun f h=>wy h rfl (bH ab 1 h rfl fun f h=>rt (aH rfl h s rfl (by obtain rfl:=xz hn hR;exact nN _ _ _ _)))
theorem p6 (l:List Tg) (hln:l.length≤1000) (v9:Value) (w:World) (hR:bI w v9 67 l.length (aJ l)):Calls Tryz.prog 27 [v9].toArray w (cp w (fun v w'=>cB w' w.heap.size 67 67 v l.length (aJ l))):=by
 obtain ⟨a,c,rfl⟩:=hR.len
 exact A1 l hln a _ c w hR
set_option maxHeartbeats 1000000 in
theorem D6 (l:List Tg) (vh:Value) (x:Tg) (w:World) (hR:bI w vh 67 l.length (aJ l)) (hln:l.length≤1000):Calls Tryz.prog 37 [vh,.agg (aB x)].toArray w (cp w (Lg w vh l (lV l x) (i4 l x))):=by
 refine bF Tryz.func37 rfl Tryz.ntmps37 rfl fun f h s=>qr (aZ (aB x) h s rfl rfl rfl fun f w1 b3 h s=>e9 ab 2 h rfl fun f h=>al (al ?_))
 refine rs ab 1 h rfl fun f h=>gg h s qU (gb l vh _ (hR.keep s.ext) hln) rfl rfl (fun r0 f w1 h s=>?_) (fun r0 f w1 h s=>?_)
 ·refine e9 ab 6 h rfl fun f h=>cy h rfl (bH ab 2 h rfl fun f h=>rt (dr rfl h s rfl rfl (i7 (Eu r0 x).1 (Eu r0 x).2 (s.sel [] rfl (by decide)))))
 ·skip
  refine am ab 2 h rfl fun f h=>bf h rfl (ak 0 h s a8 rfl rfl (ao _) rfl fun f h=>bf h rfl (gg h s wn (ib x _) rfl rfl (fun m0 f w1 h s=>?_) (fun m0 f w1 h s=>?_)))
  ·refine e9 ab 2 h rfl fun f h=>cy h rfl (bH ab 2 h rfl fun f h=>rt (dr rfl h s rfl rfl (i7 (BB l m0).1 (BB l m0).2 (s.sel [] rfl (by decide)))))
  ·refine e9 ab 2 h rfl fun f h=>iU h rfl (qr ?_)
   have hrt:=fa.1 r0
   have hl32:=hrt.len
   refine am ab 1 h rfl fun f h=>ak 0 h s a8 rfl rfl (ao _) rfl fun f h=>bq h s Ir (sg l vh x _ (hR.keep s.ext) hln hrt.srt) rfl rfl ?_;rintro f w1 v19 ⟨n,b,rfl,hf9⟩ hE h s
   refine e9 ab 5 h rfl fun f h=>al (al ?_)
   refine aF (cZ ab h rfl (fun b9 f h=>?_) (fun b9 f h=>?_))
   ·refine rH h rfl (al (qr ?_))
    rw [b9] at hf9
    have hnl:=hf9.le
    refine am ab 1 h rfl fun f h=>dN h (hR.keep s.ext) Tryz.underlying22 rfl rfl fun f h=>e9 ab 1 h rfl fun f h=>cd h rfl (fun hc=>?_) (fun hc=>?_)
    ·have h32:l.length=32:=by have:=of_decide_eq_true hc;omega
     refine bH ab 2 h rfl fun f h=>rt (dr rfl h s rfl rfl (i7 (Iq hrt m0 hf9 h32).1 (Iq hrt m0 hf9 h32).2 (s.sel [] rfl (by decide))))
    ·have h32:¬ l.length=32:=by have:=of_decide_eq_false hc;omega
     refine kt (al (ka 0 10 [[],[],[0,1],[],[3],[],[],[5,6],[0,1,2,3,4,5,6,7],[0,1,2,3,4,5,6,7,8],[0,1,2,3,4,5,6,7,8,9],[0,1,2,3,4,5,6,7,8,9,10]] [[],[],[],[],[],[],[],[],[],[8,4],[],[]] [] [.v _,.v _,.v (dQ vh n),.v (.agg (aB x)),.r (fun v=>[.sl (v 4) 67 67 [x].length (aJ [x])]) (fun v=>(v 4).oneCell'=true),.v _,.v _,.v (eg vh 67 n),.m (fun v=>[.sl (v 8) 22 1 3 [dQ vh n,(v 4),eg vh 67 n]]),.m (fun v=>[.sl (v 9) 67 67 (l.take n++([x]++l.drop n)).length (aJ (l.take n++([x]++l.drop n)))]),.n,.n] _ h s rfl (by kernel_rfl) (by kernel_rfl) (by kernel_rfl) (iz ab h rfl rfl rfl (iz ab h rfl rfl rfl (cF ?_ (cF ?_ (cF ?_ (iz ab h rfl rfl rfl (iz ab h rfl rfl rfl (cF ?_ (cF ?_ (cF ?_ (trivial))))))))))) [0,1,2,3,5,6,7,9] (by kernel_rfl) ?_))
     ·intro f9 w2 vl10 E9 hs9 hd9 hl hF s
      have h:=dh [(41,_),(42,_)] h hs9 hd9 ⟨bu hl 41 0 (by kernel_rfl) (hF 0 (by decide)),bu hl 42 1 (by kernel_rfl) (hF 1 (by decide)),trivial⟩
      refine ae h (gv (hR.keep s.ext) (n) Tryz.underlying22 dZ (h.ev rfl) (h.ev rfl) (rfl) (by omega)) rfl fun f h=>av ⟨_,bw 43 h rfl rfl,rfl,s⟩
     ·intro f9 w2 vl10 E9 hs9 hd9 hl hF s
      have h:=dh [(3,_)] h hs9 hd9 ⟨gN hl 3 (by kernel_rfl) (h.holds 3 _ rfl),trivial⟩
      refine ak 0 h s a8 rfl rfl (ao _) rfl fun f h=>av ⟨_,bw 44 h rfl rfl,rfl,s⟩
     ·intro f9 w2 vl10 E9 hs9 hd9 hl hF s
      have h:=dh [(44,_)] h hs9 hd9 ⟨bu hl 44 3 (by kernel_rfl) (hF 3 (by decide)),trivial⟩
      refine bn (vs:=[.agg (aB x)]) [.tmp 44] h s Tryz.underlying22 ex rfl rfl (lN _) rfl rfl rfl fun f w1 v45 h s=>?_
      replace s:=s.resl (m:=[x].length) (ys:=aJ [x]) 0 rfl rfl (by rw [eC,jg])
      exact av ⟨_,bw 45 h rfl rfl,dm (s.getSl 0 rfl),s⟩
     ·intro f9 w2 vl10 E9 hs9 hd9 hl hF s
      have h:=dh [(46,_),(47,_)] h hs9 hd9 ⟨bu hl 46 5 (by kernel_rfl) (hF 5 (by decide)),bu hl 47 6 (by kernel_rfl) (hF 6 (by decide)),trivial⟩
      refine ae h (gq (hR.keep s.ext) (n) Tryz.underlying22 dZ (h.ev rfl) (h.ev rfl) (rfl) (by omega)) rfl fun f h=>av ⟨_,bw 48 h rfl rfl,rfl,s⟩
     ·intro f9 w2 vl10 E9 hs9 hd9 hl hF s
      have e43:f9.tmps.getD 43 undef=dQ vh n:=(dK hl 43 2 (by kernel_rfl) (by kernel_rfl)).trans (hF 2 (by decide))
      have e45:f9.tmps.getD 45 undef=(vl10 4):=dK hl 45 4 (by kernel_rfl) (by kernel_rfl)
      have e48:f9.tmps.getD 48 undef=(eg vh 67 n):=(dK hl 48 7 (by kernel_rfl) (by kernel_rfl)).trans (hF 7 (by decide))
      have h:=aD [(43,dQ vh n),(45,(vl10 4)),(48,(eg vh 67 n))] (hs9.trans h.size) (hd9.trans h.defers) (holds_lk ⟨e43,e45,e48,trivial⟩)
      refine bn (vs:=[dQ vh n,(vl10 4),eg vh 67 n]) [.tmp 43,.tmp 45,.tmp 48] h s Tryz.underlying141 HQ rfl rfl (by intro v hv;simp only [List.mem_cons,List.not_mem_nil,or_false] at hv;rcases hv with rfl|rfl|rfl;exact gx (kw (hR.keep s.ext) n (by omega));exact(H3 (hF 4 (by decide))).1;exact gx (l3 (hR.keep s.ext) n (by omega))) rfl rfl rfl fun f w1 v49 h s=>?_
      replace s:=s.resl (m:=3) (ys:=[dQ vh n,(vl10 4),eg vh 67 n]) 0 rfl rfl (by simp [eR (kw (hR.keep s.ext) n (by omega)),show (vl10 4).cells.toList=[vl10 4] from (H3 (hF 4 (by decide))).2,eR (l3 (hR.keep s.ext) n (by omega))])
      exact av ⟨_,bw 49 h rfl rfl,trivial,s⟩
     ·intro f9 w2 vl10 E9 hs9 hd9 hl hF s
      have e49:f9.tmps.getD 49 undef=(vl10 8):=dK hl 49 8 (by kernel_rfl) (by kernel_rfl)
      have h:=aD [(49,(vl10 8))] (hs9.trans h.size) (hd9.trans h.defers) (holds_lk ⟨e49,trivial⟩)
      refine bq h s If (pp (vl10 8) [dQ vh n,(vl10 4),eg vh 67 n] [l.take n,[x],l.drop n] rfl (by rw [lY];simp only [List.length_append,List.length_take,List.length_drop,List.length_cons,List.length_nil];omega) (by simp) _ (bI.of_own (s.getSl 0 rfl)) (Aw (kw (hR.keep s.ext) n (by omega)) (bI.of_own (s.getSl 1 rfl)) (l3 (hR.keep s.ext) n (by omega)))) rfl rfl ?_;intro f w1 v9_ hT hE h sq
      replace s:=s.sl_new hE (hT.seq (m:=(l.take n++([x]++l.drop n)).length) (ys:=aJ (l.take n++([x]++l.drop n))) (by rw [lY]) (by rw [lY]))
      exact av ⟨_,bw 50 h rfl rfl,trivial,(s.pick _ (List.Sublist.cons_cons _ (List.Sublist.cons _ (List.Sublist.cons _ (List.Sublist.cons_cons _ (List.Sublist.refl _))))))⟩
     intro f w1 vl10 hs9 hd9 hv hr hF s
     replace hv:=fun i d h9=>hv i d (show Nat.blt i 10=true from h9)
     replace h:=kO 10 (ops:=_) [(41,_),(42,_),(43,_),(44,_),(45,(vl10 4)),(46,_),(47,_),(48,_),(49,(vl10 8)),(50,(vl10 9))] h hs9 hd9 hr ⟨(hv 0 41 rfl rfl).trans (hF 0 rfl),(hv 1 42 rfl rfl).trans (hF 1 rfl),(hv 2 43 rfl rfl).trans (hF 2 rfl),(hv 3 44 rfl rfl).trans (hF 3 rfl),hv 4 45 rfl rfl,(hv 5 46 rfl rfl).trans (hF 5 rfl),(hv 6 47 rfl rfl).trans (hF 6 rfl),(hv 7 48 rfl rfl).trans (hF 7 rfl),hv 8 49 rfl rfl,hv 9 50 rfl rfl,trivial⟩ (by kernel_rfl)
     replace s:St w [.sl (vl10 9) 67 67 (l.take n++([x]++l.drop n)).length (aJ (l.take n++([x]++l.drop n))),.blk b3 (.cells (aB x) 67)] _:=s
     refine e9 ab 2 h rfl fun f h=>wpIn_ret (dr rfl h s rfl rfl (nS (HP hrt m0 hf9 h32).1 (HP hrt m0 hf9 h32).2 (s.sel [0] rfl (by decide))))
   ·refine wy h rfl (qr ?_)
    rw [b9] at hf9
    have hnl:=(uh hrt.srt hf9).1
    refine am ab 1 h rfl fun f h=>bq h s HI (p6 l hln vh _ (hR.keep s.ext)) rfl rfl ?_;intro f w1 v24 hT hE h sq;replace s:=s.sl_new hE hT
    refine e9 ab 1 h rfl fun f h=>al (eo 12 h (by kernel_rfl) (az ab 4 h rfl fun f h=>au h (a7 (bI.of_own (s.getSl 0 rfl)) (n) Tryz.underlying22 dZ (h.ev rfl) (h.ev rfl) (rfl) (by omega)) rfl fun f h=>au h (bM td (h.ev rfl) ((bI.of_own (s.getSl 0 rfl)).some (by omega))) rfl fun f h=>ay (V:=.int .i64 (l.getD n aW).2.2) (eX (bI.of_own (s.getSl 0 rfl)) (n*67+66) (MV l n hnl)) h bo rfl rfl fun f h=>az ab 1 h rfl fun f h=>ay (ac (aG.of_own s 1 rfl) 66 (dD _)) h bo rfl rfl fun f h=>au h (aV (.int .i64 (max (l.getD n aW).2.2 x.2.2)) (Kx (h.ev rfl) (h.ev rfl)) (congrArg (Value.int .i64) (by split<;>omega))) rfl fun f h=>au h (a7 (bI.of_own (s.getSl 0 rfl)) (n) Tryz.underlying22 dZ (h.ev rfl) (h.ev rfl) (rfl) (by omega)) rfl fun f h=>au h (bM td (h.ev rfl) ((bI.of_own (s.getSl 0 rfl)).some (by omega))) rfl fun f h=>cj s fun w1 s=>vF 0 h s bo rfl rfl rfl (by omega) (rfl) (Jz hnl (Le l x n) 66 _ (by decide) (yK _ _)) fun w1 s=>?_))
    replace s:=s.resl (m:=(l.set n (Le l x n)).length) (ys:=aJ (l.set n (Le l x n))) 0 rfl (by rw [List.length_set]) (rfl)
    refine nt (bH ab 3 h rfl fun f h=>rt (dr rfl h s rfl rfl (nS (Nv hrt m0 hf9).1 (Nv hrt m0 hf9).2 (s.sel [0] rfl (by decide)))))
set_option maxHeartbeats 1000000 in
theorem A6 (l:List Tg) (vh:Value) (i:Id) (e:cU) (w:World) (hR:bI w vh 67 l.length (aJ l)) (hln:l.length≤1000):Calls Tryz.prog 72 [vh,gp i,.agg (bg e)].toArray w (cp w (Lg w vh l (oL l i e) (kF l i e))):=by
 refine bF Tryz.func72 rfl Tryz.ntmps72 rfl fun f h s=>qr (aZ (aA i) h s rfl rfl rfl fun f w1 b4 h s=>aZ (bg e) h s rfl rfl rfl fun f w1 b5 h s=>e9 ab 2 h rfl fun f h=>al (al ?_))
 refine rs ab 1 h rfl fun f h=>gg h s qU (gb l vh _ (hR.keep s.ext) hln) rfl rfl (fun r0 f w1 h s=>?_) (fun r0 f w1 h s=>?_)
 ·refine e9 ab 1 h rfl fun f h=>cy h rfl (bH ab 2 h rfl fun f h=>rt (dr rfl h s rfl rfl (i7 (DV r0 i e).1 (DV r0 i e).2 (s.sel [] rfl (by decide)))))
 ·refine e9 ab 1 h rfl fun f h=>iU h rfl (qr ?_)
  have hrt:=fa.1 r0
  have hl32:=hrt.len
  refine am ab 1 h rfl fun f h=>ak 1 h s aN rfl rfl (by first|exact ai _|exact ah _ _) rfl fun f h=>ak 0 h s bY rfl rfl (aC _) rfl fun f h=>ae h (rL jM (h.ev rfl) (h.ev rfl)) rfl fun f h=>bq h s Ir (sg l vh (i,e,(0:Int)) _ (hR.keep s.ext) hln hrt.srt) rfl rfl ?_;rintro f w1 v18 ⟨n,b,rfl,hf9⟩ hE h s
  refine e9 ab 5 h rfl fun f h=>al (al ?_)
  refine aF (cZ ab h rfl (fun b9 f h=>?_) (fun b9 f h=>?_))
  ·refine e9 ab 1 h rfl fun f h=>cy h rfl (bH ab 2 h rfl fun f h=>rt (dr rfl h s rfl rfl (i7 (LJ hrt (by rw [b9] at hf9;exact hf9)).1 (LJ hrt (by rw [b9] at hf9;exact hf9)).2 (s.sel [] rfl (by decide)))))
  ·refine e9 ab 1 h rfl fun f h=>iU h rfl (al ?_)
   rw [b9] at hf9
   have hnl:=(uh hrt.srt hf9).1
   refine ka 0 9 [[],[],[0,1],[],[],[4],[3,4,5],[0,1,2,3,4,5,6],[0,1,2,3,4,5,6,7],[0,1,2,3,4,5,6,7,8],[0,1,2,3,4,5,6,7,8,9]] [[],[],[],[],[],[],[],[],[7],[],[]] [] [.v _,.v _,.v (dQ vh n),.v _,.v _,.v (.int .i64 ((n:Int)+1)),.v (eg vh 67 (n+1)),.m (fun v=>[.sl (v 7) 22 1 2 [dQ vh n,eg vh 67 (n+1)]]),.m (fun v=>[.sl (v 8) 67 67 (l.take n++l.drop (n+1)).length (aJ (l.take n++l.drop (n+1)))]),.n,.n] _ h s rfl (by kernel_rfl) (by kernel_rfl) (by kernel_rfl) (iz ab h rfl rfl rfl (iz ab h rfl rfl rfl (cF ?_ (iz ab h rfl rfl rfl (iz ab h rfl rfl rfl (cF ?_ (cF ?_ (cF ?_ (cF ?_ (trivial)))))))))) [0,1,2,3,4,5,6,8] (by kernel_rfl) ?_
   ·intro f9 w2 vl6 E9 hs9 hd9 hl hF s
    have h:=dh [(23,_),(24,_)] h hs9 hd9 ⟨bu hl 23 0 (by kernel_rfl) (hF 0 (by decide)),bu hl 24 1 (by kernel_rfl) (hF 1 (by decide)),trivial⟩
    refine ae h (gv (hR.keep s.ext) (n) Tryz.underlying22 dZ (h.ev rfl) (h.ev rfl) (rfl) (by omega)) rfl fun f h=>av ⟨_,bw 25 h rfl rfl,rfl,s⟩
   ·intro f9 w2 vl6 E9 hs9 hd9 hl hF s
    have h:=dh [(27,_)] h hs9 hd9 ⟨bu hl 27 4 (by kernel_rfl) (hF 4 (by decide)),trivial⟩
    refine ae h (a6 (h.ev rfl) (h.ev rfl) (by omega)) rfl fun f h=>av ⟨_,bw 28 h rfl rfl,rfl,s⟩
   ·intro f9 w2 vl6 E9 hs9 hd9 hl hF s
    have h:=dh [(26,_),(28,_)] h hs9 hd9 ⟨bu hl 26 3 (by kernel_rfl) (hF 3 (by decide)),bu hl 28 5 (by kernel_rfl) (hF 5 (by decide)),trivial⟩
    refine ae h (gq (hR.keep s.ext) ((n+1)) Tryz.underlying22 dZ (h.ev rfl) (h.ev rfl) (by omega) (by omega)) rfl fun f h=>av ⟨_,bw 29 h rfl rfl,rfl,s⟩
   ·intro f9 w2 vl6 E9 hs9 hd9 hl hF s
    have h:=dh [(25,_),(29,_)] h hs9 hd9 ⟨bu hl 25 2 (by kernel_rfl) (hF 2 (by decide)),bu hl 29 6 (by kernel_rfl) (hF 6 (by decide)),trivial⟩
    refine bn (vs:=[dQ vh n,eg vh 67 (n+1)]) [.tmp 25,.tmp 29] h s Tryz.underlying141 HQ rfl rfl (by intro v hv;simp only [List.mem_cons,List.not_mem_nil,or_false] at hv;rcases hv with rfl|rfl;exact gx (kw (hR.keep s.ext) n (by omega));exact gx (l3 (hR.keep s.ext) (n+1) (by omega))) rfl rfl rfl fun f w1 v30 h s=>?_
    replace s:=s.resl (m:=2) (ys:=[dQ vh n,eg vh 67 (n+1)]) 0 rfl rfl (by simp [eR (kw (hR.keep s.ext) n (by omega)),eR (l3 (hR.keep s.ext) (n+1) (by omega))])
    exact av ⟨_,bw 30 h rfl rfl,trivial,s⟩
   ·intro f9 w2 vl6 E9 hs9 hd9 hl hF s
    have e30:f9.tmps.getD 30 undef=(vl6 7):=dK hl 30 7 (by kernel_rfl) (by kernel_rfl)
    have h:=aD [(30,(vl6 7))] (hs9.trans h.size) (hd9.trans h.defers) (holds_lk ⟨e30,trivial⟩)
    refine bq h s If (pp (vl6 7) [dQ vh n,eg vh 67 (n+1)] [l.take n,l.drop (n+1)] rfl (by rw [oJ];simp only [List.length_append,List.length_take,List.length_drop,List.length_cons,List.length_nil];omega) (by simp) _ (bI.of_own (s.getSl 0 rfl)) (FQ (kw (hR.keep s.ext) n (by omega)) (l3 (hR.keep s.ext) (n+1) (by omega)))) rfl rfl ?_;intro f w1 v9_ hT hE h sq
    replace s:=s.sl_new hE (hT.seq (m:=(l.take n++l.drop (n+1)).length) (ys:=aJ (l.take n++l.drop (n+1))) (by rw [oJ]) (by rw [oJ]))
    exact av ⟨_,bw 31 h rfl rfl,trivial,(s.pick _ (List.Sublist.cons_cons _ (List.Sublist.cons _ (List.Sublist.cons_cons _ (List.Sublist.cons_cons _ (List.Sublist.refl _))))))⟩
   intro f w1 vl6 hs9 hd9 hv hr hF s
   replace hv:=fun i d h9=>hv i d (show Nat.blt i 9=true from h9)
   replace h:=kO 9 (ops:=_) [(23,_),(24,_),(25,_),(26,_),(27,_),(28,_),(29,_),(30,(vl6 7)),(31,(vl6 8))] h hs9 hd9 hr ⟨(hv 0 23 rfl rfl).trans (hF 0 rfl),(hv 1 24 rfl rfl).trans (hF 1 rfl),(hv 2 25 rfl rfl).trans (hF 2 rfl),(hv 3 26 rfl rfl).trans (hF 3 rfl),(hv 4 27 rfl rfl).trans (hF 4 rfl),(hv 5 28 rfl rfl).trans (hF 5 rfl),(hv 6 29 rfl rfl).trans (hF 6 rfl),hv 7 30 rfl rfl,hv 8 31 rfl rfl,trivial⟩ (by kernel_rfl)
   replace s:St w [.sl (vl6 8) 67 67 (l.take n++l.drop (n+1)).length (aJ (l.take n++l.drop (n+1))),.blk b5 (.cells (bg e) 28),.blk b4 (.cells (aA i) 26)] _:=s
   refine e9 ab 2 h rfl fun f h=>wpIn_ret (dr rfl h s rfl rfl (nS (L4 hrt hf9).2.1 (L4 hrt hf9).2.2 (s.sel [0] rfl (by decide))))
theorem An (x:Tg) (now:Int) (bx:Nat) (w:World) (hb:ff w bx #[.int .i64 now]):Calls Tryz.prog 79 [.agg (aB x),.pointer (some ⟨bx,0,none⟩)].toArray w (cp w (is (.bool (decide (now<x.2.2))))):=by
 refine bF Tryz.func79 rfl Tryz.ntmps79 rfl fun f h s=>qr (aZ (aB x) h s rfl rfl rfl fun f w1 b2 h s=>e9 ab 1 h rfl fun f h=>bZ ab 1 h rfl fun f h=>ag (ac (aG.of_own s 0 rfl) 66 (dD _)) h bo rfl rfl fun f h=>ag (V:=.int .i64 now) (ac (aG.of_tab (hb.keep s.ext)) 0 (rfl)) h bo rfl rfl fun f h=>e9 ab 2 h rfl fun f h=>wpIn_ret (aH rfl h s rfl (rfl)))
theorem Bq (l:List Tg) (vh:Value) (now:Int) (w:World) (hR:bI w vh 67 l.length (aJ l)) (hln:l.length≤1000):Calls Tryz.prog 49 [vh,.int .i64 now].toArray w (cp w (Lg w vh l (xS l now) (CN l))):=by
 refine bF Tryz.func49 rfl Tryz.ntmps49 rfl fun f h s=>qr (aZ (#[.int .i64 now]) h s rfl rfl rfl fun f w1 b3 h s=>e9 ab 2 h rfl fun f h=>al (al ?_))
 cases r0:(ce l:Bool)
 ·refine rs ab 1 h rfl fun f h=>jm false h s qU (gb l vh _ (hR.keep s.ext) hln) (r0) rfl rfl fun f w1 h s=>e9 ab 1 h rfl fun f h=>cy h rfl (bH ab 2 h rfl fun f h=>rt (dr rfl h s rfl rfl (i7 (Mn r0 now).1 (Mn r0 now).2 (s.sel [] rfl (by decide)))))
 ·refine rs ab 1 h rfl fun f h=>bq h s qU (bG (.bool true) (gb l vh _ (hR.keep s.ext) hln) (congrArg Value.bool r0)) rfl rfl ?_;intro f w1 v9 hT hE h s;obtain rfl:=hT
  refine e9 ab 1 h rfl fun f h=>iU h rfl (bZ ab 1 h rfl fun f h=>ae h (fj [.pointer (some ⟨b3,0,none⟩)] (qJ h rfl)) rfl fun f h=>bq h s IB (rP l vh 79 [.pointer (some ⟨b3,0,none⟩)] ((fun y=>decide (now<y.2.2))) _ (hR.keep s.ext) hln ME (fun w9 h9 y _=>An y now b3 w9 ((ff.of_own s 0 rfl).keep h9))) rfl rfl ?_);intro f w1 v11 hT hE h sq;replace s:=s.sl_new hE hT
  refine e9 ab 2 h rfl fun f h=>wpIn_ret (dr rfl h s rfl rfl (nS (Lo r0 now).1 (Lo r0 now).2 (s.sel [0] rfl (by decide))))
theorem sC (y:Tg) (x:Id) (bx:Nat) (w:World) (hb:ff w bx (aA x)):Calls Tryz.prog 116 [.agg (aB y),.pointer (some ⟨bx,0,none⟩)].toArray w (cp w (is (.int .i64 (KW x y)))):=by
 refine bF Tryz.func116 rfl Tryz.ntmps116 rfl fun f h s=>qr (aZ (aB y) h s rfl rfl rfl fun f w1 b2 h s=>e9 ab 1 h rfl fun f h=>bZ ab 1 h rfl fun f h=>ar (aG.subL (aG.of_own s 0 rfl) 0 32 (D:=aA (_)) (dV _)) h aN rfl (by first|exact ai _|exact ah _ _) rfl fun f h=>ar (aG.subL (aG.of_tab (hb.keep s.ext)) 0 32 (D:=aA x) (AZ _)) h aN rfl (by first|exact ai _|exact ah _ _) rfl fun f h=>c7 h s JP (xW y.1 x _) rfl rfl fun f w1 h s=>e9 ab 1 h rfl fun f h=>wpIn_ret (aH rfl h s rfl (rfl)))
theorem AE (y z:Tg) (bx:Nat) (w:World) (hb:ff w bx (aB z)):Calls Tryz.prog 119 [.agg (aB y),.pointer (some ⟨bx,0,none⟩)].toArray w (cp w (is (.bool (decide (y.1=z.1))))):=by
 refine bF Tryz.func119 rfl Tryz.ntmps119 rfl fun f h s=>qr (aZ (aB y) h s rfl rfl rfl fun f w1 b2 h s=>e9 ab 1 h rfl fun f h=>bZ ab 1 h rfl fun f h=>ar (aG.subL (aG.of_own s 0 rfl) 0 32 (D:=aA (_)) (dV _)) h aN rfl (by first|exact ai _|exact ah _ _) rfl fun f h=>am ab 1 h rfl fun f h=>ar (aG.subL (aG.of_tab (hb.keep s.ext)) 0 32 (D:=aA z.1) (dV _)) h aN rfl (by first|exact ai _|exact ah _ _) rfl fun f h=>ae h (cn d8 (h.ev rfl) (h.ev rfl)) rfl fun f h=>e9 ab 1 h rfl fun f h=>wpIn_ret (aH rfl h s rfl (rfl)))
theorem xw (l:List Tg) (vh:Value) (x:Id) (w:World) (hR:bI w vh 67 l.length (aJ l)) (hln:l.length≤1000):Calls Tryz.prog 99 [vh,gp x].toArray w (cp w (Lg w vh l (Kr l x) (Gb l x))):=by
 refine bF Tryz.func99 rfl Tryz.ntmps99 rfl fun f h s=>qr (aZ (aA x) h s rfl rfl rfl fun f w1 b3 h s=>e9 ab 2 h rfl fun f h=>al (al ?_))
 refine rs ab 1 h rfl fun f h=>gg h s qU (gb l vh _ (hR.keep s.ext) hln) rfl rfl (fun r0 f w1 h s=>?_) (fun r0 f w1 h s=>?_)
 ·refine e9 ab 1 h rfl fun f h=>cy h rfl (bH ab 2 h rfl fun f h=>rt (dr rfl h s rfl rfl (i7 (LK r0 x).1 (LK r0 x).2 (s.sel [] rfl (by decide)))))
 ·refine e9 ab 1 h rfl fun f h=>iU h rfl (qr (ae h (fj [.pointer (some ⟨b3,0,none⟩)] (qJ h rfl)) rfl fun f h=>e9 ab 1 h rfl fun f h=>al ?_))
  cases hi:((E1 l x).2.2:Bool)
  ·refine rs ab 2 h rfl fun f h=>c7 h s Bn (qw l vh 116 [.pointer (some ⟨b3,0,none⟩)] (KW x) 128 _ (hR.keep s.ext) hln DQ (fun w9 h9 y _=>sC y x b3 w9 ((ff.of_own s 0 rfl).keep h9))) rfl rfl fun f w1 h s=>am ab 2 h rfl fun f h=>ae h (aV (.bool false) (dR (h.ev rfl) rfl) (congrArg Value.bool hi)) rfl fun f h=>aK (aB aW) h s eL rfl rfl fun f w1 b7 h s=>aj 0 h s a8 rfl rfl rfl (ao _) (ao _) (bm _) fun w1 s=>e9 ab 1 h rfl fun f h=>al (bH ab 2 h rfl fun f h=>cy h rfl (bH ab 2 h rfl fun f h=>rt (dr rfl h s rfl rfl (i7 ((pI r0 x).1 hi).1 ((pI r0 x).1 hi).2 (s.sel [] rfl (by decide))))))
  ·refine rs ab 2 h rfl fun f h=>bq h s Bn (qw l vh 116 [.pointer (some ⟨b3,0,none⟩)] (KW x) 128 _ (hR.keep s.ext) hln DQ (fun w9 h9 y _=>sC y x b3 w9 ((ff.of_own s 0 rfl).keep h9))) rfl rfl ?_;intro f w1 v16 hT hE h s;obtain rfl:=hT
   refine am ab 2 h rfl fun f h=>ae h (aV (.bool true) (dR (h.ev rfl) rfl) (congrArg Value.bool hi)) rfl fun f h=>aK (aB aW) h s eL rfl rfl fun f w1 b7 h s=>aj 0 h s a8 rfl rfl rfl (ao _) (ao _) (bm _) fun w1 s=>e9 ab 1 h rfl fun f h=>al (bH ab 2 h rfl fun f h=>iU h rfl (bZ ab 1 h rfl fun f h=>ae h (fj [.pointer (some ⟨b7,0,none⟩)] (qJ h rfl)) rfl fun f h=>bq h s IB (rP l vh 119 [.pointer (some ⟨b7,0,none⟩)] ((fun y=>decide (y.1=(E1 l x).1.1))) _ (hR.keep s.ext) hln KC (fun w9 h9 y _=>AE y (E1 l x).1 b7 w9 ((ff.of_own s 0 rfl).keep h9))) rfl rfl ?_));intro f w1 v23 hT hE h sq;replace s:=s.sl_new hE hT
   refine e9 ab 2 h rfl fun f h=>wpIn_ret (dr rfl h s rfl rfl (nS ((pI r0 x).2 hi).1 ((pI r0 x).2 hi).2 (s.sel [0] rfl (by decide))))
end Go.Proofs.YtobfeflheaobiaaGreatDoor
