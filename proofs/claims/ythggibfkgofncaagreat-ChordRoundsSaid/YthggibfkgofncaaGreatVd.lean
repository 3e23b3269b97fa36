/- What is alike; few; what is wanted. -/
import Derived.Test.YthggibfkgofncaaGreatCon
set_option linter.unusedVariables false
set_option linter.unusedSimpArgs false
set_option linter.unusedSectionVars false
namespace Go.Proofs.YthggibfkgofncaaGreat
open Go.RowKit
theorem lK (l r:List Mb) (vh vu:Value) (w:World) (hR:bO w vh 33 l.length (am l)) (hS:bO w vu 33 r.length (am r)) (hln:l.length≤1000) (hln2:r.length≤1000):Calls Tryz.prog 14 [vh,vu].toArray w (cO w (is (.bool (decide (l=r))))):=by
 refine bh Tryz.func14 rfl Tryz.ntmps14 rfl [(0,vh),(1,vu)] (by simp) fun f h=>?_
 have s:=St.start w
 refine ak fun K1 hK1=>?_
 refine ag ?_
 refine ac h (aj (h.ev rfl)) rfl ?_;intro f h
 refine ai ?_
 refine hK1 _ _ ?_
 refine ak fun K2 hK2=>?_
 refine ak fun K3 hK3=>?_
 refine ag ?_
 refine ac h (ah (h.ev rfl)) rfl ?_;intro f h
 refine ac h (bK (hR.keep s.ext) Tryz.underlying36 (h.ev rfl)) rfl ?_;intro f h
 refine ac h (ah (h.ev rfl)) rfl ?_;intro f h
 refine ac h (bK (hS.keep s.ext) Tryz.underlying36 (h.ev rfl)) rfl ?_;intro f h
 refine ac h (cJ (h.ev rfl) (h.ev rfl)) rfl ?_;intro f h
 refine ai ?_
 refine hK3 _ _ ?_
 refine bL h rfl (fun hc=>?_) (fun hc=>?_)
 ·replace hc:=hc
  refine ak fun K4 hK4=>?_
  refine ag ?_
  refine ac h (aj (h.ev rfl)) rfl ?_;intro f h
  refine ai ?_
  refine hK4 _ _ ?_
  refine wpIn_ret ?_
  refine a8 ?_
  exact bu rfl h s rfl ((by show _=_;rw [decide_eq_false (fun e=>by subst e;simp at hc)]))
 ·have hl9:l.length=r.length:=by have:=hc;simp at this;omega
  refine wpIn_skip ?_
  refine hK2 _ _ ?_
  refine ak fun K5 hK5=>?_
  refine ak fun K6 hK6=>?_
  refine ag ?_
  refine ac h (ah (h.ev rfl)) rfl ?_;intro f h
  refine ac h (bK (hR.keep s.ext) Tryz.underlying36 (h.ev rfl)) rfl ?_;intro f h
  refine ac h (ah (h.ev rfl)) rfl ?_;intro f h
  refine ai ?_
  refine hK6 _ _ ?_
  refine wpIn_block ?_
  refine wpIn_loop_ghost (fun nn aa ww=>∃ k:Nat,Sl 26 aa [(0,vh),(1,vu),(11,vh),(12,.int .i64 (l.length:Int)),(13,.int .i64 (k:Int))]∧St w [] ww∧nn=l.length - k∧k≤l.length∧∀ j,j<k→l.getD j ap=r.getD j ap) (l.length - (0)) ⟨0,h.only ⟨rfl,rfl,rfl,rfl,aQ rfl (by omega),trivial⟩,s.as trivial,rfl,Nat.zero_le _,fun j hj=>absurd hj (Nat.not_lt_zero _)⟩ ?_
  rintro _ f w1 ⟨k,h,s,hnn,hp0,hp1⟩
  refine ak fun K7 hK7=>?_
  refine ag ?_
  refine ac h (cc (h.ev rfl) (h.ev rfl)) rfl ?_;intro f h
  refine ai ?_
  refine hK7 _ _ ?_
  refine ak fun K8 hK8=>?_
  refine bL h rfl (fun hc=>?_) (fun hc=>?_)
  ·replace hc:=of_decide_eq_true hc
   refine wpIn_skip ?_
   refine hK8 _ _ ?_
   refine ak fun K9 hK9=>?_
   refine wpIn_block ?_
   refine ak fun K10 hK10=>?_
   refine ag ?_
   refine ac h (ah (h.ev rfl)) rfl ?_;intro f h
   refine ac h (aj (h.ev rfl)) rfl ?_;intro f h
   refine ai ?_
   refine hK10 _ _ ?_
   refine ak fun K11 hK11=>?_
   refine bG 9 [[],[],[0,1],[0,1,2],[],[],[4,5],[4,5,6],[0,1,2,3,4,5,6,7]] h (by kernel_rfl) (by kernel_rfl) (by kernel_rfl) ?_
   have hka:k<l.length:=by omega
   have hkb:k<r.length:=by omega
   refine ao h (ah (h.ev rfl)) rfl ?_;intro f h
   refine ao h (ah (h.ev rfl)) rfl ?_;intro f h
   refine ao h (bU (hR.keep s.ext) (k) Tryz.underlying36 cA (h.ev rfl) (h.ev rfl) (by omega) (by omega)) rfl ?_;intro f h
   refine bg ((hR.keep s.ext).el (k) (by omega) (by decide) (D:=av (l.getD k ap)) (cX l k hka)) h aJ rfl (al _) rfl ?_;intro f h
   refine ao h (ah (h.ev rfl)) rfl ?_;intro f h
   refine ao h (ah (h.ev rfl)) rfl ?_;intro f h
   refine ao h (bU (hS.keep s.ext) (k) Tryz.underlying36 cA (h.ev rfl) (h.ev rfl) (by omega) (by omega)) rfl ?_;intro f h
   refine bg ((hS.keep s.ext).el (k) (by omega) (by decide) (D:=av (r.getD k ap)) (cX r k hkb)) h aJ rfl (al _) rfl ?_;intro f h
   refine ao h (fh (i9 _ _) (by kernel_rfl) (by decide) (h.ev rfl) (h.ev rfl) (decide ((l.getD k ap)=r.getD k ap)) (er _ _)) rfl ?_;intro f h
   refine cn s fun w1 s=>?_
   refine ai ?_
   refine hK11 _ _ ?_
   refine bL h rfl (fun hc=>?_) (fun hc=>?_)
   ·refine ak fun K12 hK12=>?_
    refine ag ?_
    refine ac h (aj (h.ev rfl)) rfl ?_;intro f h
    refine ai ?_
    refine hK12 _ _ ?_
    refine wpIn_ret ?_
    refine bT ?_
    refine a8 ?_
    refine a8 ?_
    refine bT ?_
    refine a8 ?_
    exact bu rfl h s rfl ((by show _=_;rw [decide_eq_false (fun e=>by subst e;simp at hc)]))
   ·refine wpIn_skip ?_
    refine bH ?_
    refine hK9 _ _ ?_
    refine ag ?_
    refine ac h (cp (h.ev rfl) (h.ev rfl) (by omega)) rfl ?_;intro f h
    refine ac h (ah (h.ev rfl)) rfl ?_;intro f h
    refine ai ?_
    refine ca ?_
    exact ⟨_,by omega,⟨k+1,h.only ⟨rfl,rfl,rfl,rfl,aQ rfl (by omega),trivial⟩,St.as s trivial,rfl,by omega,oW hp1 (by simpa using hc)⟩⟩
  ·replace hc:=of_decide_eq_false hc
   refine wpIn_exit ?_
   refine bN ?_
   refine bN ?_
   refine cG ?_
   refine hK5 _ _ ?_
   refine ak fun K13 hK13=>?_
   refine ag ?_
   refine ac h (aj (h.ev rfl)) rfl ?_;intro f h
   refine ai ?_
   refine hK13 _ _ ?_
   refine wpIn_ret ?_
   exact bu rfl h s rfl ((by show _=_;rw [decide_eq_true (r2 hl9 (fun j hj=>hp1 j (by omega)))]))
theorem lH (m:Mb) (w:World):Calls Tryz.prog 75 [.agg (av m)].toArray w (cO w (is (.bool (dI m)))):=by
 refine bh Tryz.func75 rfl Tryz.ntmps75 rfl [(0,.agg (av m))] (by simp) fun f h=>?_
 have s:=St.start w
 refine ak fun K1 hK1=>?_
 refine ag ?_
 refine bR ((av m)) h s rfl rfl rfl ?_;intro f w1 b1 h s
 refine ac h (aj (h.ev rfl)) rfl ?_;intro f h
 refine ai ?_
 refine hK1 _ _ ?_
 refine ak fun K2 hK2=>?_
 cases h0:(decide (0≤m.1):Bool)
 ·skip
  refine ag ?_
  refine ac h (aq aP (h.ev rfl)) rfl ?_;intro f h
  refine aC (ax (bq.of_own s 0 rfl) 0 (aV _)) h bV rfl rfl ?_;intro f h
  refine ac h (aE (.bool false) (d7 (h.ev rfl) (h.ev rfl)) (congrArg Value.bool h0)) rfl ?_;intro f h
  refine ac h (ah (h.ev rfl)) rfl ?_;intro f h
  refine aY (b:=true) h rfl rfl rfl rfl ?_;intro f h
  refine aY (b:=true) h rfl rfl rfl rfl ?_;intro f h
  refine aY (b:=true) h rfl rfl rfl rfl ?_;intro f h
  refine ac h (aL (h.ev rfl) (h.ev rfl)) rfl ?_;intro f h
  refine ac h (aj (h.ev rfl)) rfl ?_;intro f h
  refine ai ?_
  refine hK2 _ _ ?_
  refine wpIn_ret ?_
  exact bu rfl h s rfl (by show _=_;rw [y1 h0]<;>rfl)
 ·skip
  refine ag ?_
  refine ac h (aq aP (h.ev rfl)) rfl ?_;intro f h
  refine aC (ax (bq.of_own s 0 rfl) 0 (aV _)) h bV rfl rfl ?_;intro f h
  refine ac h (aE (.bool true) (d7 (h.ev rfl) (h.ev rfl)) (congrArg Value.bool h0)) rfl ?_;intro f h
  refine ac h (ah (h.ev rfl)) rfl ?_;intro f h
  refine a2 h rfl rfl rfl ?_
  refine ac h (aq aP (h.ev rfl)) rfl ?_;intro f h
  refine a2 h rfl rfl rfl ?_
  refine aC (ax (bq.of_own s 0 rfl) 0 (aV _)) h bV rfl rfl ?_;intro f h
  refine a2 h rfl rfl rfl ?_
  refine ac h (aE (.bool (decide (m.1<16))) (gT (h.ev rfl) (h.ev rfl)) (congrArg Value.bool (decide_eq_decide.2 (by omega)))) rfl ?_;intro f h
  refine ac h (aO (h.ev rfl) (h.ev rfl)) rfl ?_;intro f h
  refine ac h (aj (h.ev rfl)) rfl ?_;intro f h
  refine ai ?_
  refine hK2 _ _ ?_
  refine wpIn_ret ?_
  exact bu rfl h s rfl (by show _=_;rw [y6 h0]<;>rfl)
theorem By (m:Mb) (w:World):Calls Tryz.prog 52 [.agg (av m)].toArray w (cO w (is (.bool (decide (m=c4))))):=by
 refine bh Tryz.func52 rfl Tryz.ntmps52 rfl [(0,.agg (av m))] (by simp) fun f h=>?_
 have s:=St.start w
 refine ak fun K1 hK1=>?_
 refine ag ?_
 refine bR ((av m)) h s rfl rfl rfl ?_;intro f w1 b1 h s
 refine ac h (aj (h.ev rfl)) rfl ?_;intro f h
 refine ai ?_
 refine hK1 _ _ ?_
 refine ak fun K2 hK2=>?_
 cases h0:(decide (m.1 = -1):Bool)
 ·skip
  refine ag ?_
  refine ac h (aq aP (h.ev rfl)) rfl ?_;intro f h
  refine aC (ax (bq.of_own s 0 rfl) 0 (aV _)) h bV rfl rfl ?_;intro f h
  refine ac h (aE (.bool false) (cb (h.ev rfl) (h.ev rfl)) (congrArg Value.bool h0)) rfl ?_;intro f h
  refine ac h (ah (h.ev rfl)) rfl ?_;intro f h
  refine aY (b:=true) h rfl rfl rfl rfl ?_;intro f h
  refine aY (b:=true) h rfl rfl rfl rfl ?_;intro f h
  refine aY (b:=true) h rfl rfl rfl rfl ?_;intro f h
  refine aY (b:=true) h rfl rfl rfl rfl ?_;intro f h
  refine ac h (aL (h.ev rfl) (h.ev rfl)) rfl ?_;intro f h
  refine ac h (aj (h.ev rfl)) rfl ?_;intro f h
  refine ai ?_
  refine hK2 _ _ ?_
  refine wpIn_ret ?_
  exact bu rfl h s rfl (by show _=_;rw [zP h0])
 ·skip
  refine ag ?_
  refine ac h (aq aP (h.ev rfl)) rfl ?_;intro f h
  refine aC (ax (bq.of_own s 0 rfl) 0 (aV _)) h bV rfl rfl ?_;intro f h
  refine ac h (aE (.bool true) (cb (h.ev rfl) (h.ev rfl)) (congrArg Value.bool h0)) rfl ?_;intro f h
  refine ac h (ah (h.ev rfl)) rfl ?_;intro f h
  refine a2 h rfl rfl rfl ?_
  refine ac h (aq ce (h.ev rfl)) rfl ?_;intro f h
  refine a2 h rfl rfl rfl ?_
  refine aI (bq.subL (bq.of_own s 0 rfl) 1 32 (D:=bD (_)) (co _)) h cq rfl (by first|exact aR _|exact aM _ _) rfl ?_;intro f h
  refine a2 h rfl rfl rfl ?_
  refine ac h (sp gY) rfl ?_;intro f h
  refine a2 h rfl rfl rfl ?_
  refine ac h (dM gY (h.ev rfl) (h.ev rfl)) rfl ?_;intro f h
  refine ac h (aO (h.ev rfl) (h.ev rfl)) rfl ?_;intro f h
  refine ac h (aj (h.ev rfl)) rfl ?_;intro f h
  refine ai ?_
  refine hK2 _ _ ?_
  refine wpIn_ret ?_
  exact bu rfl h s rfl (by show _=_;rw [A6 h0]<;>rfl)
theorem AH (l:List Mb) (vh:Value) (no:Int) (w:World) (hR:bO w vh 33 l.length (am l)) (hln:l.length≤1000):Calls Tryz.prog 76 [vh,.int .i64 no].toArray w (cO w (is (.bool (kL l no)))):=by
 refine bh Tryz.func76 rfl Tryz.ntmps76 rfl [(0,vh),(1,.int .i64 no)] (by simp) fun f h=>?_
 have s:=St.start w
 refine ak fun K1 hK1=>?_
 refine ag ?_
 refine ac h (aj (h.ev rfl)) rfl ?_;intro f h
 refine ai ?_
 refine hK1 _ _ ?_
 refine ak fun K2 hK2=>?_
 refine ak fun K3 hK3=>?_
 refine ag ?_
 refine ac h (ah (h.ev rfl)) rfl ?_;intro f h
 refine ac h (bK (hR.keep s.ext) Tryz.underlying36 (h.ev rfl)) rfl ?_;intro f h
 refine ac h (ah (h.ev rfl)) rfl ?_;intro f h
 refine ai ?_
 refine hK3 _ _ ?_
 refine wpIn_block ?_
 refine wpIn_loop_ghost (fun nn aa ww=>∃ k:Nat,Sl 40 aa [(0,vh),(1,.int .i64 no),(9,vh),(10,.int .i64 (l.length:Int)),(11,.int .i64 (k:Int))]∧St w [] ww∧nn=l.length - k∧k≤l.length∧∀ j,j<k→ip l no j=false) (l.length - (0)) ⟨0,h.only ⟨rfl,rfl,rfl,rfl,aQ rfl (by omega),trivial⟩,s.as trivial,rfl,Nat.zero_le _,fun j hj=>absurd hj (Nat.not_lt_zero _)⟩ ?_
 rintro _ f w1 ⟨k,h,s,hnn,hp0,hp1⟩
 refine ak fun K4 hK4=>?_
 refine ag ?_
 refine ac h (cc (h.ev rfl) (h.ev rfl)) rfl ?_;intro f h
 refine ai ?_
 refine hK4 _ _ ?_
 refine ak fun K5 hK5=>?_
 refine bL h rfl (fun hc=>?_) (fun hc=>?_)
 ·replace hc:=of_decide_eq_true hc
  refine wpIn_skip ?_
  refine hK5 _ _ ?_
  refine ak fun K6 hK6=>?_
  refine wpIn_block ?_
  refine ak fun K7 hK7=>?_
  refine ag ?_
  refine ac h (ah (h.ev rfl)) rfl ?_;intro f h
  have hkl:k<l.length:=by omega
  refine ac h (bU (hR.keep s.ext) (k) Tryz.underlying36 cA (h.ev rfl) (h.ev rfl) (by omega) (by omega)) rfl ?_;intro f h
  refine aI ((hR.keep s.ext).el (k) (by omega) (by decide) (D:=av (l.getD k ap)) (cX l k hkl)) h aJ rfl (al _) rfl ?_;intro f h
  refine bi (av ap) h s cF rfl rfl ?_;intro f w1 b6 h s
  refine ac h (aj (h.ev rfl)) rfl ?_;intro f h
  refine aA 0 h s aJ rfl rfl rfl (al _) (al _) (aX _) ?_;intro w1 s
  refine ai ?_
  refine hK7 _ _ ?_
  refine ak fun K8 hK8=>?_
  refine ak fun K9 hK9=>?_
  cases k0:(dI (l.getD k ap):Bool)
  ·skip
   refine ag ?_
   refine ay 0 h s aJ rfl rfl (al _) rfl ?_;intro f h
   refine aK h s uI (aT (.bool false) (lH (l.getD k ap) _) (congrArg Value.bool k0)) rfl rfl ?_;intro f w1 v9 hT hE h s;obtain rfl:=hT
   refine ac h (aE (.bool true) (bI (h.ev rfl)) rfl) rfl ?_;intro f h
   refine ac h (ah (h.ev rfl)) rfl ?_;intro f h
   refine aY (b:=false) h rfl rfl rfl rfl ?_;intro f h
   refine aY (b:=false) h rfl rfl rfl rfl ?_;intro f h
   refine aY (b:=false) h rfl rfl rfl rfl ?_;intro f h
   refine aY (b:=false) h rfl rfl rfl rfl ?_;intro f h
   refine ac h (aO (h.ev rfl) (h.ev rfl)) rfl ?_;intro f h
   refine ai ?_
   refine hK9 _ _ ?_
   refine wpIn_cond_true (h.ev rfl) ?_
   refine ak fun K10 hK10=>?_
   refine ag ?_
   refine ac h (aj (h.ev rfl)) rfl ?_;intro f h
   refine ai ?_
   refine hK10 _ _ ?_
   refine wpIn_ret ?_
   refine a8 ?_
   refine bT ?_
   refine a8 ?_
   refine a8 ?_
   refine bT ?_
   refine a8 ?_
   exact bu rfl h s rfl (by show _=_;rw [fP hkl (uX k0)])
  ·skip
   cases k1:(decide ((l.getD k ap).1=no):Bool)
   ·skip
    refine ag ?_
    refine ay 0 h s aJ rfl rfl (al _) rfl ?_;intro f h
    refine aK h s uI (aT (.bool true) (lH (l.getD k ap) _) (congrArg Value.bool k0)) rfl rfl ?_;intro f w1 v9 hT hE h s;obtain rfl:=hT
    refine ac h (aE (.bool false) (bI (h.ev rfl)) rfl) rfl ?_;intro f h
    refine ac h (ah (h.ev rfl)) rfl ?_;intro f h
    refine a2 h rfl rfl rfl ?_
    refine ac h (aq aP (h.ev rfl)) rfl ?_;intro f h
    refine a2 h rfl rfl rfl ?_
    refine aC (ax (bq.of_own s 0 rfl) 0 (aV _)) h bV rfl rfl ?_;intro f h
    refine a2 h rfl rfl rfl ?_
    refine ac h (ah (h.ev rfl)) rfl ?_;intro f h
    refine a2 h rfl rfl rfl ?_
    refine ac h (aE (.bool false) (cb (h.ev rfl) (h.ev rfl)) (congrArg Value.bool k1)) rfl ?_;intro f h
    refine ac h (aL (h.ev rfl) (h.ev rfl)) rfl ?_;intro f h
    refine ai ?_
    refine hK9 _ _ ?_
    refine wpIn_cond_false (h.ev rfl) ?_
    refine wpIn_skip ?_
    refine hK8 _ _ ?_
    refine ak fun K11 hK11=>?_
    refine ag ?_
    have hq1:=hp1
    have hlt9:(l.take k).length=k:=by rw [List.length_take];omega
    refine ac h (ah (h.ev rfl)) rfl ?_;intro f h
    refine ac h (ah (h.ev rfl)) rfl ?_;intro f h
    refine ac h (dF (hR.keep s.ext) (k) Tryz.underlying36 cA (h.ev rfl) (h.ev rfl) (rfl) (by omega)) rfl ?_;intro f h
    refine ac h (bK ((gk hR k (by omega)).keep s.ext) Tryz.underlying36 (h.ev rfl)) rfl ?_;intro f h
    refine ac h (ah (h.ev rfl)) rfl ?_;intro f h
    refine ai ?_
    refine hK11 _ _ ?_
    refine wpIn_block ?_
    refine wpIn_loop_ghost (fun nn aa ww=>∃ j:Nat,Sl 40 aa [(0,vh),(1,.int .i64 no),(6,.pointer (some ⟨b6,0,none⟩)),(9,vh),(10,.int .i64 (l.length:Int)),(11,.int .i64 (k:Int)),(27,f8 vh k),(28,.int .i64 ((l.take k).length:Int)),(29,.int .i64 (j:Int))]∧St w [.blk b6 (.cells (av (l.getD k ap)) 28)] ww∧nn=k - j∧j≤k∧∀ i,i<j→decide ((l.getD i ap).1=(l.getD k ap).1)=false) (k - (0)) ⟨0,h.only ⟨rfl,rfl,rfl,rfl,rfl,rfl,rfl,rfl,aQ rfl (by omega),trivial⟩,s.as ⟨rfl,trivial⟩,rfl,Nat.zero_le _,fun j hj=>absurd hj (Nat.not_lt_zero _)⟩ ?_
    rintro _ f w1 ⟨j,h,s,hnn,hp0,hp1⟩
    refine ak fun K12 hK12=>?_
    refine ag ?_
    refine ac h (cc (h.ev rfl) (h.ev rfl)) rfl ?_;intro f h
    refine ai ?_
    refine hK12 _ _ ?_
    refine ak fun K13 hK13=>?_
    refine bL h rfl (fun hc=>?_) (fun hc=>?_)
    ·replace hc:=of_decide_eq_true hc
     refine wpIn_skip ?_
     refine hK13 _ _ ?_
     refine ak fun K14 hK14=>?_
     refine wpIn_block ?_
     refine ak fun K15 hK15=>?_
     refine ag ?_
     have hjk:j<k:=by omega
     refine ac h (bU ((gk hR k (by omega)).keep s.ext) (j) Tryz.underlying36 cA (h.ev rfl) (h.ev rfl) (by omega) (by omega)) rfl ?_;intro f h
     refine aI (((gk hR k (by omega)).keep s.ext).el (j) (by omega) (by decide) (D:=av (l.getD j ap)) (AP l hjk (by omega))) h aJ rfl (al _) rfl ?_;intro f h
     refine bi (av ap) h s cF rfl rfl ?_;intro f w1 b8 h s
     refine aA 0 h s aJ rfl rfl rfl (al _) (al _) (aX _) ?_;intro w1 s
     refine ai ?_
     refine hK15 _ _ ?_
     refine ak fun K16 hK16=>?_
     refine ag ?_
     refine ac h (aq aP (h.ev rfl)) rfl ?_;intro f h
     refine aC (ax (bq.of_own s 0 rfl) 0 (aV _)) h bV rfl rfl ?_;intro f h
     refine ac h (aq aP (h.ev rfl)) rfl ?_;intro f h
     refine aC (ax (bq.of_own s 1 rfl) 0 (aV _)) h bV rfl rfl ?_;intro f h
     refine ac h (cb (h.ev rfl) (h.ev rfl)) rfl ?_;intro f h
     refine ai ?_
     refine hK16 _ _ ?_
     refine bL h rfl (fun hc=>?_) (fun hc=>?_)
     ·refine ak fun K17 hK17=>?_
      refine ag ?_
      refine ac h (aj (h.ev rfl)) rfl ?_;intro f h
      refine ai ?_
      refine hK17 _ _ ?_
      refine wpIn_ret ?_
      refine bT ?_
      refine a8 ?_
      refine a8 ?_
      refine bT ?_
      refine bT ?_
      refine a8 ?_
      refine a8 ?_
      refine bT ?_
      refine a8 ?_
      exact bu rfl h s rfl (by show _=_;rw [fP hkl ((n7 k0 k1).trans (s0 (p:=fun x=>decide (x.1=(l.getD k ap).1)) (by omega) hjk hc))])
     ·refine wpIn_skip ?_
      refine bH ?_
      refine hK14 _ _ ?_
      refine ag ?_
      refine ac h (cp (h.ev rfl) (h.ev rfl) (by omega)) rfl ?_;intro f h
      refine ac h (ah (h.ev rfl)) rfl ?_;intro f h
      refine ai ?_
      refine ca ?_
      exact ⟨_,by omega,⟨j+1,h.only ⟨rfl,rfl,rfl,rfl,rfl,rfl,rfl,rfl,aQ rfl (by omega),trivial⟩,St.as (s.pick _ (List.sublist_append_right [_] _)) ⟨rfl,trivial⟩,rfl,by omega,d1 (q:=fun i=>decide ((l.getD i ap).1=(l.getD k ap).1)) hp1 hc⟩⟩
    ·replace hc:=of_decide_eq_false hc
     refine wpIn_exit ?_
     refine bN ?_
     refine bN ?_
     refine cG ?_
     refine bH ?_
     refine hK6 _ _ ?_
     refine ag ?_
     refine ac h (cp (h.ev rfl) (h.ev rfl) (by omega)) rfl ?_;intro f h
     refine ac h (ah (h.ev rfl)) rfl ?_;intro f h
     refine ai ?_
     refine ca ?_
     have hb9:ip l no k=false:=(n7 k0 k1).trans (tZ (p:=fun x=>decide (x.1=(l.getD k ap).1)) (by omega) (fun i hi=>hp1 i (by omega)))
     exact ⟨_,by omega,⟨k+1,h.only ⟨rfl,rfl,rfl,rfl,aQ rfl (by omega),trivial⟩,St.as (s.pick _ (List.sublist_append_right [_] _)) trivial,rfl,by omega,d1 hq1 hb9⟩⟩
   ·skip
    refine ag ?_
    refine ay 0 h s aJ rfl rfl (al _) rfl ?_;intro f h
    refine aK h s uI (aT (.bool true) (lH (l.getD k ap) _) (congrArg Value.bool k0)) rfl rfl ?_;intro f w1 v9 hT hE h s;obtain rfl:=hT
    refine ac h (aE (.bool false) (bI (h.ev rfl)) rfl) rfl ?_;intro f h
    refine ac h (ah (h.ev rfl)) rfl ?_;intro f h
    refine a2 h rfl rfl rfl ?_
    refine ac h (aq aP (h.ev rfl)) rfl ?_;intro f h
    refine a2 h rfl rfl rfl ?_
    refine aC (ax (bq.of_own s 0 rfl) 0 (aV _)) h bV rfl rfl ?_;intro f h
    refine a2 h rfl rfl rfl ?_
    refine ac h (ah (h.ev rfl)) rfl ?_;intro f h
    refine a2 h rfl rfl rfl ?_
    refine ac h (aE (.bool true) (cb (h.ev rfl) (h.ev rfl)) (congrArg Value.bool k1)) rfl ?_;intro f h
    refine ac h (aL (h.ev rfl) (h.ev rfl)) rfl ?_;intro f h
    refine ai ?_
    refine hK9 _ _ ?_
    refine wpIn_cond_true (h.ev rfl) ?_
    refine ak fun K18 hK18=>?_
    refine ag ?_
    refine ac h (aj (h.ev rfl)) rfl ?_;intro f h
    refine ai ?_
    refine hK18 _ _ ?_
    refine wpIn_ret ?_
    refine a8 ?_
    refine bT ?_
    refine a8 ?_
    refine a8 ?_
    refine bT ?_
    refine a8 ?_
    exact bu rfl h s rfl (by show _=_;rw [fP hkl (wt k1)])
 ·replace hc:=of_decide_eq_false hc
  refine wpIn_exit ?_
  refine bN ?_
  refine bN ?_
  refine cG ?_
  refine hK2 _ _ ?_
  refine ak fun K19 hK19=>?_
  refine ag ?_
  refine ac h (aj (h.ev rfl)) rfl ?_;intro f h
  refine ai ?_
  refine hK19 _ _ ?_
  refine wpIn_ret ?_
  exact bu rfl h s rfl (by show _=_;rw [pS (by omega) hp1])
theorem pf (a b:Nd) (u1 u2 v1 v2:Value) (w:World) (hA1:bO w u1 33 a.sc.length (am a.sc)) (hA2:bO w u2 33 a.fg.length (am a.fg)) (hB1:bO w v1 33 b.sc.length (am b.sc)) (hB2:bO w v2 33 b.fg.length (am b.fg)) (ha1:a.sc.length≤1000) (ha2:a.fg.length≤1000) (hb1:b.sc.length≤1000) (hb2:b.fg.length≤1000):Calls Tryz.prog 67 [.agg (au a.me a.pr u1 u2),.agg (au b.me b.pr v1 v2)].toArray w (cO w (is (.bool (eF a b)))):=by
 refine bh Tryz.func67 rfl Tryz.ntmps67 rfl [(0,.agg (au a.me a.pr u1 u2)),(1,.agg (au b.me b.pr v1 v2))] (by simp) fun f h=>?_
 have s:=St.start w
 refine ak fun K1 hK1=>?_
 refine ag ?_
 refine bR (au a.me a.pr u1 u2) h s rfl rfl rfl ?_;intro f w1 b2 h s
 refine bR (au b.me b.pr v1 v2) h s rfl rfl rfl ?_;intro f w1 b3 h s
 refine ac h (aj (h.ev rfl)) rfl ?_;intro f h
 refine ai ?_
 refine hK1 _ _ ?_
 refine ak fun K2 hK2=>?_
 cases e0:(decide (a.me=b.me):Bool)
 ·skip
  refine ag ?_
  refine ac h (aq bA (h.ev rfl)) rfl ?_;intro f h
  refine aI (bq.subL (bq.of_own s 1 rfl) 0 33 (D:=av a.me) (bZ _ _ _ _)) h aJ rfl (al _) rfl ?_;intro f h
  refine ac h (aq bA (h.ev rfl)) rfl ?_;intro f h
  refine aI (bq.subL (bq.of_own s 0 rfl) 0 33 (D:=av b.me) (bZ _ _ _ _)) h aJ rfl (al _) rfl ?_;intro f h
  refine ac h (aE (.bool false) (cU (i9 _ _) (by kernel_rfl) (by decide) (h.ev rfl) (h.ev rfl) (decide (a.me=b.me)) (er _ _)) (congrArg Value.bool e0)) rfl ?_;intro f h
  refine ac h (ah (h.ev rfl)) rfl ?_;intro f h
  refine aY (b:=true) h rfl rfl rfl rfl ?_;intro f h
  refine aY (b:=true) h rfl rfl rfl rfl ?_;intro f h
  refine aY (b:=true) h rfl rfl rfl rfl ?_;intro f h
  refine aY (b:=true) h rfl rfl rfl rfl ?_;intro f h
  refine aY (b:=true) h rfl rfl rfl rfl ?_;intro f h
  refine ac h (aL (h.ev rfl) (h.ev rfl)) rfl ?_;intro f h
  refine ac h (ah (h.ev rfl)) rfl ?_;intro f h
  refine aY (b:=true) h rfl rfl rfl rfl ?_;intro f h
  refine aY (b:=true) h rfl rfl rfl rfl ?_;intro f h
  refine aY (b:=true) h rfl rfl rfl rfl ?_;intro f h
  refine aY (b:=true) h rfl rfl rfl rfl ?_;intro f h
  refine aY (b:=true) h rfl rfl rfl rfl ?_;intro f h
  refine ac h (aL (h.ev rfl) (h.ev rfl)) rfl ?_;intro f h
  refine ac h (ah (h.ev rfl)) rfl ?_;intro f h
  refine aY (b:=true) h rfl rfl rfl rfl ?_;intro f h
  refine aY (b:=true) h rfl rfl rfl rfl ?_;intro f h
  refine aY (b:=true) h rfl rfl rfl rfl ?_;intro f h
  refine aY (b:=true) h rfl rfl rfl rfl ?_;intro f h
  refine aY (b:=true) h rfl rfl rfl rfl ?_;intro f h
  refine ac h (aL (h.ev rfl) (h.ev rfl)) rfl ?_;intro f h
  refine ac h (aj (h.ev rfl)) rfl ?_;intro f h
  refine ai ?_
  refine hK2 _ _ ?_
  refine wpIn_ret ?_
  exact bu rfl h s rfl (by show _=_;rw [DB e0])
 ·skip
  cases e1:(decide (a.pr=b.pr):Bool)
  ·skip
   refine ag ?_
   refine ac h (aq bA (h.ev rfl)) rfl ?_;intro f h
   refine aI (bq.subL (bq.of_own s 1 rfl) 0 33 (D:=av a.me) (bZ _ _ _ _)) h aJ rfl (al _) rfl ?_;intro f h
   refine ac h (aq bA (h.ev rfl)) rfl ?_;intro f h
   refine aI (bq.subL (bq.of_own s 0 rfl) 0 33 (D:=av b.me) (bZ _ _ _ _)) h aJ rfl (al _) rfl ?_;intro f h
   refine ac h (aE (.bool true) (cU (i9 _ _) (by kernel_rfl) (by decide) (h.ev rfl) (h.ev rfl) (decide (a.me=b.me)) (er _ _)) (congrArg Value.bool e0)) rfl ?_;intro f h
   refine ac h (ah (h.ev rfl)) rfl ?_;intro f h
   refine a2 h rfl rfl rfl ?_
   refine ac h (aq cx (h.ev rfl)) rfl ?_;intro f h
   refine a2 h rfl rfl rfl ?_
   refine aI (bq.subL (bq.of_own s 1 rfl) 33 33 (D:=av a.pr) (cN _ _ _ _)) h aJ rfl (al _) rfl ?_;intro f h
   refine a2 h rfl rfl rfl ?_
   refine ac h (aq cx (h.ev rfl)) rfl ?_;intro f h
   refine a2 h rfl rfl rfl ?_
   refine aI (bq.subL (bq.of_own s 0 rfl) 33 33 (D:=av b.pr) (cN _ _ _ _)) h aJ rfl (al _) rfl ?_;intro f h
   refine a2 h rfl rfl rfl ?_
   refine ac h (aE (.bool false) (cU (i9 _ _) (by kernel_rfl) (by decide) (h.ev rfl) (h.ev rfl) (decide (a.pr=b.pr)) (er _ _)) (congrArg Value.bool e1)) rfl ?_;intro f h
   refine ac h (aO (h.ev rfl) (h.ev rfl)) rfl ?_;intro f h
   refine ac h (ah (h.ev rfl)) rfl ?_;intro f h
   refine aY (b:=true) h rfl rfl rfl rfl ?_;intro f h
   refine aY (b:=true) h rfl rfl rfl rfl ?_;intro f h
   refine aY (b:=true) h rfl rfl rfl rfl ?_;intro f h
   refine aY (b:=true) h rfl rfl rfl rfl ?_;intro f h
   refine aY (b:=true) h rfl rfl rfl rfl ?_;intro f h
   refine ac h (aL (h.ev rfl) (h.ev rfl)) rfl ?_;intro f h
   refine ac h (ah (h.ev rfl)) rfl ?_;intro f h
   refine aY (b:=true) h rfl rfl rfl rfl ?_;intro f h
   refine aY (b:=true) h rfl rfl rfl rfl ?_;intro f h
   refine aY (b:=true) h rfl rfl rfl rfl ?_;intro f h
   refine aY (b:=true) h rfl rfl rfl rfl ?_;intro f h
   refine aY (b:=true) h rfl rfl rfl rfl ?_;intro f h
   refine ac h (aL (h.ev rfl) (h.ev rfl)) rfl ?_;intro f h
   refine ac h (aj (h.ev rfl)) rfl ?_;intro f h
   refine ai ?_
   refine hK2 _ _ ?_
   refine wpIn_ret ?_
   exact bu rfl h s rfl (by show _=_;rw [Dv e1])
  ·skip
   cases e2:(decide (a.sc=b.sc):Bool)
   ·skip
    refine ag ?_
    refine ac h (aq bA (h.ev rfl)) rfl ?_;intro f h
    refine aI (bq.subL (bq.of_own s 1 rfl) 0 33 (D:=av a.me) (bZ _ _ _ _)) h aJ rfl (al _) rfl ?_;intro f h
    refine ac h (aq bA (h.ev rfl)) rfl ?_;intro f h
    refine aI (bq.subL (bq.of_own s 0 rfl) 0 33 (D:=av b.me) (bZ _ _ _ _)) h aJ rfl (al _) rfl ?_;intro f h
    refine ac h (aE (.bool true) (cU (i9 _ _) (by kernel_rfl) (by decide) (h.ev rfl) (h.ev rfl) (decide (a.me=b.me)) (er _ _)) (congrArg Value.bool e0)) rfl ?_;intro f h
    refine ac h (ah (h.ev rfl)) rfl ?_;intro f h
    refine a2 h rfl rfl rfl ?_
    refine ac h (aq cx (h.ev rfl)) rfl ?_;intro f h
    refine a2 h rfl rfl rfl ?_
    refine aI (bq.subL (bq.of_own s 1 rfl) 33 33 (D:=av a.pr) (cN _ _ _ _)) h aJ rfl (al _) rfl ?_;intro f h
    refine a2 h rfl rfl rfl ?_
    refine ac h (aq cx (h.ev rfl)) rfl ?_;intro f h
    refine a2 h rfl rfl rfl ?_
    refine aI (bq.subL (bq.of_own s 0 rfl) 33 33 (D:=av b.pr) (cN _ _ _ _)) h aJ rfl (al _) rfl ?_;intro f h
    refine a2 h rfl rfl rfl ?_
    refine ac h (aE (.bool true) (cU (i9 _ _) (by kernel_rfl) (by decide) (h.ev rfl) (h.ev rfl) (decide (a.pr=b.pr)) (er _ _)) (congrArg Value.bool e1)) rfl ?_;intro f h
    refine ac h (aO (h.ev rfl) (h.ev rfl)) rfl ?_;intro f h
    refine ac h (ah (h.ev rfl)) rfl ?_;intro f h
    refine a2 h rfl rfl rfl ?_
    refine ac h (aq cC (h.ev rfl)) rfl ?_;intro f h
    refine a2 h rfl rfl rfl ?_
    refine aC (V:=u1) (ax (bq.of_own s 1 rfl) 66 (c7 _ _ _ _)) h cf rfl rfl ?_;intro f h
    refine a2 h rfl rfl rfl ?_
    refine ac h (aq cC (h.ev rfl)) rfl ?_;intro f h
    refine a2 h rfl rfl rfl ?_
    refine aC (V:=v1) (ax (bq.of_own s 0 rfl) 66 (c7 _ _ _ _)) h cf rfl rfl ?_;intro f h
    refine a2 h rfl rfl rfl ?_
    refine aK h s ui (aT (.bool false) (lK a.sc b.sc u1 v1 _ (hA1.keep s.ext) (hB1.keep s.ext) ha1 hb1) (congrArg Value.bool e2)) rfl rfl ?_;intro f w1 v9 hT hE h s;obtain rfl:=hT
    refine ac h (aO (h.ev rfl) (h.ev rfl)) rfl ?_;intro f h
    refine ac h (ah (h.ev rfl)) rfl ?_;intro f h
    refine aY (b:=true) h rfl rfl rfl rfl ?_;intro f h
    refine aY (b:=true) h rfl rfl rfl rfl ?_;intro f h
    refine aY (b:=true) h rfl rfl rfl rfl ?_;intro f h
    refine aY (b:=true) h rfl rfl rfl rfl ?_;intro f h
    refine aY (b:=true) h rfl rfl rfl rfl ?_;intro f h
    refine ac h (aL (h.ev rfl) (h.ev rfl)) rfl ?_;intro f h
    refine ac h (aj (h.ev rfl)) rfl ?_;intro f h
    refine ai ?_
    refine hK2 _ _ ?_
    refine wpIn_ret ?_
    exact bu rfl h s rfl (by show _=_;rw [C2 e2])
   ·skip
    refine ag ?_
    refine ac h (aq bA (h.ev rfl)) rfl ?_;intro f h
    refine aI (bq.subL (bq.of_own s 1 rfl) 0 33 (D:=av a.me) (bZ _ _ _ _)) h aJ rfl (al _) rfl ?_;intro f h
    refine ac h (aq bA (h.ev rfl)) rfl ?_;intro f h
    refine aI (bq.subL (bq.of_own s 0 rfl) 0 33 (D:=av b.me) (bZ _ _ _ _)) h aJ rfl (al _) rfl ?_;intro f h
    refine ac h (aE (.bool true) (cU (i9 _ _) (by kernel_rfl) (by decide) (h.ev rfl) (h.ev rfl) (decide (a.me=b.me)) (er _ _)) (congrArg Value.bool e0)) rfl ?_;intro f h
    refine ac h (ah (h.ev rfl)) rfl ?_;intro f h
    refine a2 h rfl rfl rfl ?_
    refine ac h (aq cx (h.ev rfl)) rfl ?_;intro f h
    refine a2 h rfl rfl rfl ?_
    refine aI (bq.subL (bq.of_own s 1 rfl) 33 33 (D:=av a.pr) (cN _ _ _ _)) h aJ rfl (al _) rfl ?_;intro f h
    refine a2 h rfl rfl rfl ?_
    refine ac h (aq cx (h.ev rfl)) rfl ?_;intro f h
    refine a2 h rfl rfl rfl ?_
    refine aI (bq.subL (bq.of_own s 0 rfl) 33 33 (D:=av b.pr) (cN _ _ _ _)) h aJ rfl (al _) rfl ?_;intro f h
    refine a2 h rfl rfl rfl ?_
    refine ac h (aE (.bool true) (cU (i9 _ _) (by kernel_rfl) (by decide) (h.ev rfl) (h.ev rfl) (decide (a.pr=b.pr)) (er _ _)) (congrArg Value.bool e1)) rfl ?_;intro f h
    refine ac h (aO (h.ev rfl) (h.ev rfl)) rfl ?_;intro f h
    refine ac h (ah (h.ev rfl)) rfl ?_;intro f h
    refine a2 h rfl rfl rfl ?_
    refine ac h (aq cC (h.ev rfl)) rfl ?_;intro f h
    refine a2 h rfl rfl rfl ?_
    refine aC (V:=u1) (ax (bq.of_own s 1 rfl) 66 (c7 _ _ _ _)) h cf rfl rfl ?_;intro f h
    refine a2 h rfl rfl rfl ?_
    refine ac h (aq cC (h.ev rfl)) rfl ?_;intro f h
    refine a2 h rfl rfl rfl ?_
    refine aC (V:=v1) (ax (bq.of_own s 0 rfl) 66 (c7 _ _ _ _)) h cf rfl rfl ?_;intro f h
    refine a2 h rfl rfl rfl ?_
    refine aK h s ui (aT (.bool true) (lK a.sc b.sc u1 v1 _ (hA1.keep s.ext) (hB1.keep s.ext) ha1 hb1) (congrArg Value.bool e2)) rfl rfl ?_;intro f w1 v9 hT hE h s;obtain rfl:=hT
    refine ac h (aO (h.ev rfl) (h.ev rfl)) rfl ?_;intro f h
    refine ac h (ah (h.ev rfl)) rfl ?_;intro f h
    refine a2 h rfl rfl rfl ?_
    refine ac h (aq dP (h.ev rfl)) rfl ?_;intro f h
    refine a2 h rfl rfl rfl ?_
    refine aC (V:=u2) (ax (bq.of_own s 1 rfl) 67 (ed _ _ _ _)) h cf rfl rfl ?_;intro f h
    refine a2 h rfl rfl rfl ?_
    refine ac h (aq dP (h.ev rfl)) rfl ?_;intro f h
    refine a2 h rfl rfl rfl ?_
    refine aC (V:=v2) (ax (bq.of_own s 0 rfl) 67 (ed _ _ _ _)) h cf rfl rfl ?_;intro f h
    refine a2 h rfl rfl rfl ?_
    refine aK h s ui (lK a.fg b.fg u2 v2 _ (hA2.keep s.ext) (hB2.keep s.ext) ha2 hb2) rfl rfl ?_;intro f w1 v9 hT hE h s;obtain rfl:=hT
    refine ac h (aO (h.ev rfl) (h.ev rfl)) rfl ?_;intro f h
    refine ac h (aj (h.ev rfl)) rfl ?_;intro f h
    refine ai ?_
    refine hK2 _ _ ?_
    refine wpIn_ret ?_
    exact bu rfl h s rfl (by show _=_;rw [Du e0 e1 e2])
theorem jZ (L K:List N3) (vo vp:Value) (w:World) (hO:cI w vo L) (hL:L.length≤40) (hP:cI w vp K) (hK:K.length≤40) (hbL:RwB L) (hbK:RwB K):Calls Tryz.prog 32 [.agg #[vo],.agg #[vp]].toArray w (cO w (is (.bool (ml (nds L) (nds K))))):=by
 refine bh Tryz.func32 rfl Tryz.ntmps32 rfl [(0,.agg #[vo]),(1,.agg #[vp])] (by simp) fun f h=>?_
 have s:=St.start w
 refine ak fun K1 hK1=>?_
 refine ag ?_
 refine bR (#[vo]) h s rfl rfl rfl ?_;intro f w1 b2 h s
 refine bR (#[vp]) h s rfl rfl rfl ?_;intro f w1 b3 h s
 refine ac h (aj (h.ev rfl)) rfl ?_;intro f h
 refine ai ?_
 refine hK1 _ _ ?_
 refine ak fun K2 hK2=>?_
 refine ak fun K3 hK3=>?_
 refine ag ?_
 refine ac h (aq ck (h.ev rfl)) rfl ?_;intro f h
 refine aC (V:=vo) (ax (bq.of_own s 1 rfl) 0 rfl) h c3 rfl rfl ?_;intro f h
 refine ac h (bK (hO.1.keep s.ext) Tryz.underlying22 (h.ev rfl)) rfl ?_;intro f h
 refine ac h (aq ck (h.ev rfl)) rfl ?_;intro f h
 refine aC (V:=vp) (ax (bq.of_own s 0 rfl) 0 rfl) h c3 rfl rfl ?_;intro f h
 refine ac h (bK (hP.1.keep s.ext) Tryz.underlying22 (h.ev rfl)) rfl ?_;intro f h
 refine ac h (cJ (h.ev rfl) (h.ev rfl)) rfl ?_;intro f h
 refine ai ?_
 refine hK3 _ _ ?_
 refine bL h rfl (fun hc=>?_) (fun hc=>?_)
 ·have hne:¬ (nds L).length=(nds K).length:=by rw [List.length_map,List.length_map];intro e9;exact(of_decide_eq_true hc) (by omega)
  refine ak fun K4 hK4=>?_
  refine ag ?_
  refine ac h (aj (h.ev rfl)) rfl ?_;intro f h
  refine ai ?_
  refine hK4 _ _ ?_
  refine wpIn_ret ?_
  refine a8 ?_
  exact bu rfl h s rfl (by show _=_;rw [sK hne])
 ·have hle:L.length=K.length:=by have:=of_decide_eq_false hc;omega
  refine wpIn_skip ?_
  refine hK2 _ _ ?_
  refine ak fun K5 hK5=>?_
  refine ak fun K6 hK6=>?_
  refine ag ?_
  refine ac h (aq ck (h.ev rfl)) rfl ?_;intro f h
  refine aC (V:=vo) (ax (bq.of_own s 1 rfl) 0 rfl) h c3 rfl rfl ?_;intro f h
  refine ac h (bK (hO.1.keep s.ext) Tryz.underlying22 (h.ev rfl)) rfl ?_;intro f h
  refine ac h (ah (h.ev rfl)) rfl ?_;intro f h
  refine ai ?_
  refine hK6 _ _ ?_
  refine wpIn_block ?_
  refine wpIn_loop_ghost (fun nn aa ww=>∃ k:Nat,Sl 32 aa [(0,.agg #[vo]),(1,.agg #[vp]),(2,.pointer (some ⟨b2,0,none⟩)),(3,.pointer (some ⟨b3,0,none⟩)),(15,.int .i64 (L.length:Int)),(16,.int .i64 (k:Int))]∧St w [.blk b3 (.cells (#[vp]) 24),.blk b2 (.cells (#[vo]) 24)] ww∧nn=L.length - k∧k≤L.length∧∀ j,j<k→eF (L.getD j z3).1 (K.getD j z3).1=true) (L.length - (0)) ⟨0,h.only ⟨rfl,rfl,rfl,rfl,rfl,aQ rfl (by omega),trivial⟩,s.as ⟨rfl,rfl,trivial⟩,rfl,Nat.zero_le _,fun j hj=>absurd hj (Nat.not_lt_zero _)⟩ ?_
  rintro _ f w1 ⟨k,h,s,hnn,hp0,hp1⟩
  refine ak fun K7 hK7=>?_
  refine ag ?_
  refine ac h (cc (h.ev rfl) (h.ev rfl)) rfl ?_;intro f h
  refine ai ?_
  refine hK7 _ _ ?_
  refine ak fun K8 hK8=>?_
  refine bL h rfl (fun hc=>?_) (fun hc=>?_)
  ·replace hc:=of_decide_eq_true hc
   refine wpIn_skip ?_
   refine hK8 _ _ ?_
   refine ak fun K9 hK9=>?_
   refine wpIn_block ?_
   refine ak fun K10 hK10=>?_
   refine ag ?_
   have hkl:k<L.length:=by omega
   have hkk:k<K.length:=by omega
   have hx9:=hbL.each _ (bj hkl)
   have hy9:=hbK.each _ (bj hkk)
   refine ac h (ah (h.ev rfl)) rfl ?_;intro f h
   refine ac h (aj (h.ev rfl)) rfl ?_;intro f h
   refine ai ?_
   refine hK10 _ _ ?_
   refine ak fun K11 hK11=>?_
   cases hl9:(eF (L.getD k z3).1 (K.getD k z3).1:Bool)
   ·skip
    refine bG 12 [[],[0],[],[0,1,2],[0,1,2,3],[],[5],[],[5,6,7],[5,6,7,8],[0,1,2,3,4,5,6,7,8,9],[0,1,2,3,4,5,6,7,8,9,10]] h (by kernel_rfl) (by kernel_rfl) (by kernel_rfl) ?_
    refine ao h (aq ck (h.ev rfl)) rfl ?_;intro f h
    refine bz (V:=vo) (ax (bq.of_own s 1 rfl) 0 rfl) h c3 rfl rfl ?_;intro f h
    refine ao h (ah (h.ev rfl)) rfl ?_;intro f h
    refine ao h (bU (hO.1.keep s.ext) (k) Tryz.underlying22 fa (h.ev rfl) (h.ev rfl) (rfl) (by omega)) rfl ?_;intro f h
    refine bg ((hO.1.keep s.ext).el (k) (by omega) (by decide) (D:=au (L.getD k z3).1.me (L.getD k z3).1.pr (L.getD k z3).2.1 (L.getD k z3).2.2) (cR L k hkl)) h bw rfl (aw _ _ _ _) rfl ?_;intro f h
    refine ao h (aq ck (h.ev rfl)) rfl ?_;intro f h
    refine bz (V:=vp) (ax (bq.of_own s 0 rfl) 0 rfl) h c3 rfl rfl ?_;intro f h
    refine ao h (ah (h.ev rfl)) rfl ?_;intro f h
    refine ao h (bU (hP.1.keep s.ext) (k) Tryz.underlying22 fa (h.ev rfl) (h.ev rfl) (rfl) (by omega)) rfl ?_;intro f h
    refine bg ((hP.1.keep s.ext).el (k) (by omega) (by decide) (D:=au (K.getD k z3).1.me (K.getD k z3).1.pr (K.getD k z3).2.1 (K.getD k z3).2.2) (cR K k hkk)) h bw rfl (aw _ _ _ _) rfl ?_;intro f h
    refine cm h yL (fun w9 hE9=>aT (.bool false) (pf (L.getD k z3).1 (K.getD k z3).1 (L.getD k z3).2.1 (L.getD k z3).2.2 (K.getD k z3).2.1 (K.getD k z3).2.2 w9 (((hO.2 _ (bj hkl)).1).keep (s.ext.trans hE9)) (((hO.2 _ (bj hkl)).2).keep (s.ext.trans hE9)) (((hP.2 _ (bj hkk)).1).keep (s.ext.trans hE9)) (((hP.2 _ (bj hkk)).2).keep (s.ext.trans hE9)) (by omega) (by omega) (by omega) (by omega)) (congrArg Value.bool hl9)) rfl rfl ?_;intro f h
    refine ao h (aE (.bool true) (bI (h.ev rfl)) rfl) rfl ?_;intro f h
    refine cn s fun w1 s=>?_
    refine ai ?_
    refine hK11 _ _ ?_
    refine wpIn_cond_true (h.ev rfl) ?_
    refine ak fun K12 hK12=>?_
    refine ag ?_
    refine ac h (aj (h.ev rfl)) rfl ?_;intro f h
    refine ai ?_
    refine hK12 _ _ ?_
    refine wpIn_ret ?_
    refine bT ?_
    refine a8 ?_
    refine a8 ?_
    refine bT ?_
    refine a8 ?_
    exact bu rfl h s rfl (by show _=_;rw [wc hkl hkk hl9])
   ·skip
    refine bG 12 [[],[0],[],[0,1,2],[0,1,2,3],[],[5],[],[5,6,7],[5,6,7,8],[0,1,2,3,4,5,6,7,8,9],[0,1,2,3,4,5,6,7,8,9,10]] h (by kernel_rfl) (by kernel_rfl) (by kernel_rfl) ?_
    refine ao h (aq ck (h.ev rfl)) rfl ?_;intro f h
    refine bz (V:=vo) (ax (bq.of_own s 1 rfl) 0 rfl) h c3 rfl rfl ?_;intro f h
    refine ao h (ah (h.ev rfl)) rfl ?_;intro f h
    refine ao h (bU (hO.1.keep s.ext) (k) Tryz.underlying22 fa (h.ev rfl) (h.ev rfl) (rfl) (by omega)) rfl ?_;intro f h
    refine bg ((hO.1.keep s.ext).el (k) (by omega) (by decide) (D:=au (L.getD k z3).1.me (L.getD k z3).1.pr (L.getD k z3).2.1 (L.getD k z3).2.2) (cR L k hkl)) h bw rfl (aw _ _ _ _) rfl ?_;intro f h
    refine ao h (aq ck (h.ev rfl)) rfl ?_;intro f h
    refine bz (V:=vp) (ax (bq.of_own s 0 rfl) 0 rfl) h c3 rfl rfl ?_;intro f h
    refine ao h (ah (h.ev rfl)) rfl ?_;intro f h
    refine ao h (bU (hP.1.keep s.ext) (k) Tryz.underlying22 fa (h.ev rfl) (h.ev rfl) (rfl) (by omega)) rfl ?_;intro f h
    refine bg ((hP.1.keep s.ext).el (k) (by omega) (by decide) (D:=au (K.getD k z3).1.me (K.getD k z3).1.pr (K.getD k z3).2.1 (K.getD k z3).2.2) (cR K k hkk)) h bw rfl (aw _ _ _ _) rfl ?_;intro f h
    refine cm h yL (fun w9 hE9=>aT (.bool true) (pf (L.getD k z3).1 (K.getD k z3).1 (L.getD k z3).2.1 (L.getD k z3).2.2 (K.getD k z3).2.1 (K.getD k z3).2.2 w9 (((hO.2 _ (bj hkl)).1).keep (s.ext.trans hE9)) (((hO.2 _ (bj hkl)).2).keep (s.ext.trans hE9)) (((hP.2 _ (bj hkk)).1).keep (s.ext.trans hE9)) (((hP.2 _ (bj hkk)).2).keep (s.ext.trans hE9)) (by omega) (by omega) (by omega) (by omega)) (congrArg Value.bool hl9)) rfl rfl ?_;intro f h
    refine ao h (aE (.bool false) (bI (h.ev rfl)) rfl) rfl ?_;intro f h
    refine cn s fun w1 s=>?_
    refine ai ?_
    refine hK11 _ _ ?_
    refine wpIn_cond_false (h.ev rfl) ?_
    refine wpIn_skip ?_
    refine bH ?_
    refine hK9 _ _ ?_
    refine ag ?_
    refine ac h (cp (h.ev rfl) (h.ev rfl) (by omega)) rfl ?_;intro f h
    refine ac h (ah (h.ev rfl)) rfl ?_;intro f h
    refine ai ?_
    refine ca ?_
    exact ⟨_,by omega,⟨k+1,h.only ⟨rfl,rfl,rfl,rfl,rfl,aQ rfl (by omega),trivial⟩,St.as s ⟨rfl,rfl,trivial⟩,rfl,by omega,At hp1 hl9⟩⟩
  ·replace hc:=of_decide_eq_false hc
   refine wpIn_exit ?_
   refine bN ?_
   refine bN ?_
   refine cG ?_
   refine hK5 _ _ ?_
   refine ak fun K13 hK13=>?_
   refine ag ?_
   refine ac h (aj (h.ev rfl)) rfl ?_;intro f h
   refine ai ?_
   refine hK13 _ _ ?_
   refine wpIn_ret ?_
   exact bu rfl h s rfl (by show _=_;rw [tt hle (fun j hj=>hp1 j (by omega))])
set_option maxHeartbeats 1000000 in
theorem wE (L:List N3) (vo:Value) (w:World) (hO:cI w vo L):Calls Tryz.prog 7 [.agg #[vo]].toArray w (cO w (B4 w 42 ((L.take (min L.length 18)).map gU))):=by
 have hT:=hO.take (min L.length 18) (Nat.min_le_left _ _)
 obtain ⟨M,hM⟩:∃ x9,x9=L.take (min L.length 18):=⟨_,rfl⟩
 rw [← hM] at hT
 have hM18:M.length≤18:=by rw [hM,List.length_take];omega
 refine bh Tryz.func7 rfl Tryz.ntmps7 rfl [(0,.agg #[vo])] (by simp) fun f h=>?_
 have s:=St.start w
 refine ak fun K1 hK1=>?_
 refine ag ?_
 refine bR (#[vo]) h s rfl rfl rfl ?_;intro f w1 b1 h s
 refine bi (#[aU]) h s d6 rfl rfl ?_;intro f w1 b2 h s
 refine ai ?_
 refine hK1 _ _ ?_
 refine ak fun K2 hK2=>?_
 refine ag ?_
 refine bi (#[aU]) h s d6 rfl rfl ?_;intro f w1 b3 h s
 refine ai ?_
 refine hK2 _ _ ?_
 refine ak fun K3 hK3=>?_
 refine ak fun K4 hK4=>?_
 refine ag ?_
 replace s:=s.nilSl 42 68
 refine ac h (aq ck (h.ev rfl)) rfl ?_;intro f h
 refine aC (V:=vo) (ax (bq.of_own s 3 rfl) 0 rfl) h c3 rfl rfl ?_;intro f h
 refine ac h (aq ck (h.ev rfl)) rfl ?_;intro f h
 refine aC (V:=vo) (ax (bq.of_own s 3 rfl) 0 rfl) h c3 rfl rfl ?_;intro f h
 refine ac h (bK (hO.1.keep s.ext) Tryz.underlying22 (h.ev rfl)) rfl ?_;intro f h
 refine ac h (nq (h.ev rfl) (h.ev rfl)) rfl ?_;intro f h
 refine ac h (dF (hO.1.keep s.ext) (min L.length 18) Tryz.underlying22 fa (h.ev rfl) (h.ev rfl) (by split<;>omega) (by omega)) rfl ?_;intro f h
 refine ac h (bK (hT.1.keep s.ext) Tryz.underlying22 (h.ev rfl)) rfl ?_;intro f h
 refine ac h (ah (h.ev rfl)) rfl ?_;intro f h
 refine ai ?_
 refine hK4 _ _ ?_
 refine wpIn_block ?_
 refine wpIn_loop_ghost (fun nn aa ww=>∃ k:Nat,∃ vb:Value,Sl 42 aa [(0,.agg #[vo]),(1,.pointer (some ⟨b1,0,none⟩)),(2,.pointer (some ⟨b2,0,none⟩)),(3,.pointer (some ⟨b3,0,none⟩)),(12,(f8 vo (min L.length 18))),(13,.int .i64 (M.length:Int)),(14,.int .i64 (k:Int))]∧St w [.sl vb 42 68 ((M.take k).map gU).length (aD ((M.take k).map gU)),.blk b3 (.cells (#[vb]) 24),.blk b2 (.cells (#[aU]) 24),.blk b1 (.cells (#[vo]) 24)] ww∧nn=M.length - k∧k≤M.length) (M.length - (0)) ⟨0,aU,h.only ⟨rfl,rfl,rfl,rfl,rfl,rfl,aQ rfl (by omega),trivial⟩,s.as ⟨rfl,rfl,rfl,rfl,trivial⟩,rfl,Nat.zero_le _⟩ ?_
 rintro _ f w1 ⟨k,vb,h,s,hnn,hp0⟩
 refine ak fun K5 hK5=>?_
 refine ag ?_
 refine ac h (cc (h.ev rfl) (h.ev rfl)) rfl ?_;intro f h
 refine ai ?_
 refine hK5 _ _ ?_
 refine ak fun K6 hK6=>?_
 refine bL h rfl (fun hc=>?_) (fun hc=>?_)
 ·replace hc:=of_decide_eq_true hc
  refine wpIn_skip ?_
  refine hK6 _ _ ?_
  refine ak fun K7 hK7=>?_
  refine wpIn_block ?_
  refine ak fun K8 hK8=>?_
  refine ag ?_
  have hkl:k<M.length:=by omega
  refine ac h (bU (hT.1.keep s.ext) (k) Tryz.underlying22 fa (h.ev rfl) (h.ev rfl) (by omega) (by omega)) rfl ?_;intro f h
  refine aI ((hT.1.keep s.ext).el (k) (by omega) (by decide) (D:=au (M.getD k z3).1.me (M.getD k z3).1.pr (M.getD k z3).2.1 (M.getD k z3).2.2) (cR M k hkl)) h bw rfl (aw _ _ _ _) rfl ?_;intro f h
  refine bi (au ap ap aU aU) h s ei rfl rfl ?_;intro f w1 b5 h s
  refine aA 0 h s bw rfl rfl rfl (aw _ _ _ _) (aw _ _ _ _) (br (db ((hT.2 _ (bj hkl)).1.keep s.ext)) (db ((hT.2 _ (bj hkl)).2.keep s.ext))) ?_;intro w1 s
  refine ai ?_
  refine hK8 _ _ ?_
  refine ak fun K9 hK9=>?_
  have hbs:=s.ext.le
  refine' AW 11 [0,2,7,9,11,12,13,14,16] [8,10] [] [[],[0],[],[2],[2,3],[2,3,4],[0,1,2,3,4,5],[],[7],[],[9],[9,10],[9,10,11],[7,8,9,10,11,12],[0,1,2,3,4,5,6,7,8,9,10],[0,1,2,3,4,5,6,7,8,9,10,14],[0,1,2,3,4,5,6,7,8,9,10,11,12,13,14,15],[0,1,2,3,4,5,6,7,8,9,10,11,12,13,14,15,16]] (is _::is _::is _::is _::is _::is _::is _::is _::(is ((M.getD k z3).2.2))::is _::(is ((M.getD k z3).2.2))::is _::is _::is _::is _::is undef::is _::is undef::[]) (fun _=>True) h s (by kernel_rfl) (by kernel_rfl) (by kernel_rfl) (by kernel_rfl) rfl (fun _ _ h _=>h) (trivial) ⟨⟨_,rfl⟩,⟨_,rfl⟩,⟨_,rfl⟩,⟨_,rfl⟩,⟨_,rfl⟩,⟨_,rfl⟩,⟨_,rfl⟩,⟨_,rfl⟩,⟨_,rfl⟩,trivial⟩ ⟨⟨_,rfl⟩,⟨_,rfl⟩,trivial⟩ ⟨bF _,bF _,bF _,bF _,bF _,bF _,bF _,bF _,bF _,bF _,bF _,bF _,bF _,bF _,bF _,bF _,bF _,bF _,trivial⟩ (And.intro ?_ (And.intro ?_ (And.intro ?_ (And.intro ?_ (And.intro ?_ (And.intro ?_ (And.intro ?_ (And.intro ?_ (And.intro ?_ (And.intro ?_ (And.intro ?_ (And.intro ?_ (And.intro ?_ (And.intro ?_ (And.intro ?_ (And.intro ?_ (And.intro ?_ (And.intro ?_ (trivial))))))))))))))))))) ?_
  rotate_left 14
  ·refine dS 18 rfl (by decide) ?_
   intro f9 w2 hE hs hl
   have e5:f9.tmps.getD 5 undef=_:=dR hl 5 (by kernel_rfl) (by kernel_rfl) (h.holds 5 _ rfl)
   have h:=aB [(5,_)] hs rfl (holds_lk ⟨e5,trivial⟩)
   refine ac h (aq cC (h.ev rfl)) rfl ?_;intro f h
   refine ai ?_
   have e9:=h.holds 18 _ rfl
   refine ⟨?_,rfl⟩
   refine e9.trans ?_
   exact rfl
  ·refine cz 19 rfl (by decide) (by decide) ?_
   intro f9 w2 hE hs hd9 hl
   have e18:f9.tmps.getD 18 undef=_:=cd hl 18 0 (by kernel_rfl) (by kernel_rfl)
   have h:=aB [(18,_)] hs hd9 (holds_lk ⟨e18,trivial⟩)
   have s:=s.more hE
   have z:=St.start w2
   refine aC (V:=(M.getD k z3).2.1) (ax (bq.of_own s 0 rfl) 66 (c7 _ _ _ _)) h cf rfl rfl ?_;intro f h
   refine ai ?_
   have e9:=h.holds 19 _ rfl
   refine ⟨?_,Ext.refl _,fun h9=>absurd h9 (by decide)⟩
   refine e9.trans ?_
   exact rfl
  ·refine dS 20 rfl (by decide) ?_
   intro f9 w2 hE hs hl
   have e5:f9.tmps.getD 5 undef=_:=dR hl 5 (by kernel_rfl) (by kernel_rfl) (h.holds 5 _ rfl)
   have h:=aB [(5,_)] hs rfl (holds_lk ⟨e5,trivial⟩)
   refine ac h (aq cC (h.ev rfl)) rfl ?_;intro f h
   refine ai ?_
   have e9:=h.holds 20 _ rfl
   refine ⟨?_,rfl⟩
   refine e9.trans ?_
   exact rfl
  ·refine cz 21 rfl (by decide) (by decide) ?_
   intro f9 w2 hE hs hd9 hl
   have e20:f9.tmps.getD 20 undef=_:=cd hl 20 2 (by kernel_rfl) (by kernel_rfl)
   have h:=aB [(20,_)] hs hd9 (holds_lk ⟨e20,trivial⟩)
   have s:=s.more hE
   have z:=St.start w2
   refine aC (V:=(M.getD k z3).2.1) (ax (bq.of_own s 0 rfl) 66 (c7 _ _ _ _)) h cf rfl rfl ?_;intro f h
   refine ai ?_
   have e9:=h.holds 21 _ rfl
   refine ⟨?_,Ext.refl _,fun h9=>absurd h9 (by decide)⟩
   refine e9.trans ?_
   exact rfl
  ·refine cz 22 rfl (by decide) (by decide) ?_
   intro f9 w2 hE hs hd9 hl
   have e21:f9.tmps.getD 21 undef=_:=cd hl 21 3 (by kernel_rfl) (by kernel_rfl)
   have h:=aB [(21,_)] hs hd9 (holds_lk ⟨e21,trivial⟩)
   have s:=s.more hE
   have z:=St.start w2
   refine ac h (bK ((hT.2 _ (bj hkl)).1.keep s.ext) Tryz.underlying36 (h.ev rfl)) rfl ?_;intro f h
   refine ai ?_
   have e9:=h.holds 22 _ rfl
   refine ⟨?_,Ext.refl _,fun h9=>absurd h9 (by decide)⟩
   refine e9.trans ?_
   exact rfl
  ·refine cz 23 rfl (by decide) (by decide) ?_
   intro f9 w2 hE hs hd9 hl
   have e22:f9.tmps.getD 22 undef=_:=cd hl 22 4 (by kernel_rfl) (by kernel_rfl)
   have h:=aB [(22,_)] hs hd9 (holds_lk ⟨e22,trivial⟩)
   have s:=s.more hE
   have z:=St.start w2
   refine ac h (nq (h.ev rfl) (h.ev rfl)) rfl ?_;intro f h
   refine ai ?_
   have e9:=h.holds 23 _ rfl
   refine ⟨?_,Ext.refl _,fun h9=>absurd h9 (by decide)⟩
   refine e9.trans ?_
   exact rfl
  ·refine cz 24 rfl (by decide) (by decide) ?_
   intro f9 w2 hE hs hd9 hl
   have e19:f9.tmps.getD 19 undef=_:=cd hl 19 1 (by kernel_rfl) (by kernel_rfl)
   have e23:f9.tmps.getD 23 undef=_:=cd hl 23 5 (by kernel_rfl) (by kernel_rfl)
   have h:=aB [(19,_),(23,_)] hs hd9 (holds_lk ⟨e19,e23,trivial⟩)
   have s:=s.more hE
   have z:=St.start w2
   refine ac h (dF ((hT.2 _ (bj hkl)).1.keep s.ext) (min (M.getD k z3).1.sc.length 6) Tryz.underlying36 cA (h.ev rfl) (h.ev rfl) (by split<;>omega) (by omega)) rfl ?_;intro f h
   refine ai ?_
   have e9:=h.holds 24 _ rfl
   refine ⟨?_,Ext.refl _,fun h9=>absurd h9 (by decide)⟩
   refine e9.trans ?_
   exact rfl
  ·refine dS 25 rfl (by decide) ?_
   intro f9 w2 hE hs hl
   have e5:f9.tmps.getD 5 undef=_:=dR hl 5 (by kernel_rfl) (by kernel_rfl) (h.holds 5 _ rfl)
   have h:=aB [(5,_)] hs rfl (holds_lk ⟨e5,trivial⟩)
   refine ac h (aq dP (h.ev rfl)) rfl ?_;intro f h
   refine ai ?_
   have e9:=h.holds 25 _ rfl
   refine ⟨?_,rfl⟩
   refine e9.trans ?_
   exact rfl
  ·refine cz 26 rfl (by decide) (by decide) ?_
   intro f9 w2 hE hs hd9 hl
   have e25:f9.tmps.getD 25 undef=_:=cd hl 25 7 (by kernel_rfl) (by kernel_rfl)
   have h:=aB [(25,_)] hs hd9 (holds_lk ⟨e25,trivial⟩)
   have s:=s.more hE
   have z:=St.start w2
   refine aC (V:=(M.getD k z3).2.2) (ax (bq.of_own s 0 rfl) 67 (ed _ _ _ _)) h cf rfl rfl ?_;intro f h
   refine ai ?_
   have e9:=h.holds 26 _ rfl
   refine ⟨?_,Ext.refl _,fun h9=>absurd h9 (by decide)⟩
   refine e9.trans ?_
   exact rfl
  ·refine dS 27 rfl (by decide) ?_
   intro f9 w2 hE hs hl
   have e5:f9.tmps.getD 5 undef=_:=dR hl 5 (by kernel_rfl) (by kernel_rfl) (h.holds 5 _ rfl)
   have h:=aB [(5,_)] hs rfl (holds_lk ⟨e5,trivial⟩)
   refine ac h (aq dP (h.ev rfl)) rfl ?_;intro f h
   refine ai ?_
   have e9:=h.holds 27 _ rfl
   refine ⟨?_,rfl⟩
   refine e9.trans ?_
   exact rfl
  ·refine cz 28 rfl (by decide) (by decide) ?_
   intro f9 w2 hE hs hd9 hl
   have e27:f9.tmps.getD 27 undef=_:=cd hl 27 9 (by kernel_rfl) (by kernel_rfl)
   have h:=aB [(27,_)] hs hd9 (holds_lk ⟨e27,trivial⟩)
   have s:=s.more hE
   have z:=St.start w2
   refine aC (V:=(M.getD k z3).2.2) (ax (bq.of_own s 0 rfl) 67 (ed _ _ _ _)) h cf rfl rfl ?_;intro f h
   refine ai ?_
   have e9:=h.holds 28 _ rfl
   refine ⟨?_,Ext.refl _,fun h9=>absurd h9 (by decide)⟩
   refine e9.trans ?_
   exact rfl
  ·refine dS 29 rfl (by decide) ?_
   intro f9 w2 hE hs hl
   have e28:f9.tmps.getD 28 undef=_:=cd hl 28 10 (by kernel_rfl) (by kernel_rfl)
   have h:=aB [(28,_)] hs rfl (holds_lk ⟨e28,trivial⟩)
   refine ac h (bK ((hT.2 _ (bj hkl)).2.keep s.ext) Tryz.underlying36 (h.ev rfl)) rfl ?_;intro f h
   refine ai ?_
   have e9:=h.holds 29 _ rfl
   refine ⟨?_,rfl⟩
   refine e9.trans ?_
   exact rfl
  ·refine dS 30 rfl (by decide) ?_
   intro f9 w2 hE hs hl
   have e29:f9.tmps.getD 29 undef=_:=cd hl 29 11 (by kernel_rfl) (by kernel_rfl)
   have h:=aB [(29,_)] hs rfl (holds_lk ⟨e29,trivial⟩)
   refine ac h (nq (h.ev rfl) (h.ev rfl)) rfl ?_;intro f h
   refine ai ?_
   have e9:=h.holds 30 _ rfl
   refine ⟨?_,rfl⟩
   refine e9.trans ?_
   exact rfl
  ·refine dS 31 rfl (by decide) ?_
   intro f9 w2 hE hs hl
   have e26:f9.tmps.getD 26 undef=_:=cd hl 26 8 (by kernel_rfl) (by kernel_rfl)
   have e30:f9.tmps.getD 30 undef=_:=cd hl 30 12 (by kernel_rfl) (by kernel_rfl)
   have h:=aB [(26,_),(30,_)] hs rfl (holds_lk ⟨e26,e30,trivial⟩)
   refine ac h (dF ((hT.2 _ (bj hkl)).2.keep s.ext) (min (M.getD k z3).1.fg.length 18) Tryz.underlying36 cA (h.ev rfl) (h.ev rfl) (by split<;>omega) (by omega)) rfl ?_;intro f h
   refine ai ?_
   have e9:=h.holds 31 _ rfl
   refine ⟨?_,rfl⟩
   refine e9.trans ?_
   exact rfl
  ·refine dS 32 rfl (by decide) ?_
   intro f9 w2 hE hs hl
   have e5:f9.tmps.getD 5 undef=_:=dR hl 5 (by kernel_rfl) (by kernel_rfl) (h.holds 5 _ rfl)
   have h:=aB [(5,_)] hs rfl (holds_lk ⟨e5,trivial⟩)
   refine ac h (aq cC (h.ev rfl)) rfl ?_;intro f h
   refine ai ?_
   have e9:=h.holds 32 _ rfl
   refine ⟨?_,rfl⟩
   refine e9.trans ?_
   exact rfl
  ·exact gu (by decide) (by decide)
  ·refine dS 33 rfl (by decide) ?_
   intro f9 w2 hE hs hl
   have e5:f9.tmps.getD 5 undef=_:=dR hl 5 (by kernel_rfl) (by kernel_rfl) (h.holds 5 _ rfl)
   have h:=aB [(5,_)] hs rfl (holds_lk ⟨e5,trivial⟩)
   refine ac h (aq dP (h.ev rfl)) rfl ?_;intro f h
   refine ai ?_
   have e9:=h.holds 33 _ rfl
   refine ⟨?_,rfl⟩
   refine e9.trans ?_
   exact rfl
  ·exact gu (by decide) (by decide)
  ·intro f9 w2 hE hs hd9 hWp hT hR hFr hDj
   replace h:=sl_new (ops:=_) [(18,_),(19,_),(20,_),(21,_),(22,_),(23,_),(24,_),(25,_),(26,_),(27,_),(28,_),(29,_),(30,_),(31,_),(32,_),(33,_)] h hs hd9 hR ⟨hT 0 18 (by decide) rfl,hT 1 19 (by decide) rfl,hT 2 20 (by decide) rfl,hT 3 21 (by decide) rfl,hT 4 22 (by decide) rfl,hT 5 23 (by decide) rfl,hT 6 24 (by decide) rfl,hT 7 25 (by decide) rfl,hT 8 26 (by decide) rfl,hT 9 27 (by decide) rfl,hT 10 28 (by decide) rfl,hT 11 29 (by decide) rfl,hT 12 30 (by decide) rfl,hT 13 31 (by decide) rfl,hT 14 32 (by decide) rfl,hT 16 33 (by decide) rfl,trivial⟩ (by kernel_rfl)
   replace s:=s.more hE
   clear hT hR hFr hDj
   refine iJ.cons ?_
   refine bk 0 h s cf rfl rfl rfl (by rw [aw];omega) (db (((hT.2 _ (bj hkl)).1.cut _ (Nat.min_le_left _ _)).keep s.ext)) ?_;intro w1 s
   replace s:=s.recell (D:=au (M.getD k z3).1.me (M.getD k z3).1.pr (f8 (M.getD k z3).2.1 (min (M.getD k z3).1.sc.length 6)) (M.getD k z3).2.2) 0 rfl (gR _ _ _ _ _)
   refine ai ⟨trivial,xR.no (by kernel_rfl),?_⟩
   refine iJ.cons ?_
   refine bk 0 h s cf rfl rfl rfl (by rw [aw];omega) (db (((hT.2 _ (bj hkl)).2.cut _ (Nat.min_le_left _ _)).keep s.ext)) ?_;intro w1 s
   replace s:=s.recell (D:=au (M.getD k z3).1.me (M.getD k z3).1.pr (f8 (M.getD k z3).2.1 (min (M.getD k z3).1.sc.length 6)) (f8 (M.getD k z3).2.2 (min (M.getD k z3).1.fg.length 18))) 0 rfl (jv _ _ _ _ _)
   refine ai ⟨trivial,xR.no (by kernel_rfl),?_⟩
   refine iJ.nil ?_
   refine hK9 _ _ ?_
   refine ag ?_
   refine ac h (aq ck (h.ev rfl)) rfl ?_;intro f h
   refine aC (V:=vb) (ax (bq.of_own s 2 rfl) 0 rfl) h c3 rfl rfl ?_;intro f h
   refine ay 0 h s bw rfl rfl (aw _ _ _ _) rfl ?_;intro f h
   refine cW (vs:=[.agg (au (gU (M.getD k z3)).1.me (gU (M.getD k z3)).1.pr (gU (M.getD k z3)).2.1 (gU (M.getD k z3)).2.2)]) [.tmp 36] h s Tryz.underlying22 iw rfl rfl (kZ (gU (M.getD k z3))) rfl rfl rfl ?_;intro f w1 v37 h s
   refine eR 2 0 h s Tryz.underlying22 iw rfl rfl rfl rfl (by decide) (q9 (nK (hT.2 _ (bj hkl))).ones.1 (nK (hT.2 _ (bj hkl))).ones.2) (by rw [List.length_map,List.length_take];unfold maxLen;omega) (by rw [List.length_map,List.length_take];omega) rfl ?_;intro f w1 v38 h s
   replace s:=s.pick _ (List.sublist_cons_self _ _)
   replace s:=s.resl (m:=((M.take (k+1)).map gU).length) (ys:=aD ((M.take (k+1)).map gU)) 1 rfl (by rw [m4 hkl,List.length_append];rfl) (by rw [m4 hkl,lQ,kU])
   refine ac h (aq ck (h.ev rfl)) rfl ?_;intro f h
   refine bk 2 h s c3 rfl rfl rfl (by show 0<1;decide) (bo (s.getSl 1 rfl)) ?_;intro w1 s
   replace s:=s.recell (D:=#[v38]) 2 rfl rfl
   refine ai ?_
   refine bH ?_
   refine hK7 _ _ ?_
   refine ag ?_
   refine ac h (cp (h.ev rfl) (h.ev rfl) (by omega)) rfl ?_;intro f h
   refine ac h (ah (h.ev rfl)) rfl ?_;intro f h
   refine ai ?_
   refine ca ?_
   exact ⟨_,by omega,⟨k+1,v38,h.only ⟨rfl,rfl,rfl,rfl,rfl,rfl,aQ rfl (by omega),trivial⟩,St.as (s.pick _ (List.sublist_append_right [_] _)) ⟨rfl,rfl,rfl,rfl,trivial⟩,rfl,by omega⟩⟩
 ·replace hc:=of_decide_eq_false hc
  refine wpIn_exit ?_
  refine bN ?_
  refine bN ?_
  refine cG ?_
  refine hK3 _ _ ?_
  refine ak fun K10 hK10=>?_
  refine ag ?_
  refine ay 1 h s a7 rfl rfl (rfl) rfl ?_;intro f h
  refine aA 2 h s a7 rfl rfl rfl (rfl) (rfl) (bY (bo (s.getSl 0 rfl))) ?_;intro w1 s
  refine ai ?_
  refine hK10 _ _ ?_
  refine wpIn_ret ?_
  exact eP 2 rfl h s a7 rfl rfl (rfl) (tJ (by obtain rfl:k=M.length:=(by omega);rw [List.take_length,hM]) (s.getSl 0 rfl))
theorem Bz (L K:List N3) (vo vp:Value) (e q:Int) (w:World) (hO:cI w vo L) (hL:L.length≤40) (hP:cI w vp K) (hK:K.length≤40) (hbL:RwB L) (hbK:RwB K):Calls Tryz.prog 18 [.agg #[vo],.agg #[vp],.int .i64 e,.int .i64 q].toArray w (cO w (is (.bool (AY L K e q)))):=by
 refine bh Tryz.func18 rfl Tryz.ntmps18 rfl [(0,.agg #[vo]),(1,.agg #[vp]),(2,.int .i64 e),(3,.int .i64 q)] (by simp) fun f h=>?_
 have s:=St.start w
 refine ak fun K1 hK1=>?_
 refine ag ?_
 refine bR (#[vo]) h s rfl rfl rfl ?_;intro f w1 b4 h s
 refine bR (#[vp]) h s rfl rfl rfl ?_;intro f w1 b5 h s
 refine ac h (aj (h.ev rfl)) rfl ?_;intro f h
 refine ai ?_
 refine hK1 _ _ ?_
 refine ak fun K2 hK2=>?_
 refine ak fun K3 hK3=>?_
 refine ag ?_
 refine ac h (ah (h.ev rfl)) rfl ?_;intro f h
 refine ac h (cJ (h.ev rfl) (h.ev rfl)) rfl ?_;intro f h
 refine ai ?_
 refine hK3 _ _ ?_
 refine bL h rfl (fun hc=>?_) (fun hc=>?_)
 ·have h0:¬ q=0:=by simpa using hc
  refine ag ?_
  refine ac h (cw jB) rfl ?_;intro f h
  refine aA 0 h s a7 rfl rfl rfl (rfl) (rfl) (bY (rfl)) ?_;intro w1 s
  refine ai ?_
  refine hK2 _ _ ?_
  refine ak fun K4 hK4=>?_
  cases e0:(decide (e=q):Bool)
  ·skip
   refine ag ?_
   refine ac h (ah (h.ev rfl)) rfl ?_;intro f h
   refine ac h (ah (h.ev rfl)) rfl ?_;intro f h
   refine ac h (aE (.bool false) (cb (h.ev rfl) (h.ev rfl)) (congrArg Value.bool e0)) rfl ?_;intro f h
   refine ac h (ah (h.ev rfl)) rfl ?_;intro f h
   refine aY (b:=true) h rfl rfl rfl rfl ?_;intro f h
   refine aY (b:=true) h rfl rfl rfl rfl ?_;intro f h
   refine aY (b:=true) h rfl rfl rfl rfl ?_;intro f h
   refine ac h (aL (h.ev rfl) (h.ev rfl)) rfl ?_;intro f h
   refine ac h (aj (h.ev rfl)) rfl ?_;intro f h
   refine ai ?_
   refine hK4 _ _ ?_
   refine wpIn_ret ?_
   exact bu rfl h s rfl (by show _=_;rw [yM e0])
  ·skip
   refine ag ?_
   refine ac h (ah (h.ev rfl)) rfl ?_;intro f h
   refine ac h (ah (h.ev rfl)) rfl ?_;intro f h
   refine ac h (aE (.bool true) (cb (h.ev rfl) (h.ev rfl)) (congrArg Value.bool e0)) rfl ?_;intro f h
   refine ac h (ah (h.ev rfl)) rfl ?_;intro f h
   refine a2 h rfl rfl rfl ?_
   refine ay 1 h s a7 rfl rfl (rfl) rfl ?_;intro f h
   refine a2 h rfl rfl rfl ?_
   refine ay 0 h s a7 rfl rfl (rfl) rfl ?_;intro f h
   refine a2 h rfl rfl rfl ?_
   refine aK h s vH (jZ L [] vo aU _ (hO.keep s.ext) hL (gp _) (by decide) hbL vB) rfl rfl ?_;intro f w1 v9 hT hE h s;obtain rfl:=hT
   refine ac h (aO (h.ev rfl) (h.ev rfl)) rfl ?_;intro f h
   refine ac h (aj (h.ev rfl)) rfl ?_;intro f h
   refine ai ?_
   refine hK4 _ _ ?_
   refine wpIn_ret ?_
   exact bu rfl h s rfl (by show _=_;rw [C5 e0 h0])
 ·have h0:q=0:=by simpa using hc
  refine wpIn_skip ?_
  refine hK2 _ _ ?_
  refine ak fun K5 hK5=>?_
  cases e0:(decide (e=q):Bool)
  ·skip
   refine ag ?_
   refine ac h (ah (h.ev rfl)) rfl ?_;intro f h
   refine ac h (ah (h.ev rfl)) rfl ?_;intro f h
   refine ac h (aE (.bool false) (cb (h.ev rfl) (h.ev rfl)) (congrArg Value.bool e0)) rfl ?_;intro f h
   refine ac h (ah (h.ev rfl)) rfl ?_;intro f h
   refine aY (b:=true) h rfl rfl rfl rfl ?_;intro f h
   refine aY (b:=true) h rfl rfl rfl rfl ?_;intro f h
   refine aY (b:=true) h rfl rfl rfl rfl ?_;intro f h
   refine ac h (aL (h.ev rfl) (h.ev rfl)) rfl ?_;intro f h
   refine ac h (aj (h.ev rfl)) rfl ?_;intro f h
   refine ai ?_
   refine hK5 _ _ ?_
   refine wpIn_ret ?_
   exact bu rfl h s rfl (by show _=_;rw [yM e0])
  ·skip
   refine ag ?_
   refine ac h (ah (h.ev rfl)) rfl ?_;intro f h
   refine ac h (ah (h.ev rfl)) rfl ?_;intro f h
   refine ac h (aE (.bool true) (cb (h.ev rfl) (h.ev rfl)) (congrArg Value.bool e0)) rfl ?_;intro f h
   refine ac h (ah (h.ev rfl)) rfl ?_;intro f h
   refine a2 h rfl rfl rfl ?_
   refine ay 1 h s a7 rfl rfl (rfl) rfl ?_;intro f h
   refine a2 h rfl rfl rfl ?_
   refine ay 0 h s a7 rfl rfl (rfl) rfl ?_;intro f h
   refine a2 h rfl rfl rfl ?_
   refine aK h s vH (jZ L K vo vp _ (hO.keep s.ext) hL (hP.keep s.ext) hK hbL hbK) rfl rfl ?_;intro f w1 v9 hT hE h s;obtain rfl:=hT
   refine ac h (aO (h.ev rfl) (h.ev rfl)) rfl ?_;intro f h
   refine ac h (aj (h.ev rfl)) rfl ?_;intro f h
   refine ai ?_
   refine hK5 _ _ ?_
   refine wpIn_ret ?_
   exact bu rfl h s rfl (by show _=_;rw [DG e0 h0])
end Go.Proofs.YthggibfkgofncaaGreat
