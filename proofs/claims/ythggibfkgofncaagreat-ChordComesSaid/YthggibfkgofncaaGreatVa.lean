/- What the references of ident, ring and finger answer for identifiers: ways, comparisons, what is on the way: for all identifiers. -/
import Derived.Test.YthggibfkgofncaaGreatCon
set_option linter.unusedVariables false
set_option linter.unusedSimpArgs false
set_option linter.unusedSectionVars false
namespace Go.Proofs.YthggibfkgofncaaGreat
open Go.RowKit
theorem kW (a:Id) (n:Nat) (hn:n<256) (w:World):Calls Tryz.prog 143 [dC a,.int .i64 (n:Int)].toArray w (cT w (is (.int .i64 (jp a.toNat n:Int)))):=by
 have ha:=c7 a (n / 8)
 refine bj Tryz.func143 rfl Tryz.ntmps143 rfl [(0,dC a),(1,.int .i64 (n:Int))] (by simp) fun f h=>?_
 have s:=St.start w
 refine aj fun K1 hK1=>?_
 refine ae ?_
 refine bT (bq a) h s rfl rfl rfl ?_;intro f w1 b2 h s
 refine ac h (ai (h.ev rfl)) rfl ?_;intro f h
 refine ah ?_
 refine hK1 _ _ ?_
 refine aj fun K2 hK2=>?_
 refine ae ?_
 refine ac h (ag (h.ev rfl)) rfl ?_;intro f h
 refine ac h (nL (h.ev rfl) (h.ev rfl) (by omega)) rfl ?_;intro f h
 refine ac h (fD (n / 8) Tryz.underlying26 fy (h.ev rfl) (h.ev rfl) (by omega) (by omega)) rfl ?_;intro f h
 refine dO 0 h s jj rfl rfl (cU _ _ (by omega)) rfl ?_;intro f h
 refine ac h (fw Tryz.underlying5 Tryz.underlying3 (h.ev rfl) (IntWalk.i64_in _ (by omega))) rfl ?_;intro f h
 refine ac h (ai (h.ev rfl)) rfl ?_;intro f h
 refine ah ?_
 refine hK2 _ _ ?_
 refine aj fun K3 hK3=>?_
 refine aj fun K4 hK4=>?_
 refine ae ?_
 refine ac h (ai (h.ev rfl)) rfl ?_;intro f h
 refine ah ?_
 refine hK4 _ _ ?_
 refine wpIn_block ?_
 refine wpIn_loop_ghost (fun nn aa ww=>∃ k:Nat,Sl 23 aa [(0,dC a),(1,.int .i64 (n:Int)),(2,.pointer (some ⟨b2,0,none⟩)),(5,.int .i64 ((bE a (n / 8) / 2 ^ k:Nat):Int)),(6,.int .i64 (k:Int))]∧St w [.blk b2 (.cells (bq a) 26)] ww∧nn=8 - k∧k≤7 - n % 8) (8 - (0)) ⟨0,h.only ⟨rfl,rfl,rfl,aR rfl (by simp),aR rfl (by omega),trivial⟩,s.as ⟨rfl,trivial⟩,rfl,by omega⟩ ?_
 rintro _ f w1 ⟨k,h,s,hnn,hp0⟩
 have hd:bE a (n / 8) / 2 ^ k≤bE a (n / 8):=Nat.div_le_self _ _
 have hd0:(0:Int)≤((bE a (n / 8) / 2 ^ k:Nat):Int):=Int.natCast_nonneg _
 refine aj fun K5 hK5=>?_
 refine aj fun K6 hK6=>?_
 refine ae ?_
 refine ac h (ag (h.ev rfl)) rfl ?_;intro f h
 refine ac h (ag (h.ev rfl)) rfl ?_;intro f h
 refine ac h (lO (h.ev rfl) (h.ev rfl) (by omega)) rfl ?_;intro f h
 refine ac h (dP (h.ev rfl) (h.ev rfl) (by omega)) rfl ?_;intro f h
 refine ac h (bD (h.ev rfl) (h.ev rfl)) rfl ?_;intro f h
 refine ah ?_
 refine hK6 _ _ ?_
 refine bA h rfl (fun hc=>?_) (fun hc=>?_)
 ·replace hc:=of_decide_eq_true hc
  refine wpIn_skip ?_
  refine hK5 _ _ ?_
  refine aj fun K7 hK7=>?_
  refine wpIn_block ?_
  refine ae ?_
  refine ac h (ag (h.ev rfl)) rfl ?_;intro f h
  refine ac h (nL (h.ev rfl) (h.ev rfl) (by omega)) rfl ?_;intro f h
  refine ac h (ai (h.ev rfl)) rfl ?_;intro f h
  refine ah ?_
  refine bF ?_
  refine hK7 _ _ ?_
  refine ae ?_
  refine ac h (ag (h.ev rfl)) rfl ?_;intro f h
  refine ac h (cg (h.ev rfl) (h.ev rfl) (by omega)) rfl ?_;intro f h
  refine ac h (ai (h.ev rfl)) rfl ?_;intro f h
  refine ah ?_
  refine bQ ?_
  exact ⟨_,by omega,⟨k+1,h.only ⟨rfl,rfl,rfl,aR rfl (r6 _ _),aR rfl (by omega),trivial⟩,St.as s ⟨rfl,trivial⟩,rfl,by omega⟩⟩
 ·replace hc:=of_decide_eq_false hc
  refine wpIn_exit ?_
  refine bw ?_
  refine bw ?_
  refine cq ?_
  refine hK3 _ _ ?_
  refine aj fun K8 hK8=>?_
  refine ae ?_
  refine ac h (ag (h.ev rfl)) rfl ?_;intro f h
  refine ac h (lO (h.ev rfl) (h.ev rfl) (by omega)) rfl ?_;intro f h
  refine ac h (ai (h.ev rfl)) rfl ?_;intro f h
  refine ah ?_
  refine hK8 _ _ ?_
  refine wpIn_ret ?_
  have hk8:k=7 - n % 8:=by omega
  subst hk8
  exact aX rfl h s rfl (by show _=_;rw [← xe a n hn];rfl)
theorem di (a b:Id) (w:World):Calls Tryz.prog 126 [dC a,dC b].toArray w (cT w (is (.int .i64 (fk a b)))):=by
 refine bj Tryz.func126 rfl Tryz.ntmps126 rfl [(0,dC a),(1,dC b)] (by simp) fun f h=>?_
 have s:=St.start w
 refine aj fun K1 hK1=>?_
 refine ae ?_
 refine bT (bq a) h s rfl rfl rfl ?_;intro f w1 b2 h s
 refine bT (bq b) h s rfl rfl rfl ?_;intro f w1 b3 h s
 refine ac h (ai (h.ev rfl)) rfl ?_;intro f h
 refine ah ?_
 refine hK1 _ _ ?_
 refine aj fun K2 hK2=>?_
 refine aj fun K3 hK3=>?_
 refine ae ?_
 refine ac h (ai (h.ev rfl)) rfl ?_;intro f h
 refine ah ?_
 refine hK3 _ _ ?_
 refine wpIn_block ?_
 refine wpIn_loop_ghost (fun nn aa ww=>∃ k:Nat,Sl 24 aa [(0,dC a),(1,dC b),(2,.pointer (some ⟨b2,0,none⟩)),(3,.pointer (some ⟨b3,0,none⟩)),(5,.int .i64 (k:Int))]∧St w [.blk b3 (.cells (bq b) 26),.blk b2 (.cells (bq a) 26)] ww∧nn=256 - k∧k≤256∧a.toNat / 2 ^ (256 - k)=b.toNat / 2 ^ (256 - k)) (256 - (0)) ⟨0,h.only ⟨rfl,rfl,rfl,rfl,aR rfl (by omega),trivial⟩,s.as ⟨rfl,rfl,trivial⟩,rfl,by omega,mG a b⟩ ?_
 rintro _ f w1 ⟨k,h,s,hnn,hp0,hp1⟩
 refine aj fun K4 hK4=>?_
 refine aj fun K5 hK5=>?_
 refine ae ?_
 refine ac h (ag (h.ev rfl)) rfl ?_;intro f h
 refine ac h (bD (h.ev rfl) (h.ev rfl)) rfl ?_;intro f h
 refine ah ?_
 refine hK5 _ _ ?_
 refine bA h rfl (fun hc=>?_) (fun hc=>?_)
 ·replace hc:=of_decide_eq_true hc
  refine wpIn_skip ?_
  refine hK4 _ _ ?_
  refine aj fun K6 hK6=>?_
  refine wpIn_block ?_
  refine aj fun K7 hK7=>?_
  refine aj fun K8 hK8=>?_
  refine bJ 7 [[],[],[0,1],[],[],[0,1,2,3,4],[0,1,2,3,4,5]] h (by kernel_rfl) (by kernel_rfl) (by kernel_rfl) ?_
  refine br 1 h s bV rfl rfl (by first|exact aI _|exact aG _ _) rfl ?_;intro f h
  refine ap h (ag (h.ev rfl)) rfl ?_;intro f h
  refine cm h nv (fun w9 hE9=>kW _ _ (by omega) w9) rfl rfl ?_;intro f h
  refine br 0 h s bV rfl rfl (by first|exact aI _|exact aG _ _) rfl ?_;intro f h
  refine ap h (ag (h.ev rfl)) rfl ?_;intro f h
  refine cm h nv (fun w9 hE9=>kW _ _ (by omega) w9) rfl rfl ?_;intro f h
  refine ap h (bD (h.ev rfl) (h.ev rfl)) rfl ?_;intro f h
  refine cn s fun w1 s=>?_
  refine ah ?_
  refine hK8 _ _ ?_
  refine bA h rfl (fun hc=>?_) (fun hc=>?_)
  ·replace hc:=of_decide_eq_true hc
   refine aj fun K9 hK9=>?_
   refine ae ?_
   refine ac h (ai (h.ev rfl)) rfl ?_;intro f h
   refine ah ?_
   refine hK9 _ _ ?_
   refine wpIn_ret ?_
   refine aQ ?_
   refine bu ?_
   refine aQ ?_
   refine aQ ?_
   refine bu ?_
   refine aQ ?_
   exact aX rfl h s rfl (by show _=_;rw [w8 a b k (by omega) hp1 hc])
  ·replace hc:=of_decide_eq_false hc
   refine wpIn_skip ?_
   refine hK7 _ _ ?_
   refine aj fun K10 hK10=>?_
   refine bJ 7 [[],[],[0,1],[],[],[0,1,2,3,4],[0,1,2,3,4,5]] h (by kernel_rfl) (by kernel_rfl) (by kernel_rfl) ?_
   refine br 1 h s bV rfl rfl (by first|exact aI _|exact aG _ _) rfl ?_;intro f h
   refine ap h (ag (h.ev rfl)) rfl ?_;intro f h
   refine cm h nv (fun w9 hE9=>kW _ _ (by omega) w9) rfl rfl ?_;intro f h
   refine br 0 h s bV rfl rfl (by first|exact aI _|exact aG _ _) rfl ?_;intro f h
   refine ap h (ag (h.ev rfl)) rfl ?_;intro f h
   refine cm h nv (fun w9 hE9=>kW _ _ (by omega) w9) rfl rfl ?_;intro f h
   refine ap h (cL (h.ev rfl) (h.ev rfl)) rfl ?_;intro f h
   refine cn s fun w1 s=>?_
   refine ah ?_
   refine hK10 _ _ ?_
   refine bA h rfl (fun hc=>?_) (fun hc=>?_)
   ·replace hc:=of_decide_eq_true hc
    refine aj fun K11 hK11=>?_
    refine ae ?_
    refine ac h (ai (h.ev rfl)) rfl ?_;intro f h
    refine ah ?_
    refine hK11 _ _ ?_
    refine wpIn_ret ?_
    refine bu ?_
    refine aQ ?_
    refine aQ ?_
    refine bu ?_
    refine aQ ?_
    exact aX rfl h s rfl (by show _=_;rw [xE a b k (by omega) hp1 hc])
   ·replace hc:=of_decide_eq_false hc
    refine wpIn_skip ?_
    refine bF ?_
    refine hK6 _ _ ?_
    refine ae ?_
    refine ac h (ag (h.ev rfl)) rfl ?_;intro f h
    refine ac h (cg (h.ev rfl) (h.ev rfl) (by omega)) rfl ?_;intro f h
    refine ac h (ai (h.ev rfl)) rfl ?_;intro f h
    refine ah ?_
    refine bQ ?_
    exact ⟨_,by omega,⟨k+1,h.only ⟨rfl,rfl,rfl,rfl,aR rfl (by omega),trivial⟩,St.as s ⟨rfl,rfl,trivial⟩,rfl,by omega,mU a b k (by omega) hp1 (by omega)⟩⟩
 ·replace hc:=of_decide_eq_false hc
  refine wpIn_exit ?_
  refine bw ?_
  refine bw ?_
  refine cq ?_
  refine hK2 _ _ ?_
  refine aj fun K12 hK12=>?_
  refine ae ?_
  refine ac h (ai (h.ev rfl)) rfl ?_;intro f h
  refine ah ?_
  refine hK12 _ _ ?_
  refine wpIn_ret ?_
  exact aX rfl h s rfl (by show _=_;rw [ud a b k (by omega) hp1,mE])
theorem xj (x a b:Id) (w:World):Calls Tryz.prog 94 [dC x,dC a,dC b].toArray w (cT w (is (.bool (sO x a b)))):=by
 refine bj Tryz.func94 rfl Tryz.ntmps94 rfl [(0,dC x),(1,dC a),(2,dC b)] (by simp) fun f h=>?_
 have s:=St.start w
 refine aj fun K1 hK1=>?_
 refine ae ?_
 refine bT (bq x) h s rfl rfl rfl ?_;intro f w1 b3 h s
 refine bT (bq a) h s rfl rfl rfl ?_;intro f w1 b4 h s
 refine bT (bq b) h s rfl rfl rfl ?_;intro f w1 b5 h s
 refine ac h (ai (h.ev rfl)) rfl ?_;intro f h
 refine ah ?_
 refine hK1 _ _ ?_
 refine aj fun K2 hK2=>?_
 refine aj fun K3 hK3=>?_
 refine ae ?_
 refine ao 1 h s bV rfl rfl (by first|exact aI _|exact aG _ _) rfl ?_;intro f h
 refine ao 0 h s bV rfl rfl (by first|exact aI _|exact aG _ _) rfl ?_;intro f h
 refine ac h (dU fv (h.ev rfl) (h.ev rfl)) rfl ?_;intro f h
 refine ah ?_
 refine hK3 _ _ ?_
 refine bA h rfl (fun hc=>?_) (fun hc=>?_)
 ·have hc:=of_decide_eq_true hc
  refine aj fun K4 hK4=>?_
  refine ae ?_
  refine ac h (ai (h.ev rfl)) rfl ?_;intro f h
  refine ah ?_
  refine hK4 _ _ ?_
  refine wpIn_ret ?_
  refine aQ ?_
  exact aX rfl h s rfl (by show _=_;subst hc;rw [pE])
 ·have hne:=of_decide_eq_false hc
  refine wpIn_skip ?_
  refine hK2 _ _ ?_
  refine aj fun K5 hK5=>?_
  refine aj fun K6 hK6=>?_
  refine ae ?_
  refine ao 1 h s bV rfl rfl (by first|exact aI _|exact aG _ _) rfl ?_;intro f h
  refine ao 0 h s bV rfl rfl (by first|exact aI _|exact aG _ _) rfl ?_;intro f h
  refine aF h s ia (di _ _ _) rfl rfl ?_;intro f w1 v9 hT hE h s;obtain rfl:=hT
  refine ac h (aw (.bool (decide (a.toNat<b.toNat))) (bD (h.ev rfl) (h.ev rfl)) (congrArg Value.bool (iz _ _))) rfl ?_;intro f h
  refine ah ?_
  refine hK6 _ _ ?_
  refine bA h rfl (fun hc=>?_) (fun hc=>?_)
  ·have hd:=of_decide_eq_true hc
   refine aj fun K7 hK7=>?_
   cases hx:(decide (a.toNat<x.toNat):Bool)
   ·skip
    refine ae ?_
    refine ao 1 h s bV rfl rfl (by first|exact aI _|exact aG _ _) rfl ?_;intro f h
    refine ao 2 h s bV rfl rfl (by first|exact aI _|exact aG _ _) rfl ?_;intro f h
    refine aF h s ia (di _ _ _) rfl rfl ?_;intro f w1 v9 hT hE h s;obtain rfl:=hT
    refine ac h (aw (.bool false) (bD (h.ev rfl) (h.ev rfl)) (congrArg Value.bool ((iz _ _).trans hx))) rfl ?_;intro f h
    refine ac h (ag (h.ev rfl)) rfl ?_;intro f h
    refine aC (b:=true) h rfl rfl rfl rfl ?_;intro f h
    refine aC (b:=true) h rfl rfl rfl rfl ?_;intro f h
    refine aC (b:=true) h rfl rfl rfl rfl ?_;intro f h
    refine aC (b:=true) h rfl rfl rfl rfl ?_;intro f h
    refine ac h (aE (h.ev rfl) (h.ev rfl)) rfl ?_;intro f h
    refine ac h (ai (h.ev rfl)) rfl ?_;intro f h
    refine ah ?_
    refine hK7 _ _ ?_
    refine wpIn_ret ?_
    refine aQ ?_
    exact aX rfl h s rfl (by show _=_;rw [mC x a b hd,hx];simp)
   ·skip
    refine ae ?_
    refine ao 1 h s bV rfl rfl (by first|exact aI _|exact aG _ _) rfl ?_;intro f h
    refine ao 2 h s bV rfl rfl (by first|exact aI _|exact aG _ _) rfl ?_;intro f h
    refine aF h s ia (di _ _ _) rfl rfl ?_;intro f w1 v9 hT hE h s;obtain rfl:=hT
    refine ac h (aw (.bool true) (bD (h.ev rfl) (h.ev rfl)) (congrArg Value.bool ((iz _ _).trans hx))) rfl ?_;intro f h
    refine ac h (ag (h.ev rfl)) rfl ?_;intro f h
    refine aB h rfl rfl rfl ?_
    refine ao 2 h s bV rfl rfl (by first|exact aI _|exact aG _ _) rfl ?_;intro f h
    refine aB h rfl rfl rfl ?_
    refine ao 0 h s bV rfl rfl (by first|exact aI _|exact aG _ _) rfl ?_;intro f h
    refine aB h rfl rfl rfl ?_
    refine aF h s ia (di _ _ _) rfl rfl ?_;intro f w1 v9 hT hE h s;obtain rfl:=hT
    refine aB h rfl rfl rfl ?_
    refine ac h (aw (.bool (decide (x.toNat≤b.toNat))) (fH (h.ev rfl) (h.ev rfl)) (congrArg Value.bool (og _ _))) rfl ?_;intro f h
    refine ac h (aJ (h.ev rfl) (h.ev rfl)) rfl ?_;intro f h
    refine ac h (ai (h.ev rfl)) rfl ?_;intro f h
    refine ah ?_
    refine hK7 _ _ ?_
    refine wpIn_ret ?_
    refine aQ ?_
    exact aX rfl h s rfl (by show _=_;rw [mC x a b hd,hx];simp)
  ·have hd:=of_decide_eq_false hc
   refine wpIn_skip ?_
   refine hK5 _ _ ?_
   refine aj fun K8 hK8=>?_
   cases hx:(decide (a.toNat<x.toNat):Bool)
   ·skip
    refine ae ?_
    refine ao 1 h s bV rfl rfl (by first|exact aI _|exact aG _ _) rfl ?_;intro f h
    refine ao 2 h s bV rfl rfl (by first|exact aI _|exact aG _ _) rfl ?_;intro f h
    refine aF h s ia (di _ _ _) rfl rfl ?_;intro f w1 v9 hT hE h s;obtain rfl:=hT
    refine ac h (aw (.bool false) (bD (h.ev rfl) (h.ev rfl)) (congrArg Value.bool ((iz _ _).trans hx))) rfl ?_;intro f h
    refine ac h (ag (h.ev rfl)) rfl ?_;intro f h
    refine aB h rfl rfl rfl ?_
    refine ao 2 h s bV rfl rfl (by first|exact aI _|exact aG _ _) rfl ?_;intro f h
    refine aB h rfl rfl rfl ?_
    refine ao 0 h s bV rfl rfl (by first|exact aI _|exact aG _ _) rfl ?_;intro f h
    refine aB h rfl rfl rfl ?_
    refine aF h s ia (di _ _ _) rfl rfl ?_;intro f w1 v9 hT hE h s;obtain rfl:=hT
    refine aB h rfl rfl rfl ?_
    refine ac h (aw (.bool (decide (x.toNat≤b.toNat))) (fH (h.ev rfl) (h.ev rfl)) (congrArg Value.bool (og _ _))) rfl ?_;intro f h
    refine ac h (aE (h.ev rfl) (h.ev rfl)) rfl ?_;intro f h
    refine ac h (ai (h.ev rfl)) rfl ?_;intro f h
    refine ah ?_
    refine hK8 _ _ ?_
    refine wpIn_ret ?_
    exact aX rfl h s rfl (by show _=_;rw [m8 x a b (by have:=rI hne;omega),hx];simp)
   ·skip
    refine ae ?_
    refine ao 1 h s bV rfl rfl (by first|exact aI _|exact aG _ _) rfl ?_;intro f h
    refine ao 2 h s bV rfl rfl (by first|exact aI _|exact aG _ _) rfl ?_;intro f h
    refine aF h s ia (di _ _ _) rfl rfl ?_;intro f w1 v9 hT hE h s;obtain rfl:=hT
    refine ac h (aw (.bool true) (bD (h.ev rfl) (h.ev rfl)) (congrArg Value.bool ((iz _ _).trans hx))) rfl ?_;intro f h
    refine ac h (ag (h.ev rfl)) rfl ?_;intro f h
    refine aC (b:=false) h rfl rfl rfl rfl ?_;intro f h
    refine aC (b:=false) h rfl rfl rfl rfl ?_;intro f h
    refine aC (b:=false) h rfl rfl rfl rfl ?_;intro f h
    refine aC (b:=false) h rfl rfl rfl rfl ?_;intro f h
    refine ac h (aJ (h.ev rfl) (h.ev rfl)) rfl ?_;intro f h
    refine ac h (ai (h.ev rfl)) rfl ?_;intro f h
    refine ah ?_
    refine hK8 _ _ ?_
    refine wpIn_ret ?_
    exact aX rfl h s rfl (by show _=_;rw [m8 x a b (by have:=rI hne;omega),hx];simp)
theorem n3 (a b:Id) (w:World):Calls Tryz.prog 120 [dC a,dC b].toArray w (cT w (is (dC (a+b)))):=by
 refine bj Tryz.func120 rfl Tryz.ntmps120 rfl [(0,dC a),(1,dC b)] (by simp) fun f h=>?_
 have s:=St.start w
 refine aj fun K1 hK1=>?_
 refine ae ?_
 refine bT (bq a) h s rfl rfl rfl ?_;intro f w1 b2 h s
 refine bT (bq b) h s rfl rfl rfl ?_;intro f w1 b3 h s
 refine ba (bq 0#256) h s gn rfl rfl ?_;intro f w1 b4 h s
 refine ah ?_
 refine hK1 _ _ ?_
 refine aj fun K2 hK2=>?_
 refine ae ?_
 refine ac h (iB fv) rfl ?_;intro f h
 refine ba (bq 0#256) h s gn rfl rfl ?_;intro f w1 b5 h s
 refine ay 0 h s bV rfl rfl rfl (by first|exact aI _|exact aG _ _) (by first|exact aI _|exact aG _ _) (by first|exact dS _|exact dm _ _) ?_;intro w1 s
 refine ah ?_
 refine hK2 _ _ ?_
 refine aj fun K3 hK3=>?_
 refine ae ?_
 refine ac h (ai (h.ev rfl)) rfl ?_;intro f h
 refine ah ?_
 refine hK3 _ _ ?_
 refine aj fun K4 hK4=>?_
 refine aj fun K5 hK5=>?_
 refine ae ?_
 refine ac h (ai (h.ev rfl)) rfl ?_;intro f h
 refine ah ?_
 refine hK5 _ _ ?_
 refine wpIn_block ?_
 refine wpIn_loop_ghost (fun nn aa ww=>∃ k:Nat,Sl 33 aa [(0,dC a),(1,dC b),(2,.pointer (some ⟨b2,0,none⟩)),(3,.pointer (some ⟨b3,0,none⟩)),(4,.pointer (some ⟨b4,0,none⟩)),(5,.pointer (some ⟨b5,0,none⟩)),(6,.int .i64 (jT a.toNat b.toNat (32 - k):Int)),(7,.int .i64 ((k:Int) - 1))]∧St w [.blk b5 (.cells (bq (nz a b (32 - k))) 26),.blk b4 (.cells (bq 0#256) 26),.blk b3 (.cells (bq b) 26),.blk b2 (.cells (bq a) 26)] ww∧nn=k∧k≤32) ((32)) ⟨32,h.only ⟨rfl,rfl,rfl,rfl,rfl,rfl,aR rfl (by rw [Nat.sub_self,sw];rfl),aR rfl (by omega),trivial⟩,s.as ⟨dv (by rw [Nat.sub_self,rZ]),rfl,rfl,rfl,trivial⟩,rfl,by omega⟩ ?_
 rintro _ f w1 ⟨k,h,s,hnn,hp0⟩
 have ha:=c7 a (k - 1)
 have hb:=c7 b (k - 1)
 have hc9:=wx a.toNat b.toNat (32 - k)
 refine aj fun K6 hK6=>?_
 refine aj fun K7 hK7=>?_
 refine ae ?_
 refine ac h (ag (h.ev rfl)) rfl ?_;intro f h
 refine ac h (c0 (h.ev rfl) (h.ev rfl)) rfl ?_;intro f h
 refine ah ?_
 refine hK7 _ _ ?_
 refine bA h rfl (fun hc=>?_) (fun hc=>?_)
 ·replace hc:=of_decide_eq_true hc
  refine wpIn_skip ?_
  refine hK6 _ _ ?_
  refine aj fun K8 hK8=>?_
  refine wpIn_block ?_
  refine aj fun K9 hK9=>?_
  refine bJ 12 [[],[0],[0,1],[0,1,2],[],[4],[4,5],[4,5,6],[0,1,2,3,4,5,6,7],[],[0,1,2,3,4,5,6,7,8,9],[0,1,2,3,4,5,6,7,8,9,10]] h (by kernel_rfl) (by kernel_rfl) (by kernel_rfl) ?_
  refine ap h (ag (h.ev rfl)) rfl ?_;intro f h
  refine ap h (fD (k - 1) Tryz.underlying26 fy (h.ev rfl) (h.ev rfl) (by omega) (by omega)) rfl ?_;intro f h
  refine dp 3 h s jj rfl rfl (cU _ _ (by omega)) rfl ?_;intro f h
  refine ap h (fw Tryz.underlying5 Tryz.underlying3 (h.ev rfl) (IntWalk.i64_in _ (by omega))) rfl ?_;intro f h
  refine ap h (ag (h.ev rfl)) rfl ?_;intro f h
  refine ap h (fD (k - 1) Tryz.underlying26 fy (h.ev rfl) (h.ev rfl) (by omega) (by omega)) rfl ?_;intro f h
  refine dp 2 h s jj rfl rfl (cU _ _ (by omega)) rfl ?_;intro f h
  refine ap h (fw Tryz.underlying5 Tryz.underlying3 (h.ev rfl) (IntWalk.i64_in _ (by omega))) rfl ?_;intro f h
  refine ap h (cg (h.ev rfl) (h.ev rfl) (by omega)) rfl ?_;intro f h
  refine ap h (ag (h.ev rfl)) rfl ?_;intro f h
  refine ap h (cg (h.ev rfl) (h.ev rfl) (by omega)) rfl ?_;intro f h
  refine ap h (ai (h.ev rfl)) rfl ?_;intro f h
  refine cn s fun w1 s=>?_
  refine ah ?_
  refine hK9 _ _ ?_
  refine aj fun K10 hK10=>?_
  refine ae ?_
  refine ac h (ag (h.ev rfl)) rfl ?_;intro f h
  refine ac h (ag (h.ev rfl)) rfl ?_;intro f h
  refine ac h (lO (h.ev rfl) (h.ev rfl) (by omega)) rfl ?_;intro f h
  refine ac h (jh Tryz.underlying3 Tryz.underlying5 (h.ev rfl)) rfl ?_;intro f h
  refine ac h (fD (k - 1) Tryz.underlying26 fy (h.ev rfl) (h.ev rfl) (by omega) (by omega)) rfl ?_;intro f h
  refine bp 0 h s jj rfl rfl rfl (by simp;omega) (rfl) ?_;intro w1 s
  refine ah ?_
  refine hK10 _ _ ?_
  refine ae ?_
  refine ac h (ag (h.ev rfl)) rfl ?_;intro f h
  refine ac h (nL (h.ev rfl) (h.ev rfl) (by omega)) rfl ?_;intro f h
  refine ac h (ai (h.ev rfl)) rfl ?_;intro f h
  refine ah ?_
  refine bF ?_
  refine hK8 _ _ ?_
  refine ae ?_
  refine ac h (ag (h.ev rfl)) rfl ?_;intro f h
  refine ac h (dP (h.ev rfl) (h.ev rfl) (by omega)) rfl ?_;intro f h
  refine ac h (ai (h.ev rfl)) rfl ?_;intro f h
  refine ah ?_
  refine bQ ?_
  exact ⟨_,by omega,⟨k - 1,h.only ⟨rfl,rfl,rfl,rfl,rfl,rfl,aR rfl (vZ a b k (by omega) (by omega)),aR rfl (by omega),trivial⟩,St.as s ⟨dv (xm a b k (by omega) (by omega)),rfl,rfl,rfl,trivial⟩,rfl,by omega⟩⟩
 ·replace hc:=of_decide_eq_false hc
  refine wpIn_exit ?_
  refine bw ?_
  refine bw ?_
  refine cq ?_
  refine hK4 _ _ ?_
  refine aj fun K11 hK11=>?_
  refine ae ?_
  refine ao 0 h s bV rfl rfl (by first|exact aI _|exact aG _ _) rfl ?_;intro f h
  refine ay 1 h s bV rfl rfl rfl (by first|exact aI _|exact aG _ _) (by first|exact aI _|exact aG _ _) (by first|exact dS _|exact dm _ _) ?_;intro w1 s
  refine ah ?_
  refine hK11 _ _ ?_
  refine wpIn_ret ?_
  exact d7 1 rfl h s bV rfl rfl (by first|exact aI _|exact aG _ _) (by show _=_;rw [vW a b k (by omega)])
theorem m5 (n:Nat) (hn:n<256) (w:World):Calls Tryz.prog 121 [.int .i64 (n:Int)].toArray w (cT w (is (dC (gO n)))):=by
 refine bj Tryz.func121 rfl Tryz.ntmps121 rfl [(0,.int .i64 (n:Int))] (by simp) fun f h=>?_
 have s:=St.start w
 refine aj fun K1 hK1=>?_
 refine ae ?_
 refine ba (bq 0#256) h s gn rfl rfl ?_;intro f w1 b2 h s
 refine ah ?_
 refine hK1 _ _ ?_
 refine aj fun K2 hK2=>?_
 refine ae ?_
 refine ac h (iB fv) rfl ?_;intro f h
 refine ba (bq 0#256) h s gn rfl rfl ?_;intro f w1 b3 h s
 refine ay 0 h s bV rfl rfl rfl (by first|exact aI _|exact aG _ _) (by first|exact aI _|exact aG _ _) (by first|exact dS _|exact dm _ _) ?_;intro w1 s
 refine ah ?_
 refine hK2 _ _ ?_
 refine aj fun K3 hK3=>?_
 refine ae ?_
 refine ac h (ai (h.ev rfl)) rfl ?_;intro f h
 refine ah ?_
 refine hK3 _ _ ?_
 refine aj fun K4 hK4=>?_
 refine aj fun K5 hK5=>?_
 refine ae ?_
 refine ac h (ai (h.ev rfl)) rfl ?_;intro f h
 refine ah ?_
 refine hK5 _ _ ?_
 refine wpIn_block ?_
 refine wpIn_loop_ghost (fun nn aa ww=>∃ k:Nat,Sl 21 aa [(0,.int .i64 (n:Int)),(2,.pointer (some ⟨b2,0,none⟩)),(3,.pointer (some ⟨b3,0,none⟩)),(4,.int .u8 ((2 ^ k:Nat):Int)),(5,.int .i64 (k:Int))]∧St w [.blk b3 (.cells (bq 0#256) 26),.blk b2 (.cells (bq 0#256) 26)] ww∧nn=n % 8 - k∧k≤n % 8) (n % 8 - (0)) ⟨0,h.only ⟨rfl,rfl,rfl,aR rfl (by omega),aR rfl (by omega),trivial⟩,s.as ⟨rfl,rfl,trivial⟩,rfl,by omega⟩ ?_
 rintro _ f w1 ⟨k,h,s,hnn,hp0⟩
 refine aj fun K6 hK6=>?_
 refine aj fun K7 hK7=>?_
 refine ae ?_
 refine ac h (ag (h.ev rfl)) rfl ?_;intro f h
 refine ac h (ag (h.ev rfl)) rfl ?_;intro f h
 refine ac h (lO (h.ev rfl) (h.ev rfl) (by omega)) rfl ?_;intro f h
 refine ac h (bD (h.ev rfl) (h.ev rfl)) rfl ?_;intro f h
 refine ah ?_
 refine hK7 _ _ ?_
 refine bA h rfl (fun hc=>?_) (fun hc=>?_)
 ·replace hc:=of_decide_eq_true hc
  refine wpIn_skip ?_
  refine hK6 _ _ ?_
  refine aj fun K8 hK8=>?_
  refine wpIn_block ?_
  refine ae ?_
  refine ac h (ag (h.ev rfl)) rfl ?_;intro f h
  refine ac h (aw (.int .u8 ((2 ^ (k+1):Nat):Int)) (xc (h.ev rfl) (h.ev rfl)) (congrArg (Value.int .u8) (qx k (by omega)))) rfl ?_;intro f h
  refine ac h (ai (h.ev rfl)) rfl ?_;intro f h
  refine ah ?_
  refine bF ?_
  refine hK8 _ _ ?_
  refine ae ?_
  refine ac h (ag (h.ev rfl)) rfl ?_;intro f h
  refine ac h (cg (h.ev rfl) (h.ev rfl) (by omega)) rfl ?_;intro f h
  refine ac h (ai (h.ev rfl)) rfl ?_;intro f h
  refine ah ?_
  refine bQ ?_
  exact ⟨_,by omega,⟨k+1,h.only ⟨rfl,rfl,rfl,aR rfl (by omega),aR rfl (by omega),trivial⟩,St.as s ⟨rfl,rfl,trivial⟩,rfl,by omega⟩⟩
 ·replace hc:=of_decide_eq_false hc
  refine wpIn_exit ?_
  refine bw ?_
  refine bw ?_
  refine cq ?_
  refine hK4 _ _ ?_
  refine aj fun K9 hK9=>?_
  refine ae ?_
  refine ac h (ag (h.ev rfl)) rfl ?_;intro f h
  refine ac h (nL (h.ev rfl) (h.ev rfl) (by omega)) rfl ?_;intro f h
  refine ac h (dP (h.ev rfl) (h.ev rfl) (by omega)) rfl ?_;intro f h
  refine ac h (ag (h.ev rfl)) rfl ?_;intro f h
  refine ac h (fD (31 - n / 8) Tryz.underlying26 fy (h.ev rfl) (h.ev rfl) (by omega) (by omega)) rfl ?_;intro f h
  refine bp 0 h s jj rfl rfl rfl (by simp;omega) (rfl) ?_;intro w1 s
  have hk8:k=n % 8:=by omega
  subst hk8
  have s:=s.as (B':=[.blk b3 (.cells (bq (gO n)) 26),.blk b2 (.cells (bq 0#256) 26)]) ⟨dv (wn n hn),rfl,trivial⟩
  refine ah ?_
  refine hK9 _ _ ?_
  refine aj fun K10 hK10=>?_
  refine ae ?_
  refine ao 0 h s bV rfl rfl (by first|exact aI _|exact aG _ _) rfl ?_;intro f h
  refine ay 1 h s bV rfl rfl rfl (by first|exact aI _|exact aG _ _) (by first|exact aI _|exact aG _ _) (by first|exact dS _|exact dm _ _) ?_;intro w1 s
  refine ah ?_
  refine hK10 _ _ ?_
  refine wpIn_ret ?_
  exact d7 1 rfl h s bV rfl rfl (by first|exact aI _|exact aG _ _) (rfl)
theorem wG (a:Id) (w:World):Calls Tryz.prog 149 [dC a].toArray w (cT w (is (dC (~~~a)))):=by
 refine bj Tryz.func149 rfl Tryz.ntmps149 rfl [(0,dC a)] (by simp) fun f h=>?_
 have s:=St.start w
 refine aj fun K1 hK1=>?_
 refine ae ?_
 refine bT (bq a) h s rfl rfl rfl ?_;intro f w1 b1 h s
 refine ba (bq 0#256) h s gn rfl rfl ?_;intro f w1 b2 h s
 refine ah ?_
 refine hK1 _ _ ?_
 refine aj fun K2 hK2=>?_
 refine ae ?_
 refine ac h (iB fv) rfl ?_;intro f h
 refine ba (bq 0#256) h s gn rfl rfl ?_;intro f w1 b3 h s
 refine ay 0 h s bV rfl rfl rfl (by first|exact aI _|exact aG _ _) (by first|exact aI _|exact aG _ _) (by first|exact dS _|exact dm _ _) ?_;intro w1 s
 refine ah ?_
 refine hK2 _ _ ?_
 refine aj fun K3 hK3=>?_
 refine aj fun K4 hK4=>?_
 refine ae ?_
 refine ac h (ai (h.ev rfl)) rfl ?_;intro f h
 refine ah ?_
 refine hK4 _ _ ?_
 refine wpIn_block ?_
 refine wpIn_loop_ghost (fun nn aa ww=>∃ k:Nat,Sl 17 aa [(0,dC a),(1,.pointer (some ⟨b1,0,none⟩)),(2,.pointer (some ⟨b2,0,none⟩)),(3,.pointer (some ⟨b3,0,none⟩)),(4,.int .i64 (k:Int))]∧St w [.blk b3 (.cells (bq (nE a k)) 26),.blk b2 (.cells (bq 0#256) 26),.blk b1 (.cells (bq a) 26)] ww∧nn=32 - k∧k≤32) (32 - (0)) ⟨0,h.only ⟨rfl,rfl,rfl,rfl,aR rfl (by omega),trivial⟩,s.as ⟨dv (congrArg bq (sv a).symm),rfl,rfl,trivial⟩,rfl,by omega⟩ ?_
 rintro _ f w1 ⟨k,h,s,hnn,hp0⟩
 have ha:=c7 a k
 refine aj fun K5 hK5=>?_
 refine aj fun K6 hK6=>?_
 refine ae ?_
 refine ac h (ag (h.ev rfl)) rfl ?_;intro f h
 refine ac h (bD (h.ev rfl) (h.ev rfl)) rfl ?_;intro f h
 refine ah ?_
 refine hK6 _ _ ?_
 refine bA h rfl (fun hc=>?_) (fun hc=>?_)
 ·replace hc:=of_decide_eq_true hc
  refine wpIn_skip ?_
  refine hK5 _ _ ?_
  refine aj fun K7 hK7=>?_
  refine wpIn_block ?_
  refine ae ?_
  refine ac h (ag (h.ev rfl)) rfl ?_;intro f h
  refine ac h (ag (h.ev rfl)) rfl ?_;intro f h
  refine ac h (fD (k) Tryz.underlying26 fy (h.ev rfl) (h.ev rfl) (by omega) (by omega)) rfl ?_;intro f h
  refine dO 2 h s jj rfl rfl (cU _ _ (by omega)) rfl ?_;intro f h
  refine ac h (aw (.int .u8 (255 - (bE a k:Int))) (qN (h.ev rfl) (h.ev rfl)) (congrArg (Value.int .u8) (IntWalk.u8_in _ (by omega)))) rfl ?_;intro f h
  refine ac h (fD (k) Tryz.underlying26 fy (h.ev rfl) (h.ev rfl) (by omega) (by omega)) rfl ?_;intro f h
  refine bp 0 h s jj rfl rfl rfl (by simp;omega) (rfl) ?_;intro w1 s
  refine ah ?_
  refine bF ?_
  refine hK7 _ _ ?_
  refine ae ?_
  refine ac h (ag (h.ev rfl)) rfl ?_;intro f h
  refine ac h (cg (h.ev rfl) (h.ev rfl) (by omega)) rfl ?_;intro f h
  refine ac h (ai (h.ev rfl)) rfl ?_;intro f h
  refine ah ?_
  refine bQ ?_
  exact ⟨_,by omega,⟨k+1,h.only ⟨rfl,rfl,rfl,rfl,aR rfl (by omega),trivial⟩,St.as s ⟨dv (wP a k (by omega)),rfl,rfl,trivial⟩,rfl,by omega⟩⟩
 ·replace hc:=of_decide_eq_false hc
  refine wpIn_exit ?_
  refine bw ?_
  refine bw ?_
  refine cq ?_
  refine hK3 _ _ ?_
  refine aj fun K8 hK8=>?_
  refine ae ?_
  refine ao 0 h s bV rfl rfl (by first|exact aI _|exact aG _ _) rfl ?_;intro f h
  refine ay 1 h s bV rfl rfl rfl (by first|exact aI _|exact aG _ _) (by first|exact aI _|exact aG _ _) (by first|exact dS _|exact dm _ _) ?_;intro w1 s
  refine ah ?_
  refine hK8 _ _ ?_
  refine wpIn_ret ?_
  exact d7 1 rfl h s bV rfl rfl (by first|exact aI _|exact aG _ _) (by show _=_;rw [xh a k (by omega)])
theorem pC (a b:Id) (w:World):Calls Tryz.prog 141 [dC a,dC b].toArray w (cT w (is (dC (b - a)))):=by
 refine bj Tryz.func141 rfl Tryz.ntmps141 rfl [(0,dC a),(1,dC b)] (by simp) fun f h=>?_
 have s:=St.start w
 refine aj fun K1 hK1=>?_
 refine ae ?_
 refine bT (bq a) h s rfl rfl rfl ?_;intro f w1 b2 h s
 refine bT (bq b) h s rfl rfl rfl ?_;intro f w1 b3 h s
 refine ba (bq 0#256) h s gn rfl rfl ?_;intro f w1 b4 h s
 refine ah ?_
 refine hK1 _ _ ?_
 refine aj fun K2 hK2=>?_
 refine bJ 6 [[],[],[1],[0,1,2],[0,1,2,3],[0,1,2,3,4]] h (by kernel_rfl) (by kernel_rfl) (by kernel_rfl) ?_
 refine br 1 h s bV rfl rfl (by first|exact aI _|exact aG _ _) rfl ?_;intro f h
 refine br 2 h s bV rfl rfl (by first|exact aI _|exact aG _ _) rfl ?_;intro f h
 refine cm h zw (fun w9 hE9=>wG _ w9) rfl rfl ?_;intro f h
 refine cm h pP (fun w9 hE9=>n3 _ _ w9) rfl rfl ?_;intro f h
 refine cm h tI (fun w9 hE9=>m5 0 (by omega) w9) rfl rfl ?_;intro f h
 refine cm h pP (fun w9 hE9=>n3 _ _ w9) rfl rfl ?_;intro f h
 refine cn s fun w1 s=>?_
 refine ay 0 h s bV rfl rfl rfl (by first|exact aI _|exact aG _ _) (by first|exact aI _|exact aG _ _) (by first|exact dS _|exact dm _ _) ?_;intro w1 s
 refine ah ?_
 refine hK2 _ _ ?_
 refine wpIn_ret ?_
 exact d7 0 rfl h s bV rfl rfl (by first|exact aI _|exact aG _ _) (by show _=_;exact congrArg (fun x=>dC x) (qe a b))
theorem xP (x:Mb) (s9 t9:Id) (w:World):Calls Tryz.prog 93 [dC x.2,dC s9,dC t9].toArray w (cT w (is (.bool (zy s9 t9 x)))):=by
 refine bj Tryz.func93 rfl Tryz.ntmps93 rfl [(0,dC x.2),(1,dC s9),(2,dC t9)] (by simp) fun f h=>?_
 have s:=St.start w
 refine aj fun K1 hK1=>?_
 refine ae ?_
 refine bT (bq x.2) h s rfl rfl rfl ?_;intro f w1 b3 h s
 refine bT (bq s9) h s rfl rfl rfl ?_;intro f w1 b4 h s
 refine bT (bq t9) h s rfl rfl rfl ?_;intro f w1 b5 h s
 refine ac h (ai (h.ev rfl)) rfl ?_;intro f h
 refine ah ?_
 refine hK1 _ _ ?_
 refine aj fun K2 hK2=>?_
 cases q1:(decide (x.2≠s9):Bool)
 ·skip
  refine ae ?_
  refine ao 2 h s bV rfl rfl (by first|exact aI _|exact aG _ _) rfl ?_;intro f h
  refine ao 1 h s bV rfl rfl (by first|exact aI _|exact aG _ _) rfl ?_;intro f h
  refine ac h (aw (.bool false) (eI fv (h.ev rfl) (h.ev rfl)) (congrArg Value.bool q1)) rfl ?_;intro f h
  refine ac h (ag (h.ev rfl)) rfl ?_;intro f h
  refine aC (b:=true) h rfl rfl rfl rfl ?_;intro f h
  refine aC (b:=true) h rfl rfl rfl rfl ?_;intro f h
  refine aC (b:=true) h rfl rfl rfl rfl ?_;intro f h
  refine ac h (aE (h.ev rfl) (h.ev rfl)) rfl ?_;intro f h
  refine ac h (ag (h.ev rfl)) rfl ?_;intro f h
  refine aC (b:=true) h rfl rfl rfl rfl ?_;intro f h
  refine aC (b:=true) h rfl rfl rfl rfl ?_;intro f h
  refine aC (b:=true) h rfl rfl rfl rfl ?_;intro f h
  refine aC (b:=true) h rfl rfl rfl rfl ?_;intro f h
  refine ac h (aE (h.ev rfl) (h.ev rfl)) rfl ?_;intro f h
  refine ac h (ai (h.ev rfl)) rfl ?_;intro f h
  refine ah ?_
  refine hK2 _ _ ?_
  refine wpIn_ret ?_
  exact aX rfl h s rfl (by show _=_;rw [An q1])
 ·skip
  cases q0:(decide (x.2≠t9):Bool)
  ·skip
   refine ae ?_
   refine ao 2 h s bV rfl rfl (by first|exact aI _|exact aG _ _) rfl ?_;intro f h
   refine ao 1 h s bV rfl rfl (by first|exact aI _|exact aG _ _) rfl ?_;intro f h
   refine ac h (aw (.bool true) (eI fv (h.ev rfl) (h.ev rfl)) (congrArg Value.bool q1)) rfl ?_;intro f h
   refine ac h (ag (h.ev rfl)) rfl ?_;intro f h
   refine aB h rfl rfl rfl ?_
   refine ao 2 h s bV rfl rfl (by first|exact aI _|exact aG _ _) rfl ?_;intro f h
   refine aB h rfl rfl rfl ?_
   refine ao 0 h s bV rfl rfl (by first|exact aI _|exact aG _ _) rfl ?_;intro f h
   refine aB h rfl rfl rfl ?_
   refine ac h (aw (.bool false) (eI fv (h.ev rfl) (h.ev rfl)) (congrArg Value.bool q0)) rfl ?_;intro f h
   refine ac h (aJ (h.ev rfl) (h.ev rfl)) rfl ?_;intro f h
   refine ac h (ag (h.ev rfl)) rfl ?_;intro f h
   refine aC (b:=true) h rfl rfl rfl rfl ?_;intro f h
   refine aC (b:=true) h rfl rfl rfl rfl ?_;intro f h
   refine aC (b:=true) h rfl rfl rfl rfl ?_;intro f h
   refine aC (b:=true) h rfl rfl rfl rfl ?_;intro f h
   refine ac h (aE (h.ev rfl) (h.ev rfl)) rfl ?_;intro f h
   refine ac h (ai (h.ev rfl)) rfl ?_;intro f h
   refine ah ?_
   refine hK2 _ _ ?_
   refine wpIn_ret ?_
   exact aX rfl h s rfl (by show _=_;rw [AJ q0])
  ·skip
   refine ae ?_
   refine ao 2 h s bV rfl rfl (by first|exact aI _|exact aG _ _) rfl ?_;intro f h
   refine ao 1 h s bV rfl rfl (by first|exact aI _|exact aG _ _) rfl ?_;intro f h
   refine ac h (aw (.bool true) (eI fv (h.ev rfl) (h.ev rfl)) (congrArg Value.bool q1)) rfl ?_;intro f h
   refine ac h (ag (h.ev rfl)) rfl ?_;intro f h
   refine aB h rfl rfl rfl ?_
   refine ao 2 h s bV rfl rfl (by first|exact aI _|exact aG _ _) rfl ?_;intro f h
   refine aB h rfl rfl rfl ?_
   refine ao 0 h s bV rfl rfl (by first|exact aI _|exact aG _ _) rfl ?_;intro f h
   refine aB h rfl rfl rfl ?_
   refine ac h (aw (.bool true) (eI fv (h.ev rfl) (h.ev rfl)) (congrArg Value.bool q0)) rfl ?_;intro f h
   refine ac h (aJ (h.ev rfl) (h.ev rfl)) rfl ?_;intro f h
   refine ac h (ag (h.ev rfl)) rfl ?_;intro f h
   refine aB h rfl rfl rfl ?_
   refine ao 2 h s bV rfl rfl (by first|exact aI _|exact aG _ _) rfl ?_;intro f h
   refine aB h rfl rfl rfl ?_
   refine ao 1 h s bV rfl rfl (by first|exact aI _|exact aG _ _) rfl ?_;intro f h
   refine aB h rfl rfl rfl ?_
   refine ao 0 h s bV rfl rfl (by first|exact aI _|exact aG _ _) rfl ?_;intro f h
   refine aB h rfl rfl rfl ?_
   refine aF h s zX (xj _ _ _ _) rfl rfl ?_;intro f w1 v9 hT hE h s;obtain rfl:=hT
   refine ac h (aJ (h.ev rfl) (h.ev rfl)) rfl ?_;intro f h
   refine ac h (ai (h.ev rfl)) rfl ?_;intro f h
   refine ah ?_
   refine hK2 _ _ ?_
   refine wpIn_ret ?_
   exact aX rfl h s rfl (by show _=_;rw [AH q0 q1])
end Go.Proofs.YthggibfkgofncaaGreat
