/- What the references of ident, ring and finger answer for identifiers: ways, comparisons, what is on the way: for all identifiers. -/
import Derived.Test.YthggibfkgofncaaGreatCon
set_option linter.unusedVariables false
set_option linter.unusedSimpArgs false
set_option linter.unusedSectionVars false
namespace Go.Proofs.YthggibfkgofncaaGreat
open Go.RowKit
theorem lZ (a:Id) (n:Nat) (hn:n<256) (w:World):Calls Tryz.prog 143 [fa a,.int .i64 (n:Int)].toArray w (cU w (is (.int .i64 (mx a.toNat n:Int)))):=by
 have ha:=fR a (n / 8)
 refine bp Tryz.func143 rfl Tryz.ntmps143 rfl [(0,fa a),(1,.int .i64 (n:Int))] (by simp) fun f h=>?_
 have s:=St.start w
 refine al fun K1 hK1=>?_
 refine ae ?_
 refine bV (bA a) h s rfl rfl rfl ?_;intro f w1 b2 h s
 refine ac h (aj (h.ev rfl)) rfl ?_;intro f h
 refine ah ?_
 refine hK1 _ _ ?_
 refine al fun K2 hK2=>?_
 refine ae ?_
 refine ac h (ag (h.ev rfl)) rfl ?_;intro f h
 refine ac h (vz (h.ev rfl) (h.ev rfl) (by omega)) rfl ?_;intro f h
 refine ac h (j4 (n / 8) Tryz.underlying26 ko (h.ev rfl) (h.ev rfl) (by omega) (by omega)) rfl ?_;intro f h
 refine cw 0 h s oV rfl rfl (dA _ _ (by omega)) rfl ?_;intro f h
 refine ac h (jo Tryz.underlying5 Tryz.underlying3 (h.ev rfl) (IntWalk.i64_in _ (by omega))) rfl ?_;intro f h
 refine ac h (aj (h.ev rfl)) rfl ?_;intro f h
 refine ah ?_
 refine hK2 _ _ ?_
 refine al fun K3 hK3=>?_
 refine al fun K4 hK4=>?_
 refine ae ?_
 refine ac h (aj (h.ev rfl)) rfl ?_;intro f h
 refine ah ?_
 refine hK4 _ _ ?_
 refine wpIn_block ?_
 refine wpIn_loop_ghost (fun nn aa ww=>∃ k:Nat,Sl 23 aa [(0,fa a),(1,.int .i64 (n:Int)),(2,.pointer (some ⟨b2,0,none⟩)),(5,.int .i64 ((ci a (n / 8) / 2 ^ k:Nat):Int)),(6,.int .i64 (k:Int))]∧St w [.blk b2 (.cells (bA a) 26)] ww∧nn=8 - k∧k≤7 - n % 8) (8 - (0)) ⟨0,h.only ⟨rfl,rfl,rfl,aQ rfl (by simp),aQ rfl (by omega),trivial⟩,s.as ⟨rfl,trivial⟩,rfl,by omega⟩ ?_
 rintro _ f w1 ⟨k,h,s,hnn,hp0⟩
 have hd:ci a (n / 8) / 2 ^ k≤ci a (n / 8):=Nat.div_le_self _ _
 have hd0:(0:Int)≤((ci a (n / 8) / 2 ^ k:Nat):Int):=Int.natCast_nonneg _
 refine al fun K5 hK5=>?_
 refine al fun K6 hK6=>?_
 refine ae ?_
 refine ac h (ag (h.ev rfl)) rfl ?_;intro f h
 refine ac h (ag (h.ev rfl)) rfl ?_;intro f h
 refine ac h (sf (h.ev rfl) (h.ev rfl) (by omega)) rfl ?_;intro f h
 refine ac h (eU (h.ev rfl) (h.ev rfl) (by omega)) rfl ?_;intro f h
 refine ac h (bN (h.ev rfl) (h.ev rfl)) rfl ?_;intro f h
 refine ah ?_
 refine hK6 _ _ ?_
 refine bM h rfl (fun hc=>?_) (fun hc=>?_)
 ·replace hc:=of_decide_eq_true hc
  refine wpIn_skip ?_
  refine hK5 _ _ ?_
  refine al fun K7 hK7=>?_
  refine wpIn_block ?_
  refine ae ?_
  refine ac h (ag (h.ev rfl)) rfl ?_;intro f h
  refine ac h (vz (h.ev rfl) (h.ev rfl) (by omega)) rfl ?_;intro f h
  refine ac h (aj (h.ev rfl)) rfl ?_;intro f h
  refine ah ?_
  refine bF ?_
  refine hK7 _ _ ?_
  refine ae ?_
  refine ac h (ag (h.ev rfl)) rfl ?_;intro f h
  refine ac h (cf (h.ev rfl) (h.ev rfl) (by omega)) rfl ?_;intro f h
  refine ac h (aj (h.ev rfl)) rfl ?_;intro f h
  refine ah ?_
  refine bQ ?_
  exact ⟨_,by omega,⟨k+1,h.only ⟨rfl,rfl,rfl,aQ rfl (uD _ _),aQ rfl (by omega),trivial⟩,St.as s ⟨rfl,trivial⟩,rfl,by omega⟩⟩
 ·replace hc:=of_decide_eq_false hc
  refine wpIn_exit ?_
  refine bJ ?_
  refine bJ ?_
  refine cC ?_
  refine hK3 _ _ ?_
  refine al fun K8 hK8=>?_
  refine ae ?_
  refine ac h (ag (h.ev rfl)) rfl ?_;intro f h
  refine ac h (sf (h.ev rfl) (h.ev rfl) (by omega)) rfl ?_;intro f h
  refine ac h (aj (h.ev rfl)) rfl ?_;intro f h
  refine ah ?_
  refine hK8 _ _ ?_
  refine wpIn_ret ?_
  have hk8:k=7 - n % 8:=by omega
  subst hk8
  exact bf rfl h s rfl (by show _=_;rw [← zi a n hn];rfl)
theorem dZ (a b:Id) (w:World):Calls Tryz.prog 126 [fa a,fa b].toArray w (cU w (is (.int .i64 (fJ a b)))):=by
 refine bp Tryz.func126 rfl Tryz.ntmps126 rfl [(0,fa a),(1,fa b)] (by simp) fun f h=>?_
 have s:=St.start w
 refine al fun K1 hK1=>?_
 refine ae ?_
 refine bV (bA a) h s rfl rfl rfl ?_;intro f w1 b2 h s
 refine bV (bA b) h s rfl rfl rfl ?_;intro f w1 b3 h s
 refine ac h (aj (h.ev rfl)) rfl ?_;intro f h
 refine ah ?_
 refine hK1 _ _ ?_
 refine al fun K2 hK2=>?_
 refine al fun K3 hK3=>?_
 refine ae ?_
 refine ac h (aj (h.ev rfl)) rfl ?_;intro f h
 refine ah ?_
 refine hK3 _ _ ?_
 refine wpIn_block ?_
 refine wpIn_loop_ghost (fun nn aa ww=>∃ k:Nat,Sl 24 aa [(0,fa a),(1,fa b),(2,.pointer (some ⟨b2,0,none⟩)),(3,.pointer (some ⟨b3,0,none⟩)),(5,.int .i64 (k:Int))]∧St w [.blk b3 (.cells (bA b) 26),.blk b2 (.cells (bA a) 26)] ww∧nn=256 - k∧k≤256∧a.toNat / 2 ^ (256 - k)=b.toNat / 2 ^ (256 - k)) (256 - (0)) ⟨0,h.only ⟨rfl,rfl,rfl,rfl,aQ rfl (by omega),trivial⟩,s.as ⟨rfl,rfl,trivial⟩,rfl,by omega,uS a b⟩ ?_
 rintro _ f w1 ⟨k,h,s,hnn,hp0,hp1⟩
 refine al fun K4 hK4=>?_
 refine al fun K5 hK5=>?_
 refine ae ?_
 refine ac h (ag (h.ev rfl)) rfl ?_;intro f h
 refine ac h (bN (h.ev rfl) (h.ev rfl)) rfl ?_;intro f h
 refine ah ?_
 refine hK5 _ _ ?_
 refine bM h rfl (fun hc=>?_) (fun hc=>?_)
 ·replace hc:=of_decide_eq_true hc
  refine wpIn_skip ?_
  refine hK4 _ _ ?_
  refine al fun K6 hK6=>?_
  refine wpIn_block ?_
  refine al fun K7 hK7=>?_
  refine al fun K8 hK8=>?_
  refine bI 7 [[],[],[0,1],[],[],[0,1,2,3,4],[0,1,2,3,4,5]] h (by kernel_rfl) (by kernel_rfl) (by kernel_rfl) ?_
  refine bB 1 h s bP rfl rfl (by first|exact aK _|exact aF _ _) rfl ?_;intro f h
  refine ao h (ag (h.ev rfl)) rfl ?_;intro f h
  refine cm h pv (fun w9 hE9=>lZ _ _ (by omega) w9) rfl rfl ?_;intro f h
  refine bB 0 h s bP rfl rfl (by first|exact aK _|exact aF _ _) rfl ?_;intro f h
  refine ao h (ag (h.ev rfl)) rfl ?_;intro f h
  refine cm h pv (fun w9 hE9=>lZ _ _ (by omega) w9) rfl rfl ?_;intro f h
  refine ao h (bN (h.ev rfl) (h.ev rfl)) rfl ?_;intro f h
  refine cq s fun w1 s=>?_
  refine ah ?_
  refine hK8 _ _ ?_
  refine bM h rfl (fun hc=>?_) (fun hc=>?_)
  ·replace hc:=of_decide_eq_true hc
   refine al fun K9 hK9=>?_
   refine ae ?_
   refine ac h (aj (h.ev rfl)) rfl ?_;intro f h
   refine ah ?_
   refine hK9 _ _ ?_
   refine wpIn_ret ?_
   refine aW ?_
   refine bU ?_
   refine aW ?_
   refine aW ?_
   refine bU ?_
   refine aW ?_
   exact bf rfl h s rfl (by show _=_;rw [yw a b k (by omega) hp1 hc])
  ·replace hc:=of_decide_eq_false hc
   refine wpIn_skip ?_
   refine hK7 _ _ ?_
   refine al fun K10 hK10=>?_
   refine bI 7 [[],[],[0,1],[],[],[0,1,2,3,4],[0,1,2,3,4,5]] h (by kernel_rfl) (by kernel_rfl) (by kernel_rfl) ?_
   refine bB 1 h s bP rfl rfl (by first|exact aK _|exact aF _ _) rfl ?_;intro f h
   refine ao h (ag (h.ev rfl)) rfl ?_;intro f h
   refine cm h pv (fun w9 hE9=>lZ _ _ (by omega) w9) rfl rfl ?_;intro f h
   refine bB 0 h s bP rfl rfl (by first|exact aK _|exact aF _ _) rfl ?_;intro f h
   refine ao h (ag (h.ev rfl)) rfl ?_;intro f h
   refine cm h pv (fun w9 hE9=>lZ _ _ (by omega) w9) rfl rfl ?_;intro f h
   refine ao h (c6 (h.ev rfl) (h.ev rfl)) rfl ?_;intro f h
   refine cq s fun w1 s=>?_
   refine ah ?_
   refine hK10 _ _ ?_
   refine bM h rfl (fun hc=>?_) (fun hc=>?_)
   ·replace hc:=of_decide_eq_true hc
    refine al fun K11 hK11=>?_
    refine ae ?_
    refine ac h (aj (h.ev rfl)) rfl ?_;intro f h
    refine ah ?_
    refine hK11 _ _ ?_
    refine wpIn_ret ?_
    refine bU ?_
    refine aW ?_
    refine aW ?_
    refine bU ?_
    refine aW ?_
    exact bf rfl h s rfl (by show _=_;rw [zq a b k (by omega) hp1 hc])
   ·replace hc:=of_decide_eq_false hc
    refine wpIn_skip ?_
    refine bF ?_
    refine hK6 _ _ ?_
    refine ae ?_
    refine ac h (ag (h.ev rfl)) rfl ?_;intro f h
    refine ac h (cf (h.ev rfl) (h.ev rfl) (by omega)) rfl ?_;intro f h
    refine ac h (aj (h.ev rfl)) rfl ?_;intro f h
    refine ah ?_
    refine bQ ?_
    exact ⟨_,by omega,⟨k+1,h.only ⟨rfl,rfl,rfl,rfl,aQ rfl (by omega),trivial⟩,St.as s ⟨rfl,rfl,trivial⟩,rfl,by omega,uU a b k (by omega) hp1 (by omega)⟩⟩
 ·replace hc:=of_decide_eq_false hc
  refine wpIn_exit ?_
  refine bJ ?_
  refine bJ ?_
  refine cC ?_
  refine hK2 _ _ ?_
  refine al fun K12 hK12=>?_
  refine ae ?_
  refine ac h (aj (h.ev rfl)) rfl ?_;intro f h
  refine ah ?_
  refine hK12 _ _ ?_
  refine wpIn_ret ?_
  exact bf rfl h s rfl (by show _=_;rw [yb a b k (by omega) hp1,nX])
theorem pj (x a b:Id) (w:World):Calls Tryz.prog 94 [fa x,fa a,fa b].toArray w (cU w (is (.bool (nk x a b)))):=by
 refine bp Tryz.func94 rfl Tryz.ntmps94 rfl [(0,fa x),(1,fa a),(2,fa b)] (by simp) fun f h=>?_
 have s:=St.start w
 refine al fun K1 hK1=>?_
 refine ae ?_
 refine bV (bA x) h s rfl rfl rfl ?_;intro f w1 b3 h s
 refine bV (bA a) h s rfl rfl rfl ?_;intro f w1 b4 h s
 refine bV (bA b) h s rfl rfl rfl ?_;intro f w1 b5 h s
 refine ac h (aj (h.ev rfl)) rfl ?_;intro f h
 refine ah ?_
 refine hK1 _ _ ?_
 refine al fun K2 hK2=>?_
 refine al fun K3 hK3=>?_
 refine ae ?_
 refine ar 1 h s bP rfl rfl (by first|exact aK _|exact aF _ _) rfl ?_;intro f h
 refine ar 0 h s bP rfl rfl (by first|exact aK _|exact aF _ _) rfl ?_;intro f h
 refine ac h (dp fC (h.ev rfl) (h.ev rfl)) rfl ?_;intro f h
 refine ah ?_
 refine hK3 _ _ ?_
 refine bM h rfl (fun hc=>?_) (fun hc=>?_)
 ·have hc:=of_decide_eq_true hc
  refine al fun K4 hK4=>?_
  refine ae ?_
  refine ac h (aj (h.ev rfl)) rfl ?_;intro f h
  refine ah ?_
  refine hK4 _ _ ?_
  refine wpIn_ret ?_
  refine aW ?_
  exact bf rfl h s rfl (by show _=_;subst hc;rw [qT])
 ·have hne:=of_decide_eq_false hc
  refine wpIn_skip ?_
  refine hK2 _ _ ?_
  refine al fun K5 hK5=>?_
  refine al fun K6 hK6=>?_
  refine ae ?_
  refine ar 1 h s bP rfl rfl (by first|exact aK _|exact aF _ _) rfl ?_;intro f h
  refine ar 0 h s bP rfl rfl (by first|exact aK _|exact aF _ _) rfl ?_;intro f h
  refine aH h s jn (dZ _ _ _) rfl rfl ?_;intro f w1 v9 hT hE h s;obtain rfl:=hT
  refine ac h (av (.bool (decide (a.toNat<b.toNat))) (bN (h.ev rfl) (h.ev rfl)) (congrArg Value.bool (iU _ _))) rfl ?_;intro f h
  refine ah ?_
  refine hK6 _ _ ?_
  refine bM h rfl (fun hc=>?_) (fun hc=>?_)
  ·have hd:=of_decide_eq_true hc
   refine al fun K7 hK7=>?_
   cases hx:(decide (a.toNat<x.toNat):Bool)
   ·skip
    refine ae ?_
    refine ar 1 h s bP rfl rfl (by first|exact aK _|exact aF _ _) rfl ?_;intro f h
    refine ar 2 h s bP rfl rfl (by first|exact aK _|exact aF _ _) rfl ?_;intro f h
    refine aH h s jn (dZ _ _ _) rfl rfl ?_;intro f w1 v9 hT hE h s;obtain rfl:=hT
    refine ac h (av (.bool false) (bN (h.ev rfl) (h.ev rfl)) (congrArg Value.bool ((iU _ _).trans hx))) rfl ?_;intro f h
    refine ac h (ag (h.ev rfl)) rfl ?_;intro f h
    refine aA (b:=true) h rfl rfl rfl rfl ?_;intro f h
    refine aA (b:=true) h rfl rfl rfl rfl ?_;intro f h
    refine aA (b:=true) h rfl rfl rfl rfl ?_;intro f h
    refine aA (b:=true) h rfl rfl rfl rfl ?_;intro f h
    refine ac h (aG (h.ev rfl) (h.ev rfl)) rfl ?_;intro f h
    refine ac h (aj (h.ev rfl)) rfl ?_;intro f h
    refine ah ?_
    refine hK7 _ _ ?_
    refine wpIn_ret ?_
    refine aW ?_
    exact bf rfl h s rfl (by show _=_;rw [nJ x a b hd,hx];simp)
   ·skip
    refine ae ?_
    refine ar 1 h s bP rfl rfl (by first|exact aK _|exact aF _ _) rfl ?_;intro f h
    refine ar 2 h s bP rfl rfl (by first|exact aK _|exact aF _ _) rfl ?_;intro f h
    refine aH h s jn (dZ _ _ _) rfl rfl ?_;intro f w1 v9 hT hE h s;obtain rfl:=hT
    refine ac h (av (.bool true) (bN (h.ev rfl) (h.ev rfl)) (congrArg Value.bool ((iU _ _).trans hx))) rfl ?_;intro f h
    refine ac h (ag (h.ev rfl)) rfl ?_;intro f h
    refine az h rfl rfl rfl ?_
    refine ar 2 h s bP rfl rfl (by first|exact aK _|exact aF _ _) rfl ?_;intro f h
    refine az h rfl rfl rfl ?_
    refine ar 0 h s bP rfl rfl (by first|exact aK _|exact aF _ _) rfl ?_;intro f h
    refine az h rfl rfl rfl ?_
    refine aH h s jn (dZ _ _ _) rfl rfl ?_;intro f w1 v9 hT hE h s;obtain rfl:=hT
    refine az h rfl rfl rfl ?_
    refine ac h (av (.bool (decide (x.toNat≤b.toNat))) (fU (h.ev rfl) (h.ev rfl)) (congrArg Value.bool (pg _ _))) rfl ?_;intro f h
    refine ac h (aI (h.ev rfl) (h.ev rfl)) rfl ?_;intro f h
    refine ac h (aj (h.ev rfl)) rfl ?_;intro f h
    refine ah ?_
    refine hK7 _ _ ?_
    refine wpIn_ret ?_
    refine aW ?_
    exact bf rfl h s rfl (by show _=_;rw [nJ x a b hd,hx];simp)
  ·have hd:=of_decide_eq_false hc
   refine wpIn_skip ?_
   refine hK5 _ _ ?_
   refine al fun K8 hK8=>?_
   cases hx:(decide (a.toNat<x.toNat):Bool)
   ·skip
    refine ae ?_
    refine ar 1 h s bP rfl rfl (by first|exact aK _|exact aF _ _) rfl ?_;intro f h
    refine ar 2 h s bP rfl rfl (by first|exact aK _|exact aF _ _) rfl ?_;intro f h
    refine aH h s jn (dZ _ _ _) rfl rfl ?_;intro f w1 v9 hT hE h s;obtain rfl:=hT
    refine ac h (av (.bool false) (bN (h.ev rfl) (h.ev rfl)) (congrArg Value.bool ((iU _ _).trans hx))) rfl ?_;intro f h
    refine ac h (ag (h.ev rfl)) rfl ?_;intro f h
    refine az h rfl rfl rfl ?_
    refine ar 2 h s bP rfl rfl (by first|exact aK _|exact aF _ _) rfl ?_;intro f h
    refine az h rfl rfl rfl ?_
    refine ar 0 h s bP rfl rfl (by first|exact aK _|exact aF _ _) rfl ?_;intro f h
    refine az h rfl rfl rfl ?_
    refine aH h s jn (dZ _ _ _) rfl rfl ?_;intro f w1 v9 hT hE h s;obtain rfl:=hT
    refine az h rfl rfl rfl ?_
    refine ac h (av (.bool (decide (x.toNat≤b.toNat))) (fU (h.ev rfl) (h.ev rfl)) (congrArg Value.bool (pg _ _))) rfl ?_;intro f h
    refine ac h (aG (h.ev rfl) (h.ev rfl)) rfl ?_;intro f h
    refine ac h (aj (h.ev rfl)) rfl ?_;intro f h
    refine ah ?_
    refine hK8 _ _ ?_
    refine wpIn_ret ?_
    exact bf rfl h s rfl (by show _=_;rw [ov x a b (by have:=sK hne;omega),hx];simp)
   ·skip
    refine ae ?_
    refine ar 1 h s bP rfl rfl (by first|exact aK _|exact aF _ _) rfl ?_;intro f h
    refine ar 2 h s bP rfl rfl (by first|exact aK _|exact aF _ _) rfl ?_;intro f h
    refine aH h s jn (dZ _ _ _) rfl rfl ?_;intro f w1 v9 hT hE h s;obtain rfl:=hT
    refine ac h (av (.bool true) (bN (h.ev rfl) (h.ev rfl)) (congrArg Value.bool ((iU _ _).trans hx))) rfl ?_;intro f h
    refine ac h (ag (h.ev rfl)) rfl ?_;intro f h
    refine aA (b:=false) h rfl rfl rfl rfl ?_;intro f h
    refine aA (b:=false) h rfl rfl rfl rfl ?_;intro f h
    refine aA (b:=false) h rfl rfl rfl rfl ?_;intro f h
    refine aA (b:=false) h rfl rfl rfl rfl ?_;intro f h
    refine ac h (aI (h.ev rfl) (h.ev rfl)) rfl ?_;intro f h
    refine ac h (aj (h.ev rfl)) rfl ?_;intro f h
    refine ah ?_
    refine hK8 _ _ ?_
    refine wpIn_ret ?_
    exact bf rfl h s rfl (by show _=_;rw [ov x a b (by have:=sK hne;omega),hx];simp)
theorem lH (x:Mb) (s9 t9:Id) (w:World):Calls Tryz.prog 93 [fa x.2,fa s9,fa t9].toArray w (cU w (is (.bool (vd s9 t9 x)))):=by
 refine bp Tryz.func93 rfl Tryz.ntmps93 rfl [(0,fa x.2),(1,fa s9),(2,fa t9)] (by simp) fun f h=>?_
 have s:=St.start w
 refine al fun K1 hK1=>?_
 refine ae ?_
 refine bV (bA x.2) h s rfl rfl rfl ?_;intro f w1 b3 h s
 refine bV (bA s9) h s rfl rfl rfl ?_;intro f w1 b4 h s
 refine bV (bA t9) h s rfl rfl rfl ?_;intro f w1 b5 h s
 refine ac h (aj (h.ev rfl)) rfl ?_;intro f h
 refine ah ?_
 refine hK1 _ _ ?_
 refine al fun K2 hK2=>?_
 cases q1:(decide (x.2≠s9):Bool)
 ·skip
  refine ae ?_
  refine ar 2 h s bP rfl rfl (by first|exact aK _|exact aF _ _) rfl ?_;intro f h
  refine ar 1 h s bP rfl rfl (by first|exact aK _|exact aF _ _) rfl ?_;intro f h
  refine ac h (av (.bool false) (eF fC (h.ev rfl) (h.ev rfl)) (congrArg Value.bool q1)) rfl ?_;intro f h
  refine ac h (ag (h.ev rfl)) rfl ?_;intro f h
  refine aA (b:=true) h rfl rfl rfl rfl ?_;intro f h
  refine aA (b:=true) h rfl rfl rfl rfl ?_;intro f h
  refine aA (b:=true) h rfl rfl rfl rfl ?_;intro f h
  refine ac h (aG (h.ev rfl) (h.ev rfl)) rfl ?_;intro f h
  refine ac h (ag (h.ev rfl)) rfl ?_;intro f h
  refine aA (b:=true) h rfl rfl rfl rfl ?_;intro f h
  refine aA (b:=true) h rfl rfl rfl rfl ?_;intro f h
  refine aA (b:=true) h rfl rfl rfl rfl ?_;intro f h
  refine aA (b:=true) h rfl rfl rfl rfl ?_;intro f h
  refine ac h (aG (h.ev rfl) (h.ev rfl)) rfl ?_;intro f h
  refine ac h (aj (h.ev rfl)) rfl ?_;intro f h
  refine ah ?_
  refine hK2 _ _ ?_
  refine wpIn_ret ?_
  exact bf rfl h s rfl (by show _=_;rw [C2 q1])
 ·skip
  cases q0:(decide (x.2≠t9):Bool)
  ·skip
   refine ae ?_
   refine ar 2 h s bP rfl rfl (by first|exact aK _|exact aF _ _) rfl ?_;intro f h
   refine ar 1 h s bP rfl rfl (by first|exact aK _|exact aF _ _) rfl ?_;intro f h
   refine ac h (av (.bool true) (eF fC (h.ev rfl) (h.ev rfl)) (congrArg Value.bool q1)) rfl ?_;intro f h
   refine ac h (ag (h.ev rfl)) rfl ?_;intro f h
   refine az h rfl rfl rfl ?_
   refine ar 2 h s bP rfl rfl (by first|exact aK _|exact aF _ _) rfl ?_;intro f h
   refine az h rfl rfl rfl ?_
   refine ar 0 h s bP rfl rfl (by first|exact aK _|exact aF _ _) rfl ?_;intro f h
   refine az h rfl rfl rfl ?_
   refine ac h (av (.bool false) (eF fC (h.ev rfl) (h.ev rfl)) (congrArg Value.bool q0)) rfl ?_;intro f h
   refine ac h (aI (h.ev rfl) (h.ev rfl)) rfl ?_;intro f h
   refine ac h (ag (h.ev rfl)) rfl ?_;intro f h
   refine aA (b:=true) h rfl rfl rfl rfl ?_;intro f h
   refine aA (b:=true) h rfl rfl rfl rfl ?_;intro f h
   refine aA (b:=true) h rfl rfl rfl rfl ?_;intro f h
   refine aA (b:=true) h rfl rfl rfl rfl ?_;intro f h
   refine ac h (aG (h.ev rfl) (h.ev rfl)) rfl ?_;intro f h
   refine ac h (aj (h.ev rfl)) rfl ?_;intro f h
   refine ah ?_
   refine hK2 _ _ ?_
   refine wpIn_ret ?_
   exact bf rfl h s rfl (by show _=_;rw [DM q0])
  ·skip
   refine ae ?_
   refine ar 2 h s bP rfl rfl (by first|exact aK _|exact aF _ _) rfl ?_;intro f h
   refine ar 1 h s bP rfl rfl (by first|exact aK _|exact aF _ _) rfl ?_;intro f h
   refine ac h (av (.bool true) (eF fC (h.ev rfl) (h.ev rfl)) (congrArg Value.bool q1)) rfl ?_;intro f h
   refine ac h (ag (h.ev rfl)) rfl ?_;intro f h
   refine az h rfl rfl rfl ?_
   refine ar 2 h s bP rfl rfl (by first|exact aK _|exact aF _ _) rfl ?_;intro f h
   refine az h rfl rfl rfl ?_
   refine ar 0 h s bP rfl rfl (by first|exact aK _|exact aF _ _) rfl ?_;intro f h
   refine az h rfl rfl rfl ?_
   refine ac h (av (.bool true) (eF fC (h.ev rfl) (h.ev rfl)) (congrArg Value.bool q0)) rfl ?_;intro f h
   refine ac h (aI (h.ev rfl) (h.ev rfl)) rfl ?_;intro f h
   refine ac h (ag (h.ev rfl)) rfl ?_;intro f h
   refine az h rfl rfl rfl ?_
   refine ar 2 h s bP rfl rfl (by first|exact aK _|exact aF _ _) rfl ?_;intro f h
   refine az h rfl rfl rfl ?_
   refine ar 1 h s bP rfl rfl (by first|exact aK _|exact aF _ _) rfl ?_;intro f h
   refine az h rfl rfl rfl ?_
   refine ar 0 h s bP rfl rfl (by first|exact aK _|exact aF _ _) rfl ?_;intro f h
   refine az h rfl rfl rfl ?_
   refine aH h s wM (pj _ _ _ _) rfl rfl ?_;intro f w1 v9 hT hE h s;obtain rfl:=hT
   refine ac h (aI (h.ev rfl) (h.ev rfl)) rfl ?_;intro f h
   refine ac h (aj (h.ev rfl)) rfl ?_;intro f h
   refine ah ?_
   refine hK2 _ _ ?_
   refine wpIn_ret ?_
   exact bf rfl h s rfl (by show _=_;rw [CV q0 q1])
end Go.Proofs.YthggibfkgofncaaGreat
