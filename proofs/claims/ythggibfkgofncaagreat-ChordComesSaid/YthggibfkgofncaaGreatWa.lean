/- What package chord answers for an overlay that is read: its nodes, its members, the node of a number, who is known, which may be. -/
import Derived.Test.YthggibfkgofncaaGreatVj
set_option linter.unusedVariables false
set_option linter.unusedSimpArgs false
set_option linter.unusedSectionVars false
namespace Go.Proofs.YthggibfkgofncaaGreat
open Go.RowKit
theorem pv (x:Int) (w:World):Calls Tryz.prog 111 [.int .i64 x].toArray w (cT w (is (.bool false))):=by
 refine bj Tryz.func111 rfl Tryz.ntmps111 rfl [(0,.int .i64 x)] (by simp) fun f h=>?_
 have s:=St.start w
 refine aj fun K1 hK1=>?_
 refine ae ?_
 refine ac h (ai (h.ev rfl)) rfl ?_;intro f h
 refine ah ?_
 refine hK1 _ _ ?_
 refine aj fun K2 hK2=>?_
 refine ae ?_
 refine ac h (ag (h.ev rfl)) rfl ?_;intro f h
 refine ac h (ag (h.ev rfl)) rfl ?_;intro f h
 refine ac h (aw (.bool false) (cO (h.ev rfl) (h.ev rfl)) (by simp)) rfl ?_;intro f h
 refine ac h (ai (h.ev rfl)) rfl ?_;intro f h
 refine ah ?_
 refine hK2 _ _ ?_
 refine wpIn_ret ?_
 exact aX rfl h s rfl (rfl)
theorem uu (x y:Int) (w:World):Calls Tryz.prog 74 [.int .i64 x,.int .i64 y].toArray w (cT w (is (.int .i64 (dI x y)))):=by
 refine bj Tryz.func74 rfl Tryz.ntmps74 rfl [(0,.int .i64 x),(1,.int .i64 y)] (by simp) fun f h=>?_
 have s:=St.start w
 refine aj fun K1 hK1=>?_
 refine ae ?_
 refine ac h (ai (h.ev rfl)) rfl ?_;intro f h
 refine ah ?_
 refine hK1 _ _ ?_
 refine aj fun K2 hK2=>?_
 refine ae ?_
 refine ac h (ag (h.ev rfl)) rfl ?_;intro f h
 refine aF h s un (pv _ _) rfl rfl ?_;intro f w1 v9 hT hE h s;obtain rfl:=hT
 refine ac h (ai (h.ev rfl)) rfl ?_;intro f h
 refine ah ?_
 refine hK2 _ _ ?_
 refine aj fun K3 hK3=>?_
 refine ae ?_
 refine ac h (ag (h.ev rfl)) rfl ?_;intro f h
 refine aF h s un (pv _ _) rfl rfl ?_;intro f w1 v9 hT hE h s;obtain rfl:=hT
 refine ac h (ai (h.ev rfl)) rfl ?_;intro f h
 refine ah ?_
 refine hK3 _ _ ?_
 refine aj fun K4 hK4=>?_
 refine aj fun K5 hK5=>?_
 refine ae ?_
 refine ac h (ag (h.ev rfl)) rfl ?_;intro f h
 refine ah ?_
 refine hK5 _ _ ?_
 refine wpIn_cond_false (h.ev rfl) ?_
 refine wpIn_skip ?_
 refine hK4 _ _ ?_
 refine aj fun K6 hK6=>?_
 refine aj fun K7 hK7=>?_
 refine ae ?_
 refine ac h (ag (h.ev rfl)) rfl ?_;intro f h
 refine ah ?_
 refine hK7 _ _ ?_
 refine wpIn_cond_false (h.ev rfl) ?_
 refine wpIn_skip ?_
 refine hK6 _ _ ?_
 refine aj fun K8 hK8=>?_
 refine aj fun K9 hK9=>?_
 refine ae ?_
 refine ac h (ag (h.ev rfl)) rfl ?_;intro f h
 refine ac h (ag (h.ev rfl)) rfl ?_;intro f h
 refine ac h (bD (h.ev rfl) (h.ev rfl)) rfl ?_;intro f h
 refine ah ?_
 refine hK9 _ _ ?_
 refine bA h rfl (fun hc=>?_) (fun hc=>?_)
 ·have hc:=of_decide_eq_true hc
  refine aj fun K10 hK10=>?_
  refine ae ?_
  refine ac h (ai (h.ev rfl)) rfl ?_;intro f h
  refine ah ?_
  refine hK10 _ _ ?_
  refine wpIn_ret ?_
  refine aQ ?_
  exact aX rfl h s rfl (by show _=_;unfold dI;rw [if_pos hc])
 ·have hc1:=of_decide_eq_false hc
  refine wpIn_skip ?_
  refine hK8 _ _ ?_
  refine aj fun K11 hK11=>?_
  refine aj fun K12 hK12=>?_
  refine ae ?_
  refine ac h (ag (h.ev rfl)) rfl ?_;intro f h
  refine ac h (ag (h.ev rfl)) rfl ?_;intro f h
  refine ac h (cL (h.ev rfl) (h.ev rfl)) rfl ?_;intro f h
  refine ah ?_
  refine hK12 _ _ ?_
  refine bA h rfl (fun hc=>?_) (fun hc=>?_)
  ·replace hc:=of_decide_eq_true hc
   refine aj fun K13 hK13=>?_
   refine ae ?_
   refine ac h (ai (h.ev rfl)) rfl ?_;intro f h
   refine ah ?_
   refine hK13 _ _ ?_
   refine wpIn_ret ?_
   refine aQ ?_
   exact aX rfl h s rfl (by show _=_;unfold dI;rw [if_neg (by omega),if_pos (by omega)])
  ·replace hc:=of_decide_eq_false hc
   refine wpIn_skip ?_
   refine hK11 _ _ ?_
   refine aj fun K14 hK14=>?_
   refine ae ?_
   refine ac h (ai (h.ev rfl)) rfl ?_;intro f h
   refine ah ?_
   refine hK14 _ _ ?_
   refine wpIn_ret ?_
   exact aX rfl h s rfl (by show _=_;unfold dI;rw [if_neg (by omega),if_neg (by omega)])
theorem ma (x y:Mb) (w:World):Calls Tryz.prog 39 [.agg (au x),.agg (au y)].toArray w (cT w (is (.int .i64 (dI x.1 y.1)))):=by
 refine bj Tryz.func39 rfl Tryz.ntmps39 rfl [(0,.agg (au x)),(1,.agg (au y))] (by simp) fun f h=>?_
 have s:=St.start w
 refine aj fun K1 hK1=>?_
 refine ae ?_
 refine bT ((au x)) h s rfl rfl rfl ?_;intro f w1 b2 h s
 refine bT ((au y)) h s rfl rfl rfl ?_;intro f w1 b3 h s
 refine ac h (ai (h.ev rfl)) rfl ?_;intro f h
 refine ah ?_
 refine hK1 _ _ ?_
 refine aj fun K2 hK2=>?_
 refine ae ?_
 refine ac h (al aP (h.ev rfl)) rfl ?_;intro f h
 refine ar (am (bc.of_own s 1 rfl) 0 (aV _)) h bO rfl rfl ?_;intro f h
 refine ac h (al aP (h.ev rfl)) rfl ?_;intro f h
 refine ar (am (bc.of_own s 0 rfl) 0 (aV _)) h bO rfl rfl ?_;intro f h
 refine aF h s AS (uu _ _ _) rfl rfl ?_;intro f w1 v9 hT hE h s;obtain rfl:=hT
 refine ac h (ai (h.ev rfl)) rfl ?_;intro f h
 refine ah ?_
 refine hK2 _ _ ?_
 refine wpIn_ret ?_
 exact aX rfl h s rfl (rfl)
theorem sK  (w:World):Calls Tryz.prog 83 [].toArray w (cT w (is (.agg (au d5)))):=by
 refine bj Tryz.func83 rfl Tryz.ntmps83 rfl [] (by simp) fun f h=>?_
 have s:=St.start w
 refine aj fun K1 hK1=>?_
 refine ae ?_
 refine ba (au a8) h s cz rfl rfl ?_;intro f w1 b0 h s
 refine ah ?_
 refine hK1 _ _ ?_
 refine aj fun K2 hK2=>?_
 refine ae ?_
 refine ac h (dz my rfl) rfl ?_;intro f h
 refine ay 0 h s aL rfl rfl rfl (ak _) (ak _) (bf _) ?_;intro w1 s
 refine ah ?_
 refine hK2 _ _ ?_
 refine wpIn_ret ?_
 exact d7 0 rfl h s aL rfl rfl (ak _) (rfl)
theorem jy (l:List Mb) (vh:Value) (w:World) (hR:bK w vh 33 l.length (av l)) (hln:l.length≤1000):Calls Tryz.prog 46 [vh,.func (.func 39) #[] #[]].toArray w (cT w (is (.bool (lK l)))):=by
 refine bj Tryz.func46 rfl Tryz.ntmps46 rfl [(0,vh),(1,.func (.func 39) #[] #[])] (by simp) fun f h=>?_
 have s:=St.start w
 refine aj fun K1 hK1=>?_
 refine ae ?_
 refine ac h (ai (h.ev rfl)) rfl ?_;intro f h
 refine ah ?_
 refine hK1 _ _ ?_
 refine aj fun K2 hK2=>?_
 refine aj fun K3 hK3=>?_
 refine ae ?_
 refine ac h (ag (h.ev rfl)) rfl ?_;intro f h
 refine ac h (aY (hR.keep s.ext) Tryz.underlying36 (h.ev rfl)) rfl ?_;intro f h
 refine ac h (dP (h.ev rfl) (h.ev rfl) (by omega)) rfl ?_;intro f h
 refine ac h (ai (h.ev rfl)) rfl ?_;intro f h
 refine ah ?_
 refine hK3 _ _ ?_
 refine wpIn_block ?_
 refine wpIn_loop_ghost (fun nn aa ww=>∃ k:Nat,Sl 25 aa [(0,vh),(1,.func (.func 39) #[] #[]),(5,.int .i64 ((k:Int) - 1))]∧St w [] ww∧nn=k∧k≤l.length∧∀ j,k≤j→0<j→j<l.length→iX l j=false) ((l.length)) ⟨l.length,h.only ⟨rfl,rfl,aR rfl (by omega),trivial⟩,s.as trivial,rfl,Nat.le_refl _,fun j h1 _ h2=>absurd h2 (by omega)⟩ ?_
 rintro _ f w1 ⟨k,h,s,hnn,hp0,hp1⟩
 refine aj fun K4 hK4=>?_
 refine aj fun K5 hK5=>?_
 refine ae ?_
 refine ac h (ag (h.ev rfl)) rfl ?_;intro f h
 refine ac h (cL (h.ev rfl) (h.ev rfl)) rfl ?_;intro f h
 refine ah ?_
 refine hK5 _ _ ?_
 refine bA h rfl (fun hc=>?_) (fun hc=>?_)
 ·replace hc:=of_decide_eq_true hc
  refine wpIn_skip ?_
  refine hK4 _ _ ?_
  refine aj fun K6 hK6=>?_
  refine wpIn_block ?_
  refine aj fun K7 hK7=>?_
  cases hq:(iX l (k - 1):Bool)
  ·skip
   refine bJ 12 [[],[],[],[1,2],[1,2,3],[],[],[6],[5,6,7],[5,6,7,8],[0,1,2,3,4,5,6,7,8,9],[0,1,2,3,4,5,6,7,8,9,10]] h (by kernel_rfl) (by kernel_rfl) (by kernel_rfl) ?_
   have h0:=hc
   have hk1:0<k - 1:=by omega
   refine ap h (ag (h.ev rfl)) rfl ?_;intro f h
   refine ap h (ag (h.ev rfl)) rfl ?_;intro f h
   refine ap h (ag (h.ev rfl)) rfl ?_;intro f h
   refine ap h (ce (hR.keep s.ext) (k - 1) Tryz.underlying36 cG (h.ev rfl) (h.ev rfl) (by omega) (by omega)) rfl ?_;intro f h
   refine bz ((hR.keep s.ext).el (k - 1) (by omega) (by decide) (D:=au (l.getD (k - 1) a8)) (cK l (k - 1) (by omega))) h aL rfl (ak _) rfl ?_;intro f h
   refine ap h (ag (h.ev rfl)) rfl ?_;intro f h
   refine ap h (ag (h.ev rfl)) rfl ?_;intro f h
   refine ap h (dP (h.ev rfl) (h.ev rfl) (by omega)) rfl ?_;intro f h
   refine ap h (ce (hR.keep s.ext) (k - 1 - 1) Tryz.underlying36 cG (h.ev rfl) (h.ev rfl) (by omega) (by omega)) rfl ?_;intro f h
   refine bz ((hR.keep s.ext).el (k - 1 - 1) (by omega) (by decide) (D:=au (l.getD (k - 1 - 1) a8)) (cK l (k - 1 - 1) (by omega))) h aL rfl (ak _) rfl ?_;intro f h
   refine nF [.agg (au (l.getD (k - 1) a8)),.agg (au (l.getD (k - 1 - 1) a8))] (caps:=[]) h vg rfl (fun w9 h9=>ma _ _ w9) rfl rfl ?_;intro f h
   refine ap h (aw (.bool false) (bD (h.ev rfl) (h.ev rfl)) (congrArg Value.bool ((decide_eq_decide.2 (i7 _ _)).trans hq))) rfl ?_;intro f h
   refine cn s fun w1 s=>?_
   refine ah ?_
   refine hK7 _ _ ?_
   refine wpIn_cond_false (h.ev rfl) ?_
   refine wpIn_skip ?_
   refine bF ?_
   refine hK6 _ _ ?_
   refine ae ?_
   refine ac h (ag (h.ev rfl)) rfl ?_;intro f h
   refine ac h (dP (h.ev rfl) (h.ev rfl) (by omega)) rfl ?_;intro f h
   refine ac h (ai (h.ev rfl)) rfl ?_;intro f h
   refine ah ?_
   refine bQ ?_
   exact ⟨_,by omega,⟨k - 1,h.only ⟨rfl,rfl,aR rfl (by omega),trivial⟩,St.as s trivial,rfl,by omega,vI hp1 (by omega) hq⟩⟩
  ·skip
   refine bJ 12 [[],[],[],[1,2],[1,2,3],[],[],[6],[5,6,7],[5,6,7,8],[0,1,2,3,4,5,6,7,8,9],[0,1,2,3,4,5,6,7,8,9,10]] h (by kernel_rfl) (by kernel_rfl) (by kernel_rfl) ?_
   have h0:=hc
   have hk1:0<k - 1:=by omega
   refine ap h (ag (h.ev rfl)) rfl ?_;intro f h
   refine ap h (ag (h.ev rfl)) rfl ?_;intro f h
   refine ap h (ag (h.ev rfl)) rfl ?_;intro f h
   refine ap h (ce (hR.keep s.ext) (k - 1) Tryz.underlying36 cG (h.ev rfl) (h.ev rfl) (by omega) (by omega)) rfl ?_;intro f h
   refine bz ((hR.keep s.ext).el (k - 1) (by omega) (by decide) (D:=au (l.getD (k - 1) a8)) (cK l (k - 1) (by omega))) h aL rfl (ak _) rfl ?_;intro f h
   refine ap h (ag (h.ev rfl)) rfl ?_;intro f h
   refine ap h (ag (h.ev rfl)) rfl ?_;intro f h
   refine ap h (dP (h.ev rfl) (h.ev rfl) (by omega)) rfl ?_;intro f h
   refine ap h (ce (hR.keep s.ext) (k - 1 - 1) Tryz.underlying36 cG (h.ev rfl) (h.ev rfl) (by omega) (by omega)) rfl ?_;intro f h
   refine bz ((hR.keep s.ext).el (k - 1 - 1) (by omega) (by decide) (D:=au (l.getD (k - 1 - 1) a8)) (cK l (k - 1 - 1) (by omega))) h aL rfl (ak _) rfl ?_;intro f h
   refine nF [.agg (au (l.getD (k - 1) a8)),.agg (au (l.getD (k - 1 - 1) a8))] (caps:=[]) h vg rfl (fun w9 h9=>ma _ _ w9) rfl rfl ?_;intro f h
   refine ap h (aw (.bool true) (bD (h.ev rfl) (h.ev rfl)) (congrArg Value.bool ((decide_eq_decide.2 (i7 _ _)).trans hq))) rfl ?_;intro f h
   refine cn s fun w1 s=>?_
   refine ah ?_
   refine hK7 _ _ ?_
   refine wpIn_cond_true (h.ev rfl) ?_
   refine aj fun K8 hK8=>?_
   refine ae ?_
   refine ac h (ai (h.ev rfl)) rfl ?_;intro f h
   refine ah ?_
   refine hK8 _ _ ?_
   refine wpIn_ret ?_
   refine bu ?_
   refine aQ ?_
   refine aQ ?_
   refine bu ?_
   refine aQ ?_
   exact aX rfl h s rfl (by show _=_;rw [oL (by omega) hk1 hq])
 ·replace hc:=of_decide_eq_false hc
  refine wpIn_exit ?_
  refine bw ?_
  refine bw ?_
  refine cq ?_
  refine hK2 _ _ ?_
  refine aj fun K9 hK9=>?_
  refine ae ?_
  refine ac h (ai (h.ev rfl)) rfl ?_;intro f h
  refine ah ?_
  refine hK9 _ _ ?_
  refine wpIn_ret ?_
  exact aX rfl h s rfl (by show _=_;rw [lR (fun j h1 h2=>hp1 j (by omega) h1 h2)])
theorem ni (l r:List Mb) (vh vu:Value) (w:World) (hR:bK w vh 33 l.length (av l)) (hS:bK w vu 33 r.length (av r)) (hln:l.length≤1000) (hln2:r.length≤1000):Calls Tryz.prog 51 [vh,vu].toArray w (cT w (is (.bool (decide (l=r))))):=by
 refine bj Tryz.func51 rfl Tryz.ntmps51 rfl [(0,vh),(1,vu)] (by simp) fun f h=>?_
 have s:=St.start w
 refine aj fun K1 hK1=>?_
 refine ae ?_
 refine ac h (ai (h.ev rfl)) rfl ?_;intro f h
 refine ah ?_
 refine hK1 _ _ ?_
 refine aj fun K2 hK2=>?_
 refine aj fun K3 hK3=>?_
 refine ae ?_
 refine ac h (ag (h.ev rfl)) rfl ?_;intro f h
 refine ac h (aY (hR.keep s.ext) Tryz.underlying36 (h.ev rfl)) rfl ?_;intro f h
 refine ac h (ag (h.ev rfl)) rfl ?_;intro f h
 refine ac h (aY (hS.keep s.ext) Tryz.underlying36 (h.ev rfl)) rfl ?_;intro f h
 refine ac h (cO (h.ev rfl) (h.ev rfl)) rfl ?_;intro f h
 refine ah ?_
 refine hK3 _ _ ?_
 refine bA h rfl (fun hc=>?_) (fun hc=>?_)
 ·replace hc:=hc
  refine aj fun K4 hK4=>?_
  refine ae ?_
  refine ac h (ai (h.ev rfl)) rfl ?_;intro f h
  refine ah ?_
  refine hK4 _ _ ?_
  refine wpIn_ret ?_
  refine aQ ?_
  exact aX rfl h s rfl ((by show _=_;rw [decide_eq_false (fun e=>by subst e;simp at hc)]))
 ·have hl9:l.length=r.length:=by have:=hc;simp at this;omega
  refine wpIn_skip ?_
  refine hK2 _ _ ?_
  refine aj fun K5 hK5=>?_
  refine aj fun K6 hK6=>?_
  refine ae ?_
  refine ac h (ag (h.ev rfl)) rfl ?_;intro f h
  refine ac h (aY (hR.keep s.ext) Tryz.underlying36 (h.ev rfl)) rfl ?_;intro f h
  refine ac h (ag (h.ev rfl)) rfl ?_;intro f h
  refine ah ?_
  refine hK6 _ _ ?_
  refine wpIn_block ?_
  refine wpIn_loop_ghost (fun nn aa ww=>∃ k:Nat,Sl 26 aa [(0,vh),(1,vu),(12,.int .i64 (l.length:Int)),(13,.int .i64 (k:Int))]∧St w [] ww∧nn=l.length - k∧k≤l.length∧∀ j,j<k→l.getD j a8=r.getD j a8) (l.length - (0)) ⟨0,h.only ⟨rfl,rfl,rfl,aR rfl (by omega),trivial⟩,s.as trivial,rfl,Nat.zero_le _,fun j hj=>absurd hj (Nat.not_lt_zero _)⟩ ?_
  rintro _ f w1 ⟨k,h,s,hnn,hp0,hp1⟩
  refine aj fun K7 hK7=>?_
  refine ae ?_
  refine ac h (bD (h.ev rfl) (h.ev rfl)) rfl ?_;intro f h
  refine ah ?_
  refine hK7 _ _ ?_
  refine aj fun K8 hK8=>?_
  refine bA h rfl (fun hc=>?_) (fun hc=>?_)
  ·replace hc:=of_decide_eq_true hc
   refine wpIn_skip ?_
   refine hK8 _ _ ?_
   refine aj fun K9 hK9=>?_
   refine wpIn_block ?_
   refine aj fun K10 hK10=>?_
   refine ae ?_
   refine ac h (ag (h.ev rfl)) rfl ?_;intro f h
   refine ac h (ai (h.ev rfl)) rfl ?_;intro f h
   refine ah ?_
   refine hK10 _ _ ?_
   refine aj fun K11 hK11=>?_
   refine bJ 9 [[],[],[0,1],[0,1,2],[],[],[4,5],[4,5,6],[0,1,2,3,4,5,6,7]] h (by kernel_rfl) (by kernel_rfl) (by kernel_rfl) ?_
   have hka:k<l.length:=by omega
   have hkb:k<r.length:=by omega
   refine ap h (ag (h.ev rfl)) rfl ?_;intro f h
   refine ap h (ag (h.ev rfl)) rfl ?_;intro f h
   refine ap h (ce (hR.keep s.ext) (k) Tryz.underlying36 cG (h.ev rfl) (h.ev rfl) (by omega) (by omega)) rfl ?_;intro f h
   refine bz ((hR.keep s.ext).el (k) (by omega) (by decide) (D:=au (l.getD k a8)) (cK l k hka)) h aL rfl (ak _) rfl ?_;intro f h
   refine ap h (ag (h.ev rfl)) rfl ?_;intro f h
   refine ap h (ag (h.ev rfl)) rfl ?_;intro f h
   refine ap h (ce (hS.keep s.ext) (k) Tryz.underlying36 cG (h.ev rfl) (h.ev rfl) (by omega) (by omega)) rfl ?_;intro f h
   refine bz ((hS.keep s.ext).el (k) (by omega) (by decide) (D:=au (r.getD k a8)) (cK r k hkb)) h aL rfl (ak _) rfl ?_;intro f h
   refine ap h (dc (gM _ _) (by kernel_rfl) (by decide) (h.ev rfl) (h.ev rfl) (decide ((l.getD k a8)=r.getD k a8)) (dE _ _)) rfl ?_;intro f h
   refine cn s fun w1 s=>?_
   refine ah ?_
   refine hK11 _ _ ?_
   refine bA h rfl (fun hc=>?_) (fun hc=>?_)
   ·refine aj fun K12 hK12=>?_
    refine ae ?_
    refine ac h (ai (h.ev rfl)) rfl ?_;intro f h
    refine ah ?_
    refine hK12 _ _ ?_
    refine wpIn_ret ?_
    refine bu ?_
    refine aQ ?_
    refine aQ ?_
    refine bu ?_
    refine aQ ?_
    exact aX rfl h s rfl ((by show _=_;rw [decide_eq_false (fun e=>by subst e;simp at hc)]))
   ·refine wpIn_skip ?_
    refine bF ?_
    refine hK9 _ _ ?_
    refine ae ?_
    refine ac h (cg (h.ev rfl) (h.ev rfl) (by omega)) rfl ?_;intro f h
    refine ac h (ag (h.ev rfl)) rfl ?_;intro f h
    refine ah ?_
    refine bQ ?_
    exact ⟨_,by omega,⟨k+1,h.only ⟨rfl,rfl,rfl,aR rfl (by omega),trivial⟩,St.as s trivial,rfl,by omega,pt hp1 (by simpa using hc)⟩⟩
  ·replace hc:=of_decide_eq_false hc
   refine wpIn_exit ?_
   refine bw ?_
   refine bw ?_
   refine cq ?_
   refine hK5 _ _ ?_
   refine aj fun K13 hK13=>?_
   refine ae ?_
   refine ac h (ai (h.ev rfl)) rfl ?_;intro f h
   refine ah ?_
   refine hK13 _ _ ?_
   refine wpIn_ret ?_
   exact aX rfl h s rfl ((by show _=_;rw [decide_eq_true (qY hl9 (fun j hj=>hp1 j (by omega)))]))
theorem f5 (vo:Value) (B9:List Own) (w0 w:World) (s:St w0 B9 w):Calls Tryz.prog 47 [.agg #[vo]].toArray w (fun e w9=>∃ r,e=.returned r∧∃ bn,r=.func (.func 79) #[] #[.pointer (some ⟨bn,0,none⟩)]∧St w0 (.blk bn (.cells #[vo] 24)::B9) w9):=by
 refine gV Tryz.func47 rfl Tryz.ntmps47 rfl [(0,.agg #[vo])] (by simp) fun f h=>?_
 refine aj fun K1 hK1=>?_
 refine ae ?_
 refine bT (#[vo]) h s rfl rfl rfl ?_;intro f w1 b1 h s
 refine ac h (ai (h.ev rfl)) rfl ?_;intro f h
 refine ah ?_
 refine hK1 _ _ ?_
 refine aj fun K2 hK2=>?_
 refine ae ?_
 refine ac h (ek [.pointer (some ⟨b1,0,none⟩)] (mx h rfl)) rfl ?_;intro f h
 refine ac h (ai (h.ev rfl)) rfl ?_;intro f h
 refine ah ?_
 refine hK2 _ _ ?_
 refine wpIn_ret ?_
 exact tO rfl h rfl (⟨_,rfl,b1,rfl,s⟩)
theorem fp (m:Nat) (hm:m≤1000) (vo:Value) (xs:List Value) (wr:World) (hV:bK wr vo 68 m xs) (lp bx:Nat) (q:Nat→Bool) (GG:Nat→Own→Prop) (g0:Own) (w0 w:World) (s:St w0 [.blk bx (.cells #[vo] 24),g0] w) (hg0:GG 0 g0) (hY:∀ (d:Nat) (B9:List Own) (w9:World) (i:Nat) (g:Own),d<m→(∀ j,j<d→q j=false)→GG d g→St w0 B9 w9→B9[i]? = some g→i4 Tryz.prog lp [Value.pointer (some (bs vo (d*68)))].toArray w9 (fun v w2=>v=.bool (!q d)∧∃ g',GG (d+1) g'∧St w0 (B9.set i g') w2)):Calls Tryz.prog 79 [.func (.yield lp) #[] #[],.pointer (some ⟨bx,0,none⟩)].toArray w (fun e w9=>(∃ v,e=.returned v)∧∃ d g,GG d g∧St w0 ([.blk bx (.cells #[vo] 24)]++[g]) w9∧d≤m∧(∀ j,j+1<d→q j=false)∧(lq q d=false→d=m)):=by
 refine gV Tryz.func79 rfl Tryz.ntmps79 rfl [(0,.func (.yield lp) #[] #[]),(1,.pointer (some ⟨bx,0,none⟩))] (by simp) fun f h=>?_
 refine aj fun K1 hK1=>?_
 refine ae ?_
 refine ac h (al cb (h.ev rfl)) rfl ?_;intro f h
 refine ar (V:=vo) (am (bc.of_own s 0 rfl) 0 rfl) h cH rfl rfl ?_;intro f h
 refine ac h (aY (hV) Tryz.underlying22 (h.ev rfl)) rfl ?_;intro f h
 refine ac h (ag (h.ev rfl)) rfl ?_;intro f h
 refine ah ?_
 refine hK1 _ _ ?_
 refine wpIn_block ?_
 refine wpIn_loop_ghost (fun nn aa ww=>∃ d:Nat,∃ gg:Own,Sl 18 aa [(0,.func (.yield lp) #[] #[]),(1,.pointer (some ⟨bx,0,none⟩)),(6,.int .i64 (m:Int)),(7,.int .i64 (d:Int))]∧St w0 [.blk bx (.cells (#[vo]) 24),(gg)] ww∧nn=m - d∧d≤m∧GG d gg∧∀ j,j<d→q j=false) (m - (0)) ⟨0,g0,h.only ⟨rfl,rfl,rfl,aR rfl (by omega),trivial⟩,s.as ⟨rfl,rfl,trivial⟩,rfl,Nat.zero_le _,hg0,fun j hj=>absurd hj (Nat.not_lt_zero _)⟩ ?_
 rintro _ f w1 ⟨d,gg,h,s,hnn,hp0,hp1,hp2⟩
 refine aj fun K2 hK2=>?_
 refine ae ?_
 refine ac h (bD (h.ev rfl) (h.ev rfl)) rfl ?_;intro f h
 refine ah ?_
 refine hK2 _ _ ?_
 refine aj fun K3 hK3=>?_
 refine bA h rfl (fun hc=>?_) (fun hc=>?_)
 ·replace hc:=of_decide_eq_true hc
  refine wpIn_skip ?_
  refine hK3 _ _ ?_
  refine aj fun K4 hK4=>?_
  refine wpIn_block ?_
  refine aj fun K5 hK5=>?_
  refine ae ?_
  have hdl:d<m:=by omega
  refine ac h (ag (h.ev rfl)) rfl ?_;intro f h
  refine ac h (ai (h.ev rfl)) rfl ?_;intro f h
  refine ah ?_
  refine hK5 _ _ ?_
  refine aj fun K6 hK6=>?_
  cases hq:(q d:Bool)
  ·skip
   refine ae ?_
   refine ac h (ag (h.ev rfl)) rfl ?_;intro f h
   refine ac h (al cb (h.ev rfl)) rfl ?_;intro f h
   refine ar (V:=vo) (am (bc.of_own s 0 rfl) 0 rfl) h cH rfl rfl ?_;intro f h
   refine ac h (ag (h.ev rfl)) rfl ?_;intro f h
   refine ac h (ce (hV) (d) Tryz.underlying22 eX (h.ev rfl) (h.ev rfl) (by omega) (by omega)) rfl ?_;intro f h
   refine ga (V:=.bool true) (G:=GG (d+1)) [.pointer (some (bs vo (d*68)))] 1 h rfl rfl (by have h9:=hY d _ _ 1 gg hdl hp2 hp1 s rfl;rw [hq] at h9;exact h9) rfl ?_;intro f w1 g1 hg1 h s
   refine ac h (aw (.bool false) (bg (h.ev rfl)) rfl) rfl ?_;intro f h
   refine ah ?_
   refine hK6 _ _ ?_
   refine wpIn_cond_false (h.ev rfl) ?_
   refine wpIn_skip ?_
   refine bF ?_
   refine hK4 _ _ ?_
   refine ae ?_
   refine ac h (cg (h.ev rfl) (h.ev rfl) (by omega)) rfl ?_;intro f h
   refine ac h (ag (h.ev rfl)) rfl ?_;intro f h
   refine ah ?_
   refine bQ ?_
   exact ⟨_,by omega,⟨d+1,g1,h.only ⟨rfl,rfl,rfl,aR rfl (by omega),trivial⟩,St.as s ⟨rfl,rfl,trivial⟩,rfl,by omega,hg1,cV hp2 hq⟩⟩
  ·skip
   refine ae ?_
   refine ac h (ag (h.ev rfl)) rfl ?_;intro f h
   refine ac h (al cb (h.ev rfl)) rfl ?_;intro f h
   refine ar (V:=vo) (am (bc.of_own s 0 rfl) 0 rfl) h cH rfl rfl ?_;intro f h
   refine ac h (ag (h.ev rfl)) rfl ?_;intro f h
   refine ac h (ce (hV) (d) Tryz.underlying22 eX (h.ev rfl) (h.ev rfl) (by omega) (by omega)) rfl ?_;intro f h
   refine ga (V:=.bool false) (G:=GG (d+1)) [.pointer (some (bs vo (d*68)))] 1 h rfl rfl (by have h9:=hY d _ _ 1 gg hdl hp2 hp1 s rfl;rw [hq] at h9;exact h9) rfl ?_;intro f w1 g1 hg1 h s
   refine ac h (aw (.bool true) (bg (h.ev rfl)) rfl) rfl ?_;intro f h
   refine ah ?_
   refine hK6 _ _ ?_
   refine wpIn_cond_true (h.ev rfl) ?_
   refine wpIn_ret ?_
   refine bu ?_
   refine aQ ?_
   refine aQ ?_
   refine bu ?_
   exact oe rfl h (⟨⟨_,rfl⟩,d+1,g1,hg1,s,by omega,fun j hj=>hp2 j (by omega),fun h9=>absurd (hq.symm.trans h9) (by decide)⟩)
 ·replace hc:=of_decide_eq_false hc
  refine wpIn_exit ?_
  refine bw ?_
  refine bw ?_
  refine cq ?_
  exact gR rfl h (⟨⟨_,rfl⟩,d,gg,hp1,s,hp0,fun j hj=>hp2 j (by omega),fun _=>by omega⟩)
theorem ej (L:List N3) (vo:Value) (no:Int) (w:World) (hO:cf w vo L) (hL:L.length≤40):Calls Tryz.prog 35 [.agg #[vo],.int .i64 no].toArray w (cT w (is (qo vo L no))):=by
 refine eU Tryz.func35 rfl Tryz.ntmps35 rfl [(0,.agg #[vo]),(1,.int .i64 no)] (by simp) fun f h=>?_
 have s:=St.start w
 refine aj fun K1 hK1=>?_
 refine ae ?_
 refine bT (#[vo]) h s rfl rfl rfl ?_;intro f w1 b2 h s
 refine bT (#[.int .i64 no]) h s rfl rfl rfl ?_;intro f w1 b3 h s
 refine ba (#[.pointer none]) h s zl rfl rfl ?_;intro f w1 b4 h s
 refine ah ?_
 refine hK1 _ _ ?_
 refine aj fun K2 hK2=>?_
 refine aj fun K3 hK3=>?_
 refine ae ?_
 refine ao 2 h s aU rfl rfl (rfl) rfl ?_;intro f h
 refine eP [.agg #[vo]] h mR (f5 vo _ _ _ s) rfl rfl ?_;rintro f w1 r ⟨bn,rfl,s⟩ h
 refine ah ?_
 refine hK3 _ _ ?_
 refine wpIn_block ?_
 refine eV (fun d A9=>A9=[.blk b4 (.cells #[AV vo (qL L no) d] 54),.blk b3 (.cells #[.int .i64 no] 3),.blk b2 (.cells #[vo] 24)]) [.blk b4 (.cells #[.pointer none] 54),.blk b3 (.cells #[.int .i64 no] 3),.blk b2 (.cells #[vo] 24)] [.blk bn (.cells #[vo] 24)] (L.length) (qL L no) (fun d=>[Value.pointer (some (bs vo (d*68)))]) h s rfl mJ (List.Perm.refl _) (rfl) (fun _=>rfl) ?_ ?_ ?_ ?_
 ·intro lp w2 GG g0 hg0 s2 hY;exact fp L.length (by omega) vo _ _ hO.1 lp bn (qL L no) GG g0 w w2 s2 hg0 hY
 ·intro lp D9 d9 rc R9 A9 w2 hd9 hq9 hJ9 s
  obtain rfl:=hJ9
  have h:=Sl.round1 (p:=8) (V:=.pointer (some (bs vo (d9*68)))) h rfl
  have hdl9:=hd9
  refine ae ?_
  refine ac h (ai (h.ev rfl)) rfl ?_;intro f h
  refine ah ?_
  refine bQ ?_
  refine ⟨_,s,fun w3 s=>?_⟩
  refine wpIn_block ?_
  refine aj fun K4 hK4=>?_
  cases hq:(qL L no d9:Bool)
  ·skip
   refine bJ 7 [[],[0],[0,1],[0,1,2],[0,1,2,3],[],[0,1,2,3,4,5]] h (by kernel_rfl) (by kernel_rfl) (by kernel_rfl) ?_
   refine ap h (ag (h.ev rfl)) rfl ?_;intro f h
   refine ap h (bN (h.ev rfl)) rfl ?_;intro f h
   refine ap h (ca a6 (h.ev rfl) ((hO.1.keep s.ext).some (by omega))) rfl ?_;intro f h
   refine ap h (ca aP (h.ev rfl) ((hO.1.keep s.ext).some (by omega))) rfl ?_;intro f h
   refine bk (V:=.int .i64 (L.getD d9 z3).1.me.1) (fx (hO.1.keep s.ext) (d9*68+0) (lS L d9 hdl9)) h bO rfl rfl ?_;intro f h
   refine dp 3 h s bO rfl rfl (rfl) rfl ?_;intro f h
   refine ap h (aw (.bool false) (cc (h.ev rfl) (h.ev rfl)) (congrArg Value.bool hq)) rfl ?_;intro f h
   refine cn s fun w1 s=>?_
   refine ah ?_
   refine hK4 _ _ ?_
   refine wpIn_cond_false (h.ev rfl) ?_
   refine wpIn_skip ?_
   refine bF ?_
   replace s:=s.recell (D:=#[AV vo (qL L no) (d9+1)]) 2 rfl (by rw [wa hq9];show _=#[bif qL L no d9 then _ else _];rw [hq];rfl)
   refine ⟨by first|exact hq|rfl,_,rfl,s.pick _ ?_⟩
   exact List.Sublist.cons_cons _ (List.Sublist.refl _)
  ·skip
   refine bJ 7 [[],[0],[0,1],[0,1,2],[0,1,2,3],[],[0,1,2,3,4,5]] h (by kernel_rfl) (by kernel_rfl) (by kernel_rfl) ?_
   refine ap h (ag (h.ev rfl)) rfl ?_;intro f h
   refine ap h (bN (h.ev rfl)) rfl ?_;intro f h
   refine ap h (ca a6 (h.ev rfl) ((hO.1.keep s.ext).some (by omega))) rfl ?_;intro f h
   refine ap h (ca aP (h.ev rfl) ((hO.1.keep s.ext).some (by omega))) rfl ?_;intro f h
   refine bk (V:=.int .i64 (L.getD d9 z3).1.me.1) (fx (hO.1.keep s.ext) (d9*68+0) (lS L d9 hdl9)) h bO rfl rfl ?_;intro f h
   refine dp 3 h s bO rfl rfl (rfl) rfl ?_;intro f h
   refine ap h (aw (.bool true) (cc (h.ev rfl) (h.ev rfl)) (congrArg Value.bool hq)) rfl ?_;intro f h
   refine cn s fun w1 s=>?_
   refine ah ?_
   refine hK4 _ _ ?_
   refine wpIn_cond_true (h.ev rfl) ?_
   refine aj fun K5 hK5=>?_
   refine ae ?_
   refine ac h (ag (h.ev rfl)) rfl ?_;intro f h
   refine bp 2 h s rj rfl rfl rfl (by simp) (rfl) ?_;intro w1 s
   refine ah ?_
   refine hK5 _ _ ?_
   refine wpIn_ret ?_
   refine bu ?_
   replace s:=s.recell (D:=#[AV vo (qL L no) (d9+1)]) 2 rfl (by show _=#[bif qL L no d9 then _ else _];rw [hq];rfl)
   refine ⟨by first|exact hq|rfl,_,rfl,s.pick _ ?_⟩
   exact List.Sublist.cons_cons _ (List.Sublist.refl _)
 ·intro D9 A9 w2 hJ9 hq9 s
  obtain rfl:=hJ9
  replace h:Sl _ {f with defers:={target:=.collected D9,args:=#[]}::f.defers} _ [{target:=.collected D9,args:=#[]}]:=⟨h.size,by rw [h.defers],h.holds⟩
  refine bF ?_
  refine hK2 _ _ ?_
  refine aj fun K6 hK6=>?_
  refine ae ?_
  refine bp 2 h s rj rfl rfl rfl (by simp) (rfl) ?_;intro w1 s
  refine ah ?_
  refine hK6 _ _ ?_
  refine wpIn_ret ?_
  exact eR 2 0 rfl h s rj rfl rfl rfl rfl rfl (fun w9=>(A2 hq9).symm)
 ·intro D9 d9 A9 w2 hd9 hqd9 hq9 hJ9 s
  obtain rfl:=hJ9
  replace h:Sl _ {f with defers:={target:=.collected D9,args:=#[]}::f.defers} _ [{target:=.collected D9,args:=#[]}]:=⟨h.size,by rw [h.defers],h.holds⟩
  refine bu ?_
  refine aQ ?_
  exact eR 2 0 rfl h s rj rfl rfl rfl rfl rfl (fun w9=>Ax hd9 hq9 hqd9)
theorem ff (L:List N3) (vo:Value) (w:World) (hO:cf w vo L) (hL:L.length≤40):Calls Tryz.prog 15 [.agg #[vo]].toArray w (cT w (fun v w'=>cN w' w.heap.size 28 33 v (aN L).length (av (aN L)))):=by
 refine eU Tryz.func15 rfl Tryz.ntmps15 rfl [(0,.agg #[vo])] (by simp) fun f h=>?_
 have s:=St.start w
 refine aj fun K1 hK1=>?_
 refine ae ?_
 refine bT (#[vo]) h s rfl rfl rfl ?_;intro f w1 b1 h s
 refine ac h (ai (h.ev rfl)) rfl ?_;intro f h
 refine ah ?_
 refine hK1 _ _ ?_
 refine aj fun K2 hK2=>?_
 refine ae ?_
 refine ba (#[.slice none 0 0]) h s uM rfl rfl ?_;intro f w1 b3 h s
 refine ah ?_
 refine hK2 _ _ ?_
 refine aj fun K3 hK3=>?_
 refine aj fun K4 hK4=>?_
 refine ae ?_
 refine ao 1 h s aU rfl rfl (rfl) rfl ?_;intro f h
 replace s:=s.nilSl 28 33
 refine eP [.agg #[vo]] h mR (f5 vo _ _ _ s) rfl rfl ?_;rintro f w1 r ⟨bn,rfl,s⟩ h
 refine ah ?_
 refine hK4 _ _ ?_
 refine wpIn_block ?_
 refine eV (fun d A9=>∃ v8:Value,A9=[.sl v8 28 33 (aN (L.take d)).length (av (aN (L.take d))),.blk b3 (.cells #[v8] 36),.blk b1 (.cells #[vo] 24)]) [.sl (Value.slice none 0 0) 28 33 (aN (L.take 0)).length (av (aN (L.take 0))),.blk b3 (.cells #[(Value.slice none 0 0)] 36),.blk b1 (.cells #[vo] 24)] [.blk bn (.cells #[vo] 24)] (L.length) (fun _=>false) (fun d=>[Value.pointer (some (bs vo (d*68)))]) h s rfl mJ (List.Perm.refl _) (⟨_,rfl⟩) (fun _=>rfl) ?_ ?_ ?_ ?_
 ·intro lp w2 GG g0 hg0 s2 hY;exact fp L.length (by omega) vo _ _ hO.1 lp bn (fun _=>false) GG g0 w w2 s2 hg0 hY
 ·intro lp D9 d9 rc R9 A9 w2 hd9 hq9 hJ9 s
  obtain ⟨v8,rfl⟩:=hJ9
  have h:=Sl.round1 (p:=7) (V:=.pointer (some (bs vo (d9*68)))) h rfl
  have hdl9:=hd9
  refine ae ?_
  refine ac h (ai (h.ev rfl)) rfl ?_;intro f h
  refine ah ?_
  refine bQ ?_
  refine ⟨_,s,fun w3 s=>?_⟩
  refine wpIn_block ?_
  have hbs:=s.ext.le
  refine' eL 6 [1,2,3] [] [[],[],[1],[1,2],[1,2,3],[1,2,3,4],[0,1,2,3,4,5],[0,1,2,3,4,5,6]] (is _::is _::is _::is _::is _::(fun v w9=>bK w9 v 33 1 ((au (L.getD d9 z3).1.me).toList))::is undef::is undef::[]) (fun _=>True) h s (by kernel_rfl) (by kernel_rfl) (by kernel_rfl) (by kernel_rfl) rfl (fun _ _ h _=>h) (trivial) ⟨⟨_,rfl⟩,⟨_,rfl⟩,⟨_,rfl⟩,trivial⟩ ⟨az _,az _,az _,az _,az _,bK.mono,az _,az _,trivial⟩ (And.intro ?_ (And.intro ?_ (And.intro ?_ (And.intro ?_ (And.intro ?_ (And.intro ?_ (And.intro ?_ (And.intro ?_ (trivial))))))))) ?_
  rotate_left 5
  ·refine aT 8 rfl (by decide) (by decide) ?_
   intro f9 w2 hE hs hd9 hl
   have e3:f9.tmps.getD 3 undef=_:=bX hl 3 (by kernel_rfl) (by kernel_rfl) (h.holds 3 _ rfl)
   have h:=aq [(3,_)] hs hd9 (holds_lk ⟨e3,trivial⟩)
   have s:=s.more hE
   have z:=St.start w2
   refine dO 3 h s bH rfl rfl (rfl) rfl ?_;intro f h
   refine ah ?_
   have e9:=h.holds 8 _ rfl
   refine ⟨?_,Ext.refl _,fun h9=>absurd h9 (by decide)⟩
   refine e9.trans ?_
   exact rfl
  ·refine cZ 9 rfl (by decide) ?_
   intro f9 w2 hE hs hl
   have e4:f9.tmps.getD 4 undef=_:=bX hl 4 (by kernel_rfl) (by kernel_rfl) (h.holds 4 _ rfl)
   have h:=aq [(4,_)] hs rfl (holds_lk ⟨e4,trivial⟩)
   refine ac h (ag (h.ev rfl)) rfl ?_;intro f h
   refine ah ?_
   have e9:=h.holds 9 _ rfl
   refine ⟨?_,rfl⟩
   refine e9.trans ?_
   exact rfl
  ·refine cZ 10 rfl (by decide) ?_
   intro f9 w2 hE hs hl
   have e9:f9.tmps.getD 9 undef=_:=aH hl 9 1 (by kernel_rfl) (by kernel_rfl)
   have h:=aq [(9,_)] hs rfl (holds_lk ⟨e9,trivial⟩)
   refine ac h (bN (h.ev rfl)) rfl ?_;intro f h
   refine ah ?_
   have e9:=h.holds 10 _ rfl
   refine ⟨?_,rfl⟩
   refine e9.trans ?_
   exact rfl
  ·refine cZ 11 rfl (by decide) ?_
   intro f9 w2 hE hs hl
   have e10:f9.tmps.getD 10 undef=_:=aH hl 10 2 (by kernel_rfl) (by kernel_rfl)
   have h:=aq [(10,_)] hs rfl (holds_lk ⟨e10,trivial⟩)
   refine ac h (ca a6 (h.ev rfl) ((hO.1.keep s.ext).some (by omega))) rfl ?_;intro f h
   refine ah ?_
   have e9:=h.holds 11 _ rfl
   refine ⟨?_,rfl⟩
   refine e9.trans ?_
   exact rfl
  ·refine aT 12 rfl (by decide) (by decide) ?_
   intro f9 w2 hE hs hd9 hl
   have e11:f9.tmps.getD 11 undef=_:=aH hl 11 3 (by kernel_rfl) (by kernel_rfl)
   have h:=aq [(11,_)] hs hd9 (holds_lk ⟨e11,trivial⟩)
   have s:=s.more hE
   have z:=St.start w2
   refine aM (bK.elF (hO.1.keep s.ext) (d9) 0 33 (by omega) (by decide) (C:=aD (L.getD d9 z3).1.me (L.getD d9 z3).1.pr (L.getD d9 z3).2.1 (L.getD d9 z3).2.2) (c6 L d9 hdl9) (D:=au (L.getD d9 z3).1.me) (bU _ _ _ _)) h aL rfl (ak _) rfl ?_;intro f h
   refine ah ?_
   have e9:=h.holds 12 _ rfl
   refine ⟨?_,Ext.refl _,fun h9=>absurd h9 (by decide)⟩
   refine e9.trans ?_
   exact rfl
  ·refine aT 13 rfl (by decide) (by decide) ?_
   intro f9 w2 hE hs hd9 hl
   have e12:f9.tmps.getD 12 undef=_:=aH hl 12 4 (by kernel_rfl) (by kernel_rfl)
   have h:=aq [(12,_)] hs hd9 (holds_lk ⟨e12,trivial⟩)
   have s:=s.more hE
   have z:=St.start w2
   refine cF (vs:=[.agg (au (L.getD d9 z3).1.me)]) [.tmp 12] h z Tryz.underlying36 dD rfl rfl (gU _) rfl rfl rfl ?_;intro f w1 v9 h z
   refine ah ?_
   exact pz (h.holds 13 _ rfl) z _ (eh _)
  ·exact cr (by decide) (by decide)
  ·exact cr (by decide) (by decide)
  ·intro f9 w2 hE hs hd9 hWp hT hR hFr hDj
   obtain ⟨u13,hu13⟩:∃ v,f9.tmps.getD 13 undef=v:=⟨_,rfl⟩
   have e13:(fun v w9=>bK w9 v 33 1 ((au (L.getD d9 z3).1.me).toList)) u13 w2:=by rw [← hu13];exact hT 5 13 (by decide) rfl
   replace h:=sl_new (ops:=_) [(8,_),(9,_),(10,_),(11,_),(12,_),(13,u13)] h hs hd9 hR ⟨hT 0 8 (by decide) rfl,hT 1 9 (by decide) rfl,hT 2 10 (by decide) rfl,hT 3 11 (by decide) rfl,hT 4 12 (by decide) rfl,hu13,trivial⟩ (by kernel_rfl)
   replace s:=s.more hE
   clear hT hR hFr hDj
   refine eD.of ?_
   refine fM 2 (e13) h s Tryz.underlying36 dD rfl rfl rfl (bf _) (by rw [List.length_map,List.length_take];unfold maxLen;omega) (by rw [List.length_map,List.length_take];omega) rfl ?_;intro f w1 v14 h s
   refine bp 3 h s bH rfl rfl rfl (by simp) (bP (s.getSl 2 rfl)) ?_;intro w1 s
   refine ah ?_
   refine bF ?_
   replace s:=s.resl (m:=(aN (L.take (d9+1))).length) (ys:=av (aN (L.take (d9+1)))) 2 rfl (by rw [jE hdl9,List.length_append];rfl) (by rw [jE hdl9,jD])
   refine ⟨rfl,_,⟨v14,rfl⟩,s.pick _ ?_⟩
   exact List.Sublist.cons_cons _ (List.Sublist.refl _)
 ·intro D9 A9 w2 hJ9 hq9 s
  obtain ⟨v8,rfl⟩:=hJ9
  replace h:Sl _ {f with defers:={target:=.collected D9,args:=#[]}::f.defers} _ [{target:=.collected D9,args:=#[]}]:=⟨h.size,by rw [h.defers],h.holds⟩
  rw [List.take_length] at s
  refine bF ?_
  refine hK3 _ _ ?_
  refine aj fun K5 hK5=>?_
  refine ae ?_
  refine dO 3 h s bH rfl rfl (rfl) rfl ?_;intro f h
  refine ac h (ai (h.ev rfl)) rfl ?_;intro f h
  refine ah ?_
  refine hK5 _ _ ?_
  refine wpIn_ret ?_
  exact ph 0 rfl h s rfl rfl (fun w9 s9=>s9.getSl 2 rfl)
 ·intro D9 d9 A9 w2 hd9 hqd9 hq9 hJ9 s
  cases hqd9
theorem pX (a9:Option Addr) (n9 c9:Nat) (B9:List Own) (w0 w:World) (s:St w0 B9 w):Calls Tryz.prog 99 [.slice a9 n9 c9].toArray w (fun e w9=>∃ r,e=.returned r∧∃ bv,r=.func (.func 130) #[] #[.pointer (some ⟨bv,0,none⟩)]∧St w0 (.blk bv (.cells #[.slice a9 n9 c9] 36)::B9) w9):=by
 refine gV Tryz.func99 rfl Tryz.ntmps99 rfl [(0,.slice a9 n9 c9)] (by simp) fun f h=>?_
 refine aj fun K1 hK1=>?_
 refine ae ?_
 refine bT (#[.slice a9 n9 c9]) h s rfl rfl rfl ?_;intro f w1 b1 h s
 refine ac h (ai (h.ev rfl)) rfl ?_;intro f h
 refine ah ?_
 refine hK1 _ _ ?_
 refine aj fun K2 hK2=>?_
 refine ae ?_
 refine ac h (ek [.pointer (some ⟨b1,0,none⟩)] (mx h rfl)) rfl ?_;intro f h
 refine ac h (ai (h.ev rfl)) rfl ?_;intro f h
 refine ah ?_
 refine hK2 _ _ ?_
 refine wpIn_ret ?_
 exact tO rfl h rfl (⟨_,rfl,b1,rfl,s⟩)
theorem oI (l:List Mb) (vh:Value) (B9:List Own) (w0 w:World) (s:St w0 B9 w) (hR:bK w vh 33 l.length (av l)):Calls Tryz.prog 99 [vh].toArray w (fun e w9=>∃ r,e=.returned r∧∃ bv,r=.func (.func 130) #[] #[.pointer (some ⟨bv,0,none⟩)]∧St w0 (.blk bv (.cells #[vh] 36)::B9) w9):=by
 obtain ⟨a,c,rfl⟩:=hR.len
 exact pX a _ c B9 w0 w s
theorem lr (l:List Mb) (hln:l.length≤1000) (vh:Value) (lp bx:Nat) (q:Nat→Bool) (GG:Nat→Own→Prop) (g0:Own) (w0 w:World) (s:St w0 [.blk bx (.cells #[vh] 36),.sl vh 28 33 l.length (av l),g0] w) (hg0:GG 0 g0) (hY:∀ (d:Nat) (B9:List Own) (w9:World) (i:Nat) (g:Own),d<l.length→(∀ j,j<d→q j=false)→GG d g→St w0 B9 w9→B9[i]? = some g→i4 Tryz.prog lp [Value.agg (au (l.getD d a8))].toArray w9 (fun v w2=>v=.bool (!q d)∧∃ g',GG (d+1) g'∧St w0 (B9.set i g') w2)):Calls Tryz.prog 130 [.func (.yield lp) #[] #[],.pointer (some ⟨bx,0,none⟩)].toArray w (fun e w9=>(∃ v,e=.returned v)∧∃ d g,GG d g∧St w0 ([.blk bx (.cells #[vh] 36),.sl vh 28 33 l.length (av l)]++[g]) w9∧d≤l.length∧(∀ j,j+1<d→q j=false)∧(lq q d=false→d=l.length)):=by
 refine gV Tryz.func130 rfl Tryz.ntmps130 rfl [(0,.func (.yield lp) #[] #[]),(1,.pointer (some ⟨bx,0,none⟩))] (by simp) fun f h=>?_
 refine aj fun K1 hK1=>?_
 refine ae ?_
 refine dO 0 h s bH rfl rfl (rfl) rfl ?_;intro f h
 refine ey 1 h s Tryz.underlying36 rfl rfl rfl ?_;intro f h
 refine ac h (ag (h.ev rfl)) rfl ?_;intro f h
 refine ah ?_
 refine hK1 _ _ ?_
 refine wpIn_block ?_
 refine wpIn_loop_ghost (fun nn aa ww=>∃ d:Nat,∃ gg:Own,Sl 16 aa [(0,.func (.yield lp) #[] #[]),(1,.pointer (some ⟨bx,0,none⟩)),(5,vh),(6,.int .i64 (l.length:Int)),(7,.int .i64 (d:Int))]∧St w0 [.blk bx (.cells (#[vh]) 36),.sl vh 28 33 l.length (av l),(gg)] ww∧nn=l.length - d∧d≤l.length∧GG d gg∧∀ j,j<d→q j=false) (l.length - (0)) ⟨0,g0,h.only ⟨rfl,rfl,rfl,rfl,aR rfl (by omega),trivial⟩,s.as ⟨rfl,rfl,rfl,trivial⟩,rfl,Nat.zero_le _,hg0,fun j hj=>absurd hj (Nat.not_lt_zero _)⟩ ?_
 rintro _ f w1 ⟨d,gg,h,s,hnn,hp0,hp1,hp2⟩
 refine aj fun K2 hK2=>?_
 refine ae ?_
 refine ac h (bD (h.ev rfl) (h.ev rfl)) rfl ?_;intro f h
 refine ah ?_
 refine hK2 _ _ ?_
 refine aj fun K3 hK3=>?_
 refine bA h rfl (fun hc=>?_) (fun hc=>?_)
 ·replace hc:=of_decide_eq_true hc
  refine wpIn_skip ?_
  refine hK3 _ _ ?_
  refine aj fun K4 hK4=>?_
  refine wpIn_block ?_
  refine aj fun K5 hK5=>?_
  refine ae ?_
  have hdl:d<l.length:=by omega
  refine ac h (ce (bK.of_own (s.getSl 1 rfl)) (d) Tryz.underlying36 cG (h.ev rfl) (h.ev rfl) (by omega) (by omega)) rfl ?_;intro f h
  refine aM ((bK.of_own (s.getSl 1 rfl)).el (d) (by omega) (by decide) (D:=au (l.getD d a8)) (cK l d hdl)) h aL rfl (ak _) rfl ?_;intro f h
  refine ba (au a8) h s cz rfl rfl ?_;intro f w1 b4 h s
  refine ay 0 h s aL rfl rfl rfl (ak _) (ak _) (bf _) ?_;intro w1 s
  refine ah ?_
  refine hK5 _ _ ?_
  refine aj fun K6 hK6=>?_
  cases hq:(q d:Bool)
  ·skip
   refine ae ?_
   refine ac h (ag (h.ev rfl)) rfl ?_;intro f h
   refine ao 0 h s aL rfl rfl (ak _) rfl ?_;intro f h
   refine ga (V:=.bool true) (G:=GG (d+1)) [.agg (au (l.getD d a8))] 3 h rfl rfl (by have h9:=hY d _ _ 3 gg hdl hp2 hp1 s rfl;rw [hq] at h9;exact h9) rfl ?_;intro f w1 g1 hg1 h s
   refine ac h (aw (.bool false) (bg (h.ev rfl)) rfl) rfl ?_;intro f h
   refine ah ?_
   refine hK6 _ _ ?_
   refine wpIn_cond_false (h.ev rfl) ?_
   refine wpIn_skip ?_
   refine bF ?_
   refine hK4 _ _ ?_
   refine ae ?_
   refine ac h (cg (h.ev rfl) (h.ev rfl) (by omega)) rfl ?_;intro f h
   refine ac h (ag (h.ev rfl)) rfl ?_;intro f h
   refine ah ?_
   refine bQ ?_
   exact ⟨_,by omega,⟨d+1,g1,h.only ⟨rfl,rfl,rfl,rfl,aR rfl (by omega),trivial⟩,St.as (s.pick _ (List.sublist_append_right [_] _)) ⟨rfl,rfl,rfl,trivial⟩,rfl,by omega,hg1,cV hp2 hq⟩⟩
  ·skip
   refine ae ?_
   refine ac h (ag (h.ev rfl)) rfl ?_;intro f h
   refine ao 0 h s aL rfl rfl (ak _) rfl ?_;intro f h
   refine ga (V:=.bool false) (G:=GG (d+1)) [.agg (au (l.getD d a8))] 3 h rfl rfl (by have h9:=hY d _ _ 3 gg hdl hp2 hp1 s rfl;rw [hq] at h9;exact h9) rfl ?_;intro f w1 g1 hg1 h s
   refine ac h (aw (.bool true) (bg (h.ev rfl)) rfl) rfl ?_;intro f h
   refine ah ?_
   refine hK6 _ _ ?_
   refine wpIn_cond_true (h.ev rfl) ?_
   refine wpIn_ret ?_
   refine bu ?_
   refine aQ ?_
   refine aQ ?_
   refine bu ?_
   exact oe rfl h (⟨⟨_,rfl⟩,d+1,g1,hg1,s.pick _ (List.sublist_cons_self _ _),by omega,fun j hj=>hp2 j (by omega),fun h9=>absurd (hq.symm.trans h9) (by decide)⟩)
 ·replace hc:=of_decide_eq_false hc
  refine wpIn_exit ?_
  refine bw ?_
  refine bw ?_
  refine cq ?_
  exact gR rfl h (⟨⟨_,rfl⟩,d,gg,hp1,s,hp0,fun j hj=>hp2 j (by omega),fun _=>by omega⟩)
theorem sJ (n:Nat) (hn:n≤1000) (w:World):Calls Tryz.prog 131 [.slice none 0 0,.int .i64 (n:Int)].toArray w (cT w (fun v w'=>cN w' w.heap.size 28 33 v 0 [])):=by
 refine bj Tryz.func131 rfl Tryz.ntmps131 rfl [(0,.slice none 0 0),(1,.int .i64 (n:Int))] (by simp) fun f h=>?_
 have s:=St.start w
 refine aj fun K1 hK1=>?_
 refine ae ?_
 refine ac h (ai (h.ev rfl)) rfl ?_;intro f h
 refine ah ?_
 refine hK1 _ _ ?_
 refine aj fun K2 hK2=>?_
 refine aj fun K3 hK3=>?_
 refine ae ?_
 refine ac h (ag (h.ev rfl)) rfl ?_;intro f h
 refine ac h (aw (.bool false) (bD (h.ev rfl) (h.ev rfl)) (congrArg Value.bool (decide_eq_false (by omega)))) rfl ?_;intro f h
 refine ah ?_
 refine hK3 _ _ ?_
 refine wpIn_cond_false (h.ev rfl) ?_
 refine wpIn_skip ?_
 refine hK2 _ _ ?_
 refine aj fun K4 hK4=>?_
 refine aj fun K5 hK5=>?_
 refine ae ?_
 refine ac h (ag (h.ev rfl)) rfl ?_;intro f h
 refine ac h (ag (h.ev rfl)) rfl ?_;intro f h
 refine ac h (lH Tryz.underlying36 (h.ev rfl)) rfl ?_;intro f h
 refine ac h (ag (h.ev rfl)) rfl ?_;intro f h
 refine ac h (mh Tryz.underlying36 (h.ev rfl)) rfl ?_;intro f h
 refine ac h (aw (.int .i64 0) (dP (h.ev rfl) (h.ev rfl) (by omega)) (rfl)) rfl ?_;intro f h
 refine ac h (aw (.int .i64 (n:Int)) (dP (h.ev rfl) (h.ev rfl) (by omega)) (congrArg (Value.int .i64) (by omega))) rfl ?_;intro f h
 refine ac h (ai (h.ev rfl)) rfl ?_;intro f h
 refine ah ?_
 refine hK5 _ _ ?_
 refine aj fun K6 hK6=>?_
 refine ae ?_
 refine ac h (ag (h.ev rfl)) rfl ?_;intro f h
 refine ac h (cL (h.ev rfl) (h.ev rfl)) rfl ?_;intro f h
 refine ah ?_
 refine hK6 _ _ ?_
 refine bA h rfl (fun hc=>?_) (fun hc=>?_)
 ·replace hc:=of_decide_eq_true hc
  refine ae ?_
  refine ac h (ag (h.ev rfl)) rfl ?_;intro f h
  refine ac h (ag (h.ev rfl)) rfl ?_;intro f h
  refine ac h (lH Tryz.underlying36 (h.ev rfl)) rfl ?_;intro f h
  refine ac h (ov Tryz.underlying36 cG (h.ev rfl) (h.ev rfl)) rfl ?_;intro f h
  refine ac h (ag (h.ev rfl)) rfl ?_;intro f h
  refine mf (n:=n) (base:=w.heap.size) h Tryz.underlying36 Tryz.underlying3 dD rfl rfl (by omega) (by omega) (by omega) (Nat.le_refl _) rfl ?_;intro f w1 v22 xs9 h hE9 hO9
  replace s:=s.sl_new hE9 hO9
  refine ac h (ag (h.ev rfl)) rfl ?_;intro f h
  refine ac h (mh Tryz.underlying36 (h.ev rfl)) rfl ?_;intro f h
  refine ac h (mA hO9 Tryz.underlying36 cG (h.ev rfl) (h.ev rfl)) rfl ?_;intro f h
  refine ac h (ai (h.ev rfl)) rfl ?_;intro f h
  refine ah ?_
  refine hK4 _ _ ?_
  refine aj fun K7 hK7=>?_
  refine ae ?_
  refine ac h (ag (h.ev rfl)) rfl ?_;intro f h
  refine ac h (ai (h.ev rfl)) rfl ?_;intro f h
  refine ah ?_
  refine hK7 _ _ ?_
  refine wpIn_ret ?_
  exact aX rfl h s rfl (hO9.cut0)
 ·replace hc:=of_decide_eq_false hc
  refine wpIn_skip ?_
  refine hK4 _ _ ?_
  refine aj fun K8 hK8=>?_
  refine ae ?_
  refine ac h (ag (h.ev rfl)) rfl ?_;intro f h
  refine ac h (ai (h.ev rfl)) rfl ?_;intro f h
  refine ah ?_
  refine hK8 _ _ ?_
  refine wpIn_ret ?_
  exact aX rfl h s rfl (gf _ _ _ _)
theorem pL (vh:Value) (us:List Value) (ls:List (List Mb)) (hls:us.length=ls.length) (htot:ls.flatten.length≤1000) (hvn:us.length≤1000) (w:World) (hv:bK w vh 1 us.length us) (hr:∀ k,k<us.length→bK w (us.getD k undef) 33 (ls.getD k []).length (av (ls.getD k []))):Calls Tryz.prog 100 [vh].toArray w (cT w (fun v w'=>cN w' w.heap.size 28 33 v ls.flatten.length (av ls.flatten))):=by
 refine bj Tryz.func100 rfl Tryz.ntmps100 rfl [(0,vh)] (by simp) fun f h=>?_
 have s:=St.start w
 refine aj fun K1 hK1=>?_
 refine ae ?_
 refine ac h (ai (h.ev rfl)) rfl ?_;intro f h
 refine ah ?_
 refine hK1 _ _ ?_
 refine aj fun K2 hK2=>?_
 refine ae ?_
 refine ac h (ai (h.ev rfl)) rfl ?_;intro f h
 refine ah ?_
 refine hK2 _ _ ?_
 refine aj fun K3 hK3=>?_
 refine aj fun K4 hK4=>?_
 refine ae ?_
 refine ac h (ag (h.ev rfl)) rfl ?_;intro f h
 refine ac h (aY (hv.keep s.ext) Tryz.underlying144 (h.ev rfl)) rfl ?_;intro f h
 refine ac h (ag (h.ev rfl)) rfl ?_;intro f h
 refine ah ?_
 refine hK4 _ _ ?_
 refine wpIn_block ?_
 refine wpIn_loop_ghost (fun nn aa ww=>∃ k:Nat,Sl 36 aa [(0,vh),(3,.int .i64 (((ls.take k).flatten.length:Nat):Int)),(9,vh),(10,.int .i64 (us.length:Int)),(11,.int .i64 (k:Int))]∧St w [] ww∧nn=us.length - k∧k≤us.length) (us.length - (0)) ⟨0,h.only ⟨rfl,aR rfl rfl,rfl,rfl,aR rfl (by omega),trivial⟩,s.as trivial,rfl,Nat.zero_le _⟩ ?_
 rintro _ f w1 ⟨k,h,s,hnn,hp0⟩
 refine aj fun K5 hK5=>?_
 refine ae ?_
 refine ac h (bD (h.ev rfl) (h.ev rfl)) rfl ?_;intro f h
 refine ah ?_
 refine hK5 _ _ ?_
 refine aj fun K6 hK6=>?_
 refine bA h rfl (fun hc=>?_) (fun hc=>?_)
 ·replace hc:=of_decide_eq_true hc
  refine wpIn_skip ?_
  refine hK6 _ _ ?_
  refine aj fun K7 hK7=>?_
  refine wpIn_block ?_
  refine aj fun K8 hK8=>?_
  refine ae ?_
  have hkl:k<us.length:=by omega
  refine ac h (ce (hv.keep s.ext) (k) Tryz.underlying144 xZ (h.ev rfl) (h.ev rfl) (by omega) (by omega)) rfl ?_;intro f h
  refine ar ((hv.keep s.ext).el1 (k) (V:=us.getD k undef) (qT hkl)) h bH rfl rfl ?_;intro f h
  refine ac h (ai (h.ev rfl)) rfl ?_;intro f h
  refine ah ?_
  refine hK8 _ _ ?_
  refine aj fun K9 hK9=>?_
  refine ae ?_
  refine ac h (ag (h.ev rfl)) rfl ?_;intro f h
  refine ac h (ag (h.ev rfl)) rfl ?_;intro f h
  refine ac h (aY ((hr k hkl).keep s.ext) Tryz.underlying36 (h.ev rfl)) rfl ?_;intro f h
  have hk1:=l5 ls k (by omega)
  have hk2:=rx ls (k+1)
  refine ac h (cg (h.ev rfl) (h.ev rfl) (by omega)) rfl ?_;intro f h
  refine ac h (ai (h.ev rfl)) rfl ?_;intro f h
  refine ah ?_
  refine hK9 _ _ ?_
  refine aj fun K10 hK10=>?_
  refine ae ?_
  refine ac h (ag (h.ev rfl)) rfl ?_;intro f h
  refine ac h (aw (.bool false) (bD (h.ev rfl) (h.ev rfl)) (congrArg Value.bool (decide_eq_false (by omega)))) rfl ?_;intro f h
  refine ah ?_
  refine hK10 _ _ ?_
  refine wpIn_cond_false (h.ev rfl) ?_
  refine wpIn_skip ?_
  refine bF ?_
  refine hK7 _ _ ?_
  refine ae ?_
  refine ac h (cg (h.ev rfl) (h.ev rfl) (by omega)) rfl ?_;intro f h
  refine ac h (ag (h.ev rfl)) rfl ?_;intro f h
  refine ah ?_
  refine bQ ?_
  exact ⟨_,by omega,⟨k+1,h.only ⟨rfl,aR rfl (by omega),rfl,rfl,aR rfl (by omega),trivial⟩,St.as s trivial,rfl,by omega⟩⟩
 ·replace hc:=of_decide_eq_false hc
  refine wpIn_exit ?_
  refine bw ?_
  refine bw ?_
  refine cq ?_
  refine hK3 _ _ ?_
  refine aj fun K11 hK11=>?_
  refine ae ?_
  obtain rfl:k=us.length:=by omega
  refine ac h (aw (.int .i64 ((ls.flatten.length:Nat):Int)) (ag (h.ev rfl)) (by rw [hls,List.take_length])) rfl ?_;intro f h
  refine aF h s zh (sJ ls.flatten.length (by omega) _) rfl rfl ?_;intro f w1 v24 hT hE h sq;replace s:=s.sl_new hE hT
  refine ac h (ai (h.ev rfl)) rfl ?_;intro f h
  refine ah ?_
  refine hK11 _ _ ?_
  refine aj fun K12 hK12=>?_
  refine aj fun K13 hK13=>?_
  refine ae ?_
  refine ac h (ag (h.ev rfl)) rfl ?_;intro f h
  refine ac h (aY (hv.keep s.ext) Tryz.underlying144 (h.ev rfl)) rfl ?_;intro f h
  refine ac h (ag (h.ev rfl)) rfl ?_;intro f h
  refine ah ?_
  refine hK13 _ _ ?_
  refine wpIn_block ?_
  refine wpIn_loop_ghost (fun nn aa ww=>∃ i:Nat,∃ vb:Value,Sl 36 aa [(0,vh),(6,vb),(25,vh),(26,.int .i64 (us.length:Int)),(27,.int .i64 (i:Int))]∧St w [.sl vb 28 33 (ls.take i).flatten.length (av (ls.take i).flatten)] ww∧nn=us.length - i∧i≤us.length) (us.length - (0)) ⟨0,v24,h.only ⟨rfl,rfl,rfl,rfl,aR rfl (by omega),trivial⟩,s.as ⟨iN rfl rfl,trivial⟩,rfl,Nat.zero_le _⟩ ?_
  rintro _ f w1 ⟨i,vb,h,s,hnn,hp0⟩
  refine aj fun K14 hK14=>?_
  refine ae ?_
  refine ac h (bD (h.ev rfl) (h.ev rfl)) rfl ?_;intro f h
  refine ah ?_
  refine hK14 _ _ ?_
  refine aj fun K15 hK15=>?_
  refine bA h rfl (fun hc=>?_) (fun hc=>?_)
  ·replace hc:=of_decide_eq_true hc
   refine wpIn_skip ?_
   refine hK15 _ _ ?_
   refine aj fun K16 hK16=>?_
   refine wpIn_block ?_
   refine aj fun K17 hK17=>?_
   refine ae ?_
   have hkl:i<us.length:=by omega
   have hk1:=l5 ls i (by omega)
   have hk2:=rx ls (i+1)
   refine ac h (ce (hv.keep s.ext) (i) Tryz.underlying144 xZ (h.ev rfl) (h.ev rfl) (by omega) (by omega)) rfl ?_;intro f h
   refine ar ((hv.keep s.ext).el1 (i) (V:=us.getD i undef) (qT hkl)) h bH rfl rfl ?_;intro f h
   refine ac h (ai (h.ev rfl)) rfl ?_;intro f h
   refine ah ?_
   refine hK17 _ _ ?_
   refine ae ?_
   refine ac h (ag (h.ev rfl)) rfl ?_;intro f h
   refine ac h (ag (h.ev rfl)) rfl ?_;intro f h
   refine fM 0 ((hr i hkl).keep s.ext) h s Tryz.underlying36 dD rfl rfl rfl (fe _) (by unfold maxLen;omega) (by omega) rfl ?_;intro f w1 v33 h s
   refine ac h (ai (h.ev rfl)) rfl ?_;intro f h
   refine ah ?_
   refine bF ?_
   refine hK16 _ _ ?_
   refine ae ?_
   refine ac h (cg (h.ev rfl) (h.ev rfl) (by omega)) rfl ?_;intro f h
   refine ac h (ag (h.ev rfl)) rfl ?_;intro f h
   refine ah ?_
   refine bQ ?_
   exact ⟨_,by omega,⟨i+1,v33,h.only ⟨rfl,rfl,rfl,rfl,aR rfl (by omega),trivial⟩,St.as s ⟨iN (l5 ls i (by omega)) (qg ls i (by omega)),trivial⟩,rfl,by omega⟩⟩
  ·replace hc:=of_decide_eq_false hc
   refine wpIn_exit ?_
   refine bw ?_
   refine bw ?_
   refine cq ?_
   refine hK12 _ _ ?_
   refine aj fun K18 hK18=>?_
   refine ae ?_
   refine ac h (ag (h.ev rfl)) rfl ?_;intro f h
   refine ac h (ai (h.ev rfl)) rfl ?_;intro f h
   refine ah ?_
   refine hK18 _ _ ?_
   refine wpIn_ret ?_
   exact aX rfl h s rfl (oF (by omega) (s.getSl 0 rfl))
theorem lm (n:Nd) (vs vf:Value) (w:World) (hRs:bK w vs 33 n.sc.length (av n.sc)) (hRf:bK w vf 33 n.fg.length (av n.fg)) (hns:n.sc.length≤400) (hnf:n.fg.length≤400):Calls Tryz.prog 69 [.agg (aD n.me n.pr vs vf)].toArray w (cT w (fun v w9=>∃ bv vk,v=.func (.func 130) #[] #[.pointer (some ⟨bv,0,none⟩)]∧St w [.blk bv (.cells #[vk] 36),.sl vk 28 33 (aS n).length (av (aS n))] w9)):=by
 refine bj Tryz.func69 rfl Tryz.ntmps69 rfl [(0,.agg (aD n.me n.pr vs vf))] (by simp) fun f h=>?_
 have s:=St.start w
 refine aj fun K1 hK1=>?_
 refine ae ?_
 refine bT (aD n.me n.pr vs vf) h s rfl rfl rfl ?_;intro f w1 b1 h s
 refine ac h (ai (h.ev rfl)) rfl ?_;intro f h
 refine ah ?_
 refine hK1 _ _ ?_
 refine aj fun K2 hK2=>?_
 refine ae ?_
 refine ac h (al cy (h.ev rfl)) rfl ?_;intro f h
 refine aM (bc.subL (bc.of_own s 0 rfl) 33 33 (D:=au n.pr) (co _ _ _ _)) h aL rfl (ak _) rfl ?_;intro f h
 refine cF (vs:=[.agg (au n.pr)]) [.tmp 4] h s Tryz.underlying36 dD rfl rfl (gU _) rfl rfl rfl ?_;intro f w1 v5 h s
 replace s:=s.resl (m:=[n.pr].length) (ys:=av [n.pr]) 0 rfl rfl (by rw [eh,dx])
 refine ac h (al bI (h.ev rfl)) rfl ?_;intro f h
 refine ar (V:=vs) (am (bc.of_own s 1 rfl) 66 (bC _ _ _ _)) h bH rfl rfl ?_;intro f h
 refine ac h (al cC (h.ev rfl)) rfl ?_;intro f h
 refine ar (V:=vf) (am (bc.of_own s 1 rfl) 67 (cB _ _ _ _)) h bH rfl rfl ?_;intro f h
 refine cF (vs:=[v5,vs,vf]) [.tmp 5,.tmp 7,.tmp 9] h s Tryz.underlying144 Av rfl rfl (by intro v hv;simp only [List.mem_cons,List.not_mem_nil,or_false] at hv;rcases hv with rfl|rfl|rfl;exact kX (bK.of_own (s.getSl 0 rfl));exact kX hRs;exact kX hRf) rfl rfl rfl ?_;intro f w1 v10 h s
 replace s:=s.resl (m:=3) (ys:=[v5,vs,vf]) 0 rfl rfl (by simp [jH (bK.of_own (s.getSl 1 rfl)),jH hRs,jH hRf])
 refine aF h s zq (pL v10 [v5,vs,vf] [[n.pr],n.sc,n.fg] rfl (by rw [jt];simp only [List.length_append,List.length_cons,List.length_nil];omega) (by show 3≤1000;omega) _ (bK.of_own (s.getSl 0 rfl)) (vJ (bK.of_own (s.getSl 1 rfl)) (hRs.keep s.ext) (hRf.keep s.ext))) rfl rfl ?_;intro f w1 v11 hT hE h sq;replace s:=s.sl_new hE (hT.seq (m:=(aS n).length) (ys:=av (aS n)) (by rw [jt];rfl) (by rw [jt];rfl))
 refine eP [v11] h yv (oI (aS n) v11 _ _ _ s (bK.of_own (s.getSl 0 rfl))) rfl rfl ?_;rintro f w1 r ⟨bv,rfl,s⟩ h
 refine ac h (ai (h.ev rfl)) rfl ?_;intro f h
 refine ah ?_
 refine hK2 _ _ ?_
 refine wpIn_ret ?_
 exact aX rfl h s rfl (⟨bv,v11,rfl,(s.sel [0,1] rfl (by decide))⟩)
theorem o5 (m:Mb) (w:World):Calls Tryz.prog 78 [.agg (au m)].toArray w (cT w (fun v w9=>∃ bx,v=.func (.func 113) #[] #[.pointer (some ⟨bx,0,none⟩)]∧jd w9 bx (au m))):=by
 refine bj Tryz.func78 rfl Tryz.ntmps78 rfl [(0,.agg (au m))] (by simp) fun f h=>?_
 have s:=St.start w
 refine aj fun K1 hK1=>?_
 refine ae ?_
 refine bT ((au m)) h s rfl rfl rfl ?_;intro f w1 b1 h s
 refine ac h (ai (h.ev rfl)) rfl ?_;intro f h
 refine ah ?_
 refine hK1 _ _ ?_
 refine aj fun K2 hK2=>?_
 refine ae ?_
 refine ac h (ek [.pointer (some ⟨b1,0,none⟩)] (mx h rfl)) rfl ?_;intro f h
 refine ac h (ai (h.ev rfl)) rfl ?_;intro f h
 refine ah ?_
 refine hK2 _ _ ?_
 refine wpIn_ret ?_
 exact aX rfl h s rfl (⟨b1,rfl,jd.of_own s 0 rfl⟩)
theorem pR (x m:Mb) (bx:Nat) (w:World) (hb:jd w bx (au m)):Calls Tryz.prog 113 [.agg (au x),.pointer (some ⟨bx,0,none⟩)].toArray w (cT w (is (.bool (gN m x)))):=by
 refine bj Tryz.func113 rfl Tryz.ntmps113 rfl [(0,.agg (au x)),(1,.pointer (some ⟨bx,0,none⟩))] (by simp) fun f h=>?_
 have s:=St.start w
 refine aj fun K1 hK1=>?_
 refine ae ?_
 refine bT ((au x)) h s rfl rfl rfl ?_;intro f w1 b2 h s
 refine ac h (ai (h.ev rfl)) rfl ?_;intro f h
 refine ah ?_
 refine hK1 _ _ ?_
 refine aj fun K2 hK2=>?_
 cases h0:(decide (x.1=m.1):Bool)
 ·skip
  refine ae ?_
  refine ac h (al aP (h.ev rfl)) rfl ?_;intro f h
  refine ar (am (bc.of_own s 0 rfl) 0 (aV _)) h bO rfl rfl ?_;intro f h
  refine ac h (al aP (h.ev rfl)) rfl ?_;intro f h
  refine ar (V:=.int .i64 m.1) (am (bc.of_tab (hb.keep s.ext)) 0 (aV _)) h bO rfl rfl ?_;intro f h
  refine ac h (aw (.bool false) (cc (h.ev rfl) (h.ev rfl)) (congrArg Value.bool h0)) rfl ?_;intro f h
  refine ac h (ag (h.ev rfl)) rfl ?_;intro f h
  refine aB h rfl rfl rfl ?_
  refine ac h (al c3 (h.ev rfl)) rfl ?_;intro f h
  refine aB h rfl rfl rfl ?_
  refine aM (bc.subL (bc.of_own s 0 rfl) 1 32 (D:=bq (_)) (cW _)) h bV rfl (by first|exact aI _|exact aG _ _) rfl ?_;intro f h
  refine aB h rfl rfl rfl ?_
  refine ac h (al c3 (h.ev rfl)) rfl ?_;intro f h
  refine aB h rfl rfl rfl ?_
  refine aM (bc.subL (bc.of_tab (hb.keep s.ext)) 1 32 (D:=bq (_)) (cW _)) h bV rfl (by first|exact aI _|exact aG _ _) rfl ?_;intro f h
  refine aB h rfl rfl rfl ?_
  refine ac h (dU fv (h.ev rfl) (h.ev rfl)) rfl ?_;intro f h
  refine ac h (aE (h.ev rfl) (h.ev rfl)) rfl ?_;intro f h
  refine ac h (ai (h.ev rfl)) rfl ?_;intro f h
  refine ah ?_
  refine hK2 _ _ ?_
  refine wpIn_ret ?_
  exact aX rfl h s rfl (by show _=_;rw [nN h0]<;>rfl)
 ·skip
  refine ae ?_
  refine ac h (al aP (h.ev rfl)) rfl ?_;intro f h
  refine ar (am (bc.of_own s 0 rfl) 0 (aV _)) h bO rfl rfl ?_;intro f h
  refine ac h (al aP (h.ev rfl)) rfl ?_;intro f h
  refine ar (V:=.int .i64 m.1) (am (bc.of_tab (hb.keep s.ext)) 0 (aV _)) h bO rfl rfl ?_;intro f h
  refine ac h (aw (.bool true) (cc (h.ev rfl) (h.ev rfl)) (congrArg Value.bool h0)) rfl ?_;intro f h
  refine ac h (ag (h.ev rfl)) rfl ?_;intro f h
  refine aC (b:=false) h rfl rfl rfl rfl ?_;intro f h
  refine aC (b:=false) h rfl rfl rfl rfl ?_;intro f h
  refine aC (b:=false) h rfl rfl rfl rfl ?_;intro f h
  refine aC (b:=false) h rfl rfl rfl rfl ?_;intro f h
  refine aC (b:=false) h rfl rfl rfl rfl ?_;intro f h
  refine ac h (aJ (h.ev rfl) (h.ev rfl)) rfl ?_;intro f h
  refine ac h (ai (h.ev rfl)) rfl ?_;intro f h
  refine ah ?_
  refine hK2 _ _ ?_
  refine wpIn_ret ?_
  exact aX rfl h s rfl (by show _=_;rw [qU h0]<;>rfl)
theorem gh (l:List Mb) (vh:Value) (w:World) (hR:bK w vh 33 l.length (av l)) (hln:l.length≤1000):Calls Tryz.prog 45 [vh].toArray w (cT w (is (.bool (cY l)))):=by
 refine bj Tryz.func45 rfl Tryz.ntmps45 rfl [(0,vh)] (by simp) fun f h=>?_
 have s:=St.start w
 refine aj fun K1 hK1=>?_
 refine ae ?_
 refine ac h (ai (h.ev rfl)) rfl ?_;intro f h
 refine ah ?_
 refine hK1 _ _ ?_
 refine aj fun K2 hK2=>?_
 refine aj fun K3 hK3=>?_
 refine ae ?_
 refine ac h (ag (h.ev rfl)) rfl ?_;intro f h
 refine ac h (aY (hR.keep s.ext) Tryz.underlying36 (h.ev rfl)) rfl ?_;intro f h
 refine ac h (cL (h.ev rfl) (h.ev rfl)) rfl ?_;intro f h
 refine ah ?_
 refine hK3 _ _ ?_
 refine bA h rfl (fun hc=>?_) (fun hc=>?_)
 ·replace hc:=of_decide_eq_true hc
  refine aj fun K4 hK4=>?_
  refine ae ?_
  refine ac h (ai (h.ev rfl)) rfl ?_;intro f h
  refine ah ?_
  refine hK4 _ _ ?_
  refine wpIn_ret ?_
  refine aQ ?_
  exact aX rfl h s rfl (by show _=_;rw [ku (by omega)]<;>rfl)
 ·replace hc:=of_decide_eq_false hc
  have hl16:l.length≤16:=by omega
  refine wpIn_skip ?_
  refine hK2 _ _ ?_
  refine aj fun K5 hK5=>?_
  refine aj fun K6 hK6=>?_
  refine ae ?_
  refine ac h (ag (h.ev rfl)) rfl ?_;intro f h
  refine ac h (aY (hR.keep s.ext) Tryz.underlying36 (h.ev rfl)) rfl ?_;intro f h
  refine ac h (ag (h.ev rfl)) rfl ?_;intro f h
  refine ah ?_
  refine hK6 _ _ ?_
  refine wpIn_block ?_
  refine wpIn_loop_ghost (fun nn aa ww=>∃ k:Nat,Sl 32 aa [(0,vh),(8,vh),(9,.int .i64 (l.length:Int)),(10,.int .i64 (k:Int))]∧St w [] ww∧nn=l.length - k∧k≤l.length∧∀ j,j<k→ie l j=false) (l.length - (0)) ⟨0,h.only ⟨rfl,rfl,rfl,aR rfl (by omega),trivial⟩,s.as trivial,rfl,Nat.zero_le _,fun j hj=>absurd hj (Nat.not_lt_zero _)⟩ ?_
  rintro _ f w1 ⟨k,h,s,hnn,hp0,hp1⟩
  refine aj fun K7 hK7=>?_
  refine ae ?_
  refine ac h (bD (h.ev rfl) (h.ev rfl)) rfl ?_;intro f h
  refine ah ?_
  refine hK7 _ _ ?_
  refine aj fun K8 hK8=>?_
  refine bA h rfl (fun hc=>?_) (fun hc=>?_)
  ·replace hc:=of_decide_eq_true hc
   refine wpIn_skip ?_
   refine hK8 _ _ ?_
   refine aj fun K9 hK9=>?_
   refine wpIn_block ?_
   refine aj fun K10 hK10=>?_
   refine ae ?_
   refine ac h (ag (h.ev rfl)) rfl ?_;intro f h
   have hkl:k<l.length:=by omega
   refine ac h (ce (hR.keep s.ext) (k) Tryz.underlying36 cG (h.ev rfl) (h.ev rfl) (by omega) (by omega)) rfl ?_;intro f h
   refine aM ((hR.keep s.ext).el (k) (by omega) (by decide) (D:=au (l.getD k a8)) (cK l k hkl)) h aL rfl (ak _) rfl ?_;intro f h
   refine ba (au a8) h s cz rfl rfl ?_;intro f w1 b4 h s
   refine ac h (ai (h.ev rfl)) rfl ?_;intro f h
   refine ay 0 h s aL rfl rfl rfl (ak _) (ak _) (bf _) ?_;intro w1 s
   refine ah ?_
   refine hK10 _ _ ?_
   refine aj fun K11 hK11=>?_
   cases k0:(decide ((l.getD k a8).1<0):Bool)
   ·skip
    cases k1:(decide (16≤(l.getD k a8).1):Bool)
    ·skip
     have hbs:=s.ext.le
     refine' eL 14 [0] [] [[],[0],[0,1],[0,1,2],[0,1,2,3],[0,1,2,3,4],[0,1,2,3,4,5],[0,1,2,3,4,5,6],[0,1,2,3,4,5,6,7],[0,1,2,3,4,5,6,7,8],[0,1,2,3,4,5,6,7,8],[0,1,2,3,4,5,6,7,8,9,10],[0,1,2,3,4,5,6,7,8],[0,1,2,3,4,5,6,7,8,12],[0,1,2,3,4,5,6,7,8,9,10,11,12,13],[0,1,2,3,4,5,6,7,8,9,10,11,12,13,14]] (is _::is _::is _::is _::is _::is _::is _::is _::is _::is _::is _::is _::is _::(fun v w9=>∃ bx,v=.func (.func 113) #[] #[.pointer (some ⟨bx,0,none⟩)]∧jd w9 bx (au (l.getD k a8)))::is undef::is undef::[]) (fun _=>True) h s (by kernel_rfl) (by kernel_rfl) (by kernel_rfl) (by kernel_rfl) rfl (fun _ _ h _=>h) (trivial) ⟨⟨_,rfl⟩,trivial⟩ ⟨az _,az _,az _,az _,az _,az _,az _,az _,az _,az _,az _,az _,az _,fun _ _ _ h9 hE=>by obtain ⟨bx,h1,h2⟩:=h9;exact ⟨bx,h1,h2.keep hE⟩,az _,az _,trivial⟩ (And.intro ?_ (And.intro ?_ (And.intro ?_ (And.intro ?_ (And.intro ?_ (And.intro ?_ (And.intro ?_ (And.intro ?_ (And.intro ?_ (And.intro ?_ (And.intro ?_ (And.intro ?_ (And.intro ?_ (And.intro ?_ (And.intro ?_ (And.intro ?_ (trivial))))))))))))))))) ?_
     rotate_left 13
     ·refine cZ 15 rfl (by decide) ?_
      intro f9 w2 hE hs hl
      have e4:f9.tmps.getD 4 undef=_:=bX hl 4 (by kernel_rfl) (by kernel_rfl) (h.holds 4 _ rfl)
      have h:=aq [(4,_)] hs rfl (holds_lk ⟨e4,trivial⟩)
      refine ac h (al aP (h.ev rfl)) rfl ?_;intro f h
      refine ah ?_
      have e9:=h.holds 15 _ rfl
      refine ⟨?_,rfl⟩
      refine e9.trans ?_
      exact rfl
     ·refine aT 16 rfl (by decide) (by decide) ?_
      intro f9 w2 hE hs hd9 hl
      have e15:f9.tmps.getD 15 undef=_:=aH hl 15 0 (by kernel_rfl) (by kernel_rfl)
      have h:=aq [(15,_)] hs hd9 (holds_lk ⟨e15,trivial⟩)
      have s:=s.more hE
      have z:=St.start w2
      refine ar (am (bc.of_own s 0 rfl) 0 (aV _)) h bO rfl rfl ?_;intro f h
      refine ah ?_
      have e9:=h.holds 16 _ rfl
      refine ⟨?_,Ext.refl _,fun h9=>absurd h9 (by decide)⟩
      refine e9.trans ?_
      exact rfl
     ·refine aT 17 rfl (by decide) (by decide) ?_
      intro f9 w2 hE hs hd9 hl
      have e16:f9.tmps.getD 16 undef=_:=aH hl 16 1 (by kernel_rfl) (by kernel_rfl)
      have h:=aq [(16,_)] hs hd9 (holds_lk ⟨e16,trivial⟩)
      have s:=s.more hE
      have z:=St.start w2
      refine ac h (aw (.bool false) (bD (h.ev rfl) (h.ev rfl)) (congrArg Value.bool k0)) rfl ?_;intro f h
      refine ah ?_
      have e9:=h.holds 17 _ rfl
      refine ⟨?_,Ext.refl _,fun h9=>absurd h9 (by decide)⟩
      refine e9.trans ?_
      exact rfl
     ·refine aT 18 rfl (by decide) (by decide) ?_
      intro f9 w2 hE hs hd9 hl
      have e17:f9.tmps.getD 17 undef=_:=aH hl 17 2 (by kernel_rfl) (by kernel_rfl)
      have h:=aq [(17,_)] hs hd9 (holds_lk ⟨e17,trivial⟩)
      have s:=s.more hE
      have z:=St.start w2
      refine ac h (ag (h.ev rfl)) rfl ?_;intro f h
      refine ah ?_
      have e9:=h.holds 18 _ rfl
      refine ⟨?_,Ext.refl _,fun h9=>absurd h9 (by decide)⟩
      refine e9.trans ?_
      exact rfl
     ·refine aT 19 rfl (by decide) (by decide) ?_
      intro f9 w2 hE hs hd9 hl
      have e4:f9.tmps.getD 4 undef=_:=bX hl 4 (by kernel_rfl) (by kernel_rfl) (h.holds 4 _ rfl)
      have e18:f9.tmps.getD 18 undef=_:=aH hl 18 3 (by kernel_rfl) (by kernel_rfl)
      have h:=aq [(4,_),(18,_)] hs hd9 (holds_lk ⟨e4,e18,trivial⟩)
      have s:=s.more hE
      have z:=St.start w2
      refine aB h rfl rfl rfl ?_
      refine ac h (al aP (h.ev rfl)) rfl ?_;intro f h
      refine ah ?_
      have e9:=h.holds 19 _ rfl
      refine ⟨?_,Ext.refl _,fun h9=>absurd h9 (by decide)⟩
      refine e9.trans ?_
      exact rfl
     ·refine aT 20 rfl (by decide) (by decide) ?_
      intro f9 w2 hE hs hd9 hl
      have e19:f9.tmps.getD 19 undef=_:=aH hl 19 4 (by kernel_rfl) (by kernel_rfl)
      have e18:f9.tmps.getD 18 undef=_:=aH hl 18 3 (by kernel_rfl) (by kernel_rfl)
      have h:=aq [(19,_),(18,_)] hs hd9 (holds_lk ⟨e19,e18,trivial⟩)
      have s:=s.more hE
      have z:=St.start w2
      refine aB h rfl rfl rfl ?_
      refine ar (am (bc.of_own s 0 rfl) 0 (aV _)) h bO rfl rfl ?_;intro f h
      refine ah ?_
      have e9:=h.holds 20 _ rfl
      refine ⟨?_,Ext.refl _,fun h9=>absurd h9 (by decide)⟩
      refine e9.trans ?_
      exact rfl
     ·refine aT 21 rfl (by decide) (by decide) ?_
      intro f9 w2 hE hs hd9 hl
      have e20:f9.tmps.getD 20 undef=_:=aH hl 20 5 (by kernel_rfl) (by kernel_rfl)
      have e18:f9.tmps.getD 18 undef=_:=aH hl 18 3 (by kernel_rfl) (by kernel_rfl)
      have h:=aq [(20,_),(18,_)] hs hd9 (holds_lk ⟨e20,e18,trivial⟩)
      have s:=s.more hE
      have z:=St.start w2
      refine aB h rfl rfl rfl ?_
      refine ac h (aw (.bool false) (c0 (h.ev rfl) (h.ev rfl)) (congrArg Value.bool k1)) rfl ?_;intro f h
      refine ah ?_
      have e9:=h.holds 21 _ rfl
      refine ⟨?_,Ext.refl _,fun h9=>absurd h9 (by decide)⟩
      refine e9.trans ?_
      exact rfl
     ·refine aT 22 rfl (by decide) (by decide) ?_
      intro f9 w2 hE hs hd9 hl
      have e18:f9.tmps.getD 18 undef=_:=aH hl 18 3 (by kernel_rfl) (by kernel_rfl)
      have e21:f9.tmps.getD 21 undef=_:=aH hl 21 6 (by kernel_rfl) (by kernel_rfl)
      have h:=aq [(18,_),(21,_)] hs hd9 (holds_lk ⟨e18,e21,trivial⟩)
      have s:=s.more hE
      have z:=St.start w2
      refine ac h (aE (h.ev rfl) (h.ev rfl)) rfl ?_;intro f h
      refine ah ?_
      have e9:=h.holds 22 _ rfl
      refine ⟨?_,Ext.refl _,fun h9=>absurd h9 (by decide)⟩
      refine e9.trans ?_
      exact rfl
     ·refine aT 23 rfl (by decide) (by decide) ?_
      intro f9 w2 hE hs hd9 hl
      have e22:f9.tmps.getD 22 undef=_:=aH hl 22 7 (by kernel_rfl) (by kernel_rfl)
      have h:=aq [(22,_)] hs hd9 (holds_lk ⟨e22,trivial⟩)
      have s:=s.more hE
      have z:=St.start w2
      refine ac h (ag (h.ev rfl)) rfl ?_;intro f h
      refine ah ?_
      have e9:=h.holds 23 _ rfl
      refine ⟨?_,Ext.refl _,fun h9=>absurd h9 (by decide)⟩
      refine e9.trans ?_
      exact rfl
     ·refine aT 24 rfl (by decide) (by decide) ?_
      intro f9 w2 hE hs hd9 hl
      have e0:f9.tmps.getD 0 undef=_:=bX hl 0 (by kernel_rfl) (by kernel_rfl) (h.holds 0 _ rfl)
      have e23:f9.tmps.getD 23 undef=_:=aH hl 23 8 (by kernel_rfl) (by kernel_rfl)
      have h:=aq [(0,_),(23,_)] hs hd9 (holds_lk ⟨e0,e23,trivial⟩)
      have s:=s.more hE
      have z:=St.start w2
      refine aB h rfl rfl rfl ?_
      refine ac h (ag (h.ev rfl)) rfl ?_;intro f h
      refine ah ?_
      have e9:=h.holds 24 _ rfl
      refine ⟨?_,Ext.refl _,fun h9=>absurd h9 (by decide)⟩
      refine e9.trans ?_
      exact rfl
     ·refine aT 25 rfl (by decide) (by decide) ?_
      intro f9 w2 hE hs hd9 hl
      have e3:f9.tmps.getD 3 undef=_:=bX hl 3 (by kernel_rfl) (by kernel_rfl) (h.holds 3 _ rfl)
      have e23:f9.tmps.getD 23 undef=_:=aH hl 23 8 (by kernel_rfl) (by kernel_rfl)
      have h:=aq [(3,_),(23,_)] hs hd9 (holds_lk ⟨e3,e23,trivial⟩)
      have s:=s.more hE
      have z:=St.start w2
      refine aB h rfl rfl rfl ?_
      refine ac h (ag (h.ev rfl)) rfl ?_;intro f h
      refine ah ?_
      have e9:=h.holds 25 _ rfl
      refine ⟨?_,Ext.refl _,fun h9=>absurd h9 (by decide)⟩
      refine e9.trans ?_
      exact rfl
     ·refine aT 26 rfl (by decide) (by decide) ?_
      intro f9 w2 hE hs hd9 hl
      have e24:f9.tmps.getD 24 undef=_:=aH hl 24 9 (by kernel_rfl) (by kernel_rfl)
      have e25:f9.tmps.getD 25 undef=_:=aH hl 25 10 (by kernel_rfl) (by kernel_rfl)
      have e23:f9.tmps.getD 23 undef=_:=aH hl 23 8 (by kernel_rfl) (by kernel_rfl)
      have h:=aq [(24,_),(25,_),(23,_)] hs hd9 (holds_lk ⟨e24,e25,e23,trivial⟩)
      have s:=s.more hE
      have z:=St.start w2
      refine aB h rfl rfl rfl ?_
      refine ac h (dl (hR.keep s.ext) (k) Tryz.underlying36 cG (h.ev rfl) (h.ev rfl) (rfl) (by omega)) rfl ?_;intro f h
      refine ah ?_
      have e9:=h.holds 26 _ rfl
      refine ⟨?_,Ext.refl _,fun h9=>absurd h9 (by decide)⟩
      refine e9.trans ?_
      exact rfl
     ·refine aT 27 rfl (by decide) (by decide) ?_
      intro f9 w2 hE hs hd9 hl
      have e4:f9.tmps.getD 4 undef=_:=bX hl 4 (by kernel_rfl) (by kernel_rfl) (h.holds 4 _ rfl)
      have e23:f9.tmps.getD 23 undef=_:=aH hl 23 8 (by kernel_rfl) (by kernel_rfl)
      have h:=aq [(4,_),(23,_)] hs hd9 (holds_lk ⟨e4,e23,trivial⟩)
      have s:=s.more hE
      have z:=St.start w2
      refine aB h rfl rfl rfl ?_
      refine ao 0 h s aL rfl rfl (ak _) rfl ?_;intro f h
      refine ah ?_
      have e9:=h.holds 27 _ rfl
      refine ⟨?_,Ext.refl _,fun h9=>absurd h9 (by decide)⟩
      refine e9.trans ?_
      exact rfl
     ·refine aT 28 rfl (by decide) (by decide) ?_
      intro f9 w2 hE hs hd9 hl
      have e27:f9.tmps.getD 27 undef=_:=aH hl 27 12 (by kernel_rfl) (by kernel_rfl)
      have e23:f9.tmps.getD 23 undef=_:=aH hl 23 8 (by kernel_rfl) (by kernel_rfl)
      have h:=aq [(27,_),(23,_)] hs hd9 (holds_lk ⟨e27,e23,trivial⟩)
      have s:=s.more hE
      have z:=St.start w2
      refine aB h rfl rfl rfl ?_
      refine aF h s At (o5 _ _) rfl rfl ?_;intro f w3 v3 hT9 hE3 h s
      refine ah ?_
      exact ⟨by rw [h.holds 28 _ rfl];exact hT9,hE3,fun h9=>absurd h9 (by decide)⟩
     ·exact cr (by decide) (by decide)
     ·exact cr (by decide) (by decide)
     ·intro f9 w2 hE hs hd9 hWp hT hR hFr hDj
      obtain ⟨u28,hu28⟩:∃ v,f9.tmps.getD 28 undef=v:=⟨_,rfl⟩
      have e28:(fun v w9=>∃ bx,v=.func (.func 113) #[] #[.pointer (some ⟨bx,0,none⟩)]∧jd w9 bx (au (l.getD k a8))) u28 w2:=by rw [← hu28];exact hT 13 28 (by decide) rfl
      replace h:=sl_new (ops:=_) [(15,_),(16,_),(17,_),(18,_),(19,_),(20,_),(21,_),(22,_),(23,_),(24,_),(25,_),(26,_),(27,_),(28,u28)] h hs hd9 hR ⟨hT 0 15 (by decide) rfl,hT 1 16 (by decide) rfl,hT 2 17 (by decide) rfl,hT 3 18 (by decide) rfl,hT 4 19 (by decide) rfl,hT 5 20 (by decide) rfl,hT 6 21 (by decide) rfl,hT 7 22 (by decide) rfl,hT 8 23 (by decide) rfl,hT 9 24 (by decide) rfl,hT 10 25 (by decide) rfl,hT 11 26 (by decide) rfl,hT 12 27 (by decide) rfl,hu28,trivial⟩ (by kernel_rfl)
      replace s:=s.more hE
      clear hT hR hFr hDj
      refine eD.of ?_
      refine aB h rfl rfl rfl ?_
      obtain ⟨bx,hbx0,hbx⟩:=e28;subst hbx0
      refine aF h s yj (iS (l.take k) (gb vh k) 113 [.pointer (some ⟨bx,0,none⟩)] (gN (l.getD k a8)) _ (eO (hR.keep s.ext) k (by omega)) (by rw [List.length_take];omega) zm (fun w9 h9 x hx=>pR x _ bx w9 (hbx.keep h9))) rfl rfl ?_;intro f w1 v9 hT hE h s;obtain rfl:=hT
      refine ac h (aE (h.ev rfl) (h.ev rfl)) rfl ?_;intro f h
      refine ah ?_
      refine hK11 _ _ ?_
      refine bA h rfl (fun hc=>?_) (fun hc=>?_)
      ·refine aj fun K12 hK12=>?_
       refine ae ?_
       refine ac h (ai (h.ev rfl)) rfl ?_;intro f h
       refine ah ?_
       refine hK12 _ _ ?_
       refine wpIn_ret ?_
       refine bu ?_
       refine aQ ?_
       refine aQ ?_
       refine bu ?_
       refine aQ ?_
       exact aX rfl h s rfl (by show _=_;rw [dQ hkl ((lD k0 k1).trans hc)]<;>rfl)
      ·refine wpIn_skip ?_
       refine bF ?_
       refine hK9 _ _ ?_
       refine ae ?_
       refine ac h (cg (h.ev rfl) (h.ev rfl) (by omega)) rfl ?_;intro f h
       refine ac h (ag (h.ev rfl)) rfl ?_;intro f h
       refine ah ?_
       refine bQ ?_
       have hb9:ie l k=false:=(lD k0 k1).trans hc
       exact ⟨_,by omega,⟨k+1,h.only ⟨rfl,rfl,rfl,aR rfl (by omega),trivial⟩,St.as (s.pick _ (List.sublist_append_right [_] _)) trivial,rfl,by omega,cV hp1 hb9⟩⟩
    ·skip
     refine bJ 16 [[],[0],[0,1],[0,1,2],[0,1,2,3],[0,1,2,3,4],[0,1,2,3,4,5],[0,1,2,3,4,5,6],[0,1,2,3,4,5,6,7],[0,1,2,3,4,5,6,7,8],[0,1,2,3,4,5,6,7,8],[0,1,2,3,4,5,6,7,8,9,10],[0,1,2,3,4,5,6,7,8],[0,1,2,3,4,5,6,7,8,12],[0,1,2,3,4,5,6,7,8,9,10,11,12,13],[0,1,2,3,4,5,6,7,8,9,10,11,12,13,14]] h (by kernel_rfl) (by kernel_rfl) (by kernel_rfl) ?_
     refine ap h (al aP (h.ev rfl)) rfl ?_;intro f h
     refine bk (am (bc.of_own s 0 rfl) 0 (aV _)) h bO rfl rfl ?_;intro f h
     refine ap h (aw (.bool false) (bD (h.ev rfl) (h.ev rfl)) (congrArg Value.bool k0)) rfl ?_;intro f h
     refine ap h (ag (h.ev rfl)) rfl ?_;intro f h
     refine bi h rfl rfl rfl ?_
     refine ap h (al aP (h.ev rfl)) rfl ?_;intro f h
     refine bi h rfl rfl rfl ?_
     refine bk (am (bc.of_own s 0 rfl) 0 (aV _)) h bO rfl rfl ?_;intro f h
     refine bi h rfl rfl rfl ?_
     refine ap h (aw (.bool true) (c0 (h.ev rfl) (h.ev rfl)) (congrArg Value.bool k1)) rfl ?_;intro f h
     refine ap h (aE (h.ev rfl) (h.ev rfl)) rfl ?_;intro f h
     refine ap h (ag (h.ev rfl)) rfl ?_;intro f h
     refine bm (b:=false) h rfl rfl rfl rfl ?_;intro f h
     refine bm (b:=false) h rfl rfl rfl rfl ?_;intro f h
     refine bm (b:=false) h rfl rfl rfl rfl ?_;intro f h
     refine bm (b:=false) h rfl rfl rfl rfl ?_;intro f h
     refine bm (b:=false) h rfl rfl rfl rfl ?_;intro f h
     refine bm (b:=false) h rfl rfl rfl rfl ?_;intro f h
     refine ap h (aJ (h.ev rfl) (h.ev rfl)) rfl ?_;intro f h
     refine cn s fun w1 s=>?_
     refine ah ?_
     refine hK11 _ _ ?_
     refine wpIn_cond_true (h.ev rfl) ?_
     refine aj fun K13 hK13=>?_
     refine ae ?_
     refine ac h (ai (h.ev rfl)) rfl ?_;intro f h
     refine ah ?_
     refine hK13 _ _ ?_
     refine wpIn_ret ?_
     refine bu ?_
     refine aQ ?_
     refine aQ ?_
     refine bu ?_
     refine aQ ?_
     exact aX rfl h s rfl (by show _=_;rw [dQ hkl (vD k1)]<;>rfl)
   ·skip
    refine bJ 16 [[],[0],[0,1],[0,1,2],[0,1,2,3],[0,1,2,3,4],[0,1,2,3,4,5],[0,1,2,3,4,5,6],[0,1,2,3,4,5,6,7],[0,1,2,3,4,5,6,7,8],[0,1,2,3,4,5,6,7,8],[0,1,2,3,4,5,6,7,8,9,10],[0,1,2,3,4,5,6,7,8],[0,1,2,3,4,5,6,7,8,12],[0,1,2,3,4,5,6,7,8,9,10,11,12,13],[0,1,2,3,4,5,6,7,8,9,10,11,12,13,14]] h (by kernel_rfl) (by kernel_rfl) (by kernel_rfl) ?_
    refine ap h (al aP (h.ev rfl)) rfl ?_;intro f h
    refine bk (am (bc.of_own s 0 rfl) 0 (aV _)) h bO rfl rfl ?_;intro f h
    refine ap h (aw (.bool true) (bD (h.ev rfl) (h.ev rfl)) (congrArg Value.bool k0)) rfl ?_;intro f h
    refine ap h (ag (h.ev rfl)) rfl ?_;intro f h
    refine bm (b:=false) h rfl rfl rfl rfl ?_;intro f h
    refine bm (b:=false) h rfl rfl rfl rfl ?_;intro f h
    refine bm (b:=false) h rfl rfl rfl rfl ?_;intro f h
    refine ap h (aJ (h.ev rfl) (h.ev rfl)) rfl ?_;intro f h
    refine ap h (ag (h.ev rfl)) rfl ?_;intro f h
    refine bm (b:=false) h rfl rfl rfl rfl ?_;intro f h
    refine bm (b:=false) h rfl rfl rfl rfl ?_;intro f h
    refine bm (b:=false) h rfl rfl rfl rfl ?_;intro f h
    refine bm (b:=false) h rfl rfl rfl rfl ?_;intro f h
    refine bm (b:=false) h rfl rfl rfl rfl ?_;intro f h
    refine bm (b:=false) h rfl rfl rfl rfl ?_;intro f h
    refine ap h (aJ (h.ev rfl) (h.ev rfl)) rfl ?_;intro f h
    refine cn s fun w1 s=>?_
    refine ah ?_
    refine hK11 _ _ ?_
    refine wpIn_cond_true (h.ev rfl) ?_
    refine aj fun K14 hK14=>?_
    refine ae ?_
    refine ac h (ai (h.ev rfl)) rfl ?_;intro f h
    refine ah ?_
    refine hK14 _ _ ?_
    refine wpIn_ret ?_
    refine bu ?_
    refine aQ ?_
    refine aQ ?_
    refine bu ?_
    refine aQ ?_
    exact aX rfl h s rfl (by show _=_;rw [dQ hkl (tA k0)]<;>rfl)
  ·replace hc:=of_decide_eq_false hc
   refine wpIn_exit ?_
   refine bw ?_
   refine bw ?_
   refine cq ?_
   refine hK5 _ _ ?_
   refine aj fun K15 hK15=>?_
   refine ae ?_
   refine ac h (ai (h.ev rfl)) rfl ?_;intro f h
   refine ah ?_
   refine hK15 _ _ ?_
   refine wpIn_ret ?_
   exact aX rfl h s rfl (by show _=_;rw [kI hl16 (fun j hj=>hp1 j (by omega))]<;>rfl)
theorem m6 (n:Nd) (vs vf:Value) (L:List N3) (vo:Value) (w:World) (hRs:bK w vs 33 n.sc.length (av n.sc)) (hRf:bK w vf 33 n.fg.length (av n.fg)) (hns:n.sc.length≤400) (hnf:n.fg.length≤400) (hO:cf w vo L) (hL:L.length≤40):Calls Tryz.prog 49 [.agg (aD n.me n.pr vs vf),.agg #[vo]].toArray w (cT w (is (.bool !((aS n).any (i6 L))))):=by
 have hkl9:(aS n).length≤1000:=by simp only [aS,List.length_append,List.length_cons];omega
 refine eU Tryz.func49 rfl Tryz.ntmps49 rfl [(0,.agg (aD n.me n.pr vs vf)),(1,.agg #[vo])] (by simp) fun f h=>?_
 have s:=St.start w
 refine aj fun K1 hK1=>?_
 refine ae ?_
 refine bT (aD n.me n.pr vs vf) h s rfl rfl rfl ?_;intro f w1 b2 h s
 refine bT (#[vo]) h s rfl rfl rfl ?_;intro f w1 b3 h s
 refine ba (#[.bool false]) h s q8 rfl rfl ?_;intro f w1 b4 h s
 refine ah ?_
 refine hK1 _ _ ?_
 refine aj fun K2 hK2=>?_
 refine aj fun K3 hK3=>?_
 refine ae ?_
 refine ao 2 h s bS rfl rfl (aA _ _ _ _) rfl ?_;intro f h
 refine aF h s yr (lm n vs vf _ (hRs.keep s.ext) (hRf.keep s.ext) (by omega) (by omega)) rfl rfl ?_;rintro f w1 r9 ⟨bv,vk,rfl,hS⟩ hE h sq;replace s:=s.add hS;clear hS
 refine ah ?_
 refine hK3 _ _ ?_
 refine wpIn_block ?_
 refine eV (fun d A9=>A9=[.blk b4 (.cells #[.bool false] 4),.blk b3 (.cells #[vo] 24),.blk b2 (.cells (aD n.me n.pr vs vf) 42)]) [.blk b4 (.cells #[.bool false] 4),.blk b3 (.cells #[vo] 24),.blk b2 (.cells (aD n.me n.pr vs vf) 42)] [.blk bv (.cells #[vk] 36),.sl vk 28 33 (aS n).length (av (aS n))] ((aS n).length) (Bb n L) (fun d=>[Value.agg (au ((aS n).getD d a8))]) h s rfl pQ (List.Perm.refl _) (rfl) (fun _=>rfl) ?_ ?_ ?_ ?_
 ·intro lp w2 GG g0 hg0 s2 hY;exact lr (aS n) hkl9 vk lp bv (Bb n L) GG g0 w w2 s2 hg0 hY
 ·intro lp D9 d9 rc R9 A9 w2 hd9 hq9 hJ9 s
  obtain rfl:=hJ9
  have h:=Sl.round1 (p:=9) (V:=.agg (au ((aS n).getD d9 a8))) h rfl
  have hdl9:=hd9
  refine ae ?_
  refine ba (au a8) h s cz rfl rfl ?_;intro f w1 b5 h s
  refine ay 0 h s aL rfl rfl rfl (ak _) (ak _) (bf _) ?_;intro w1 s
  refine ah ?_
  refine bQ ?_
  refine ⟨_,s.perm (List.perm_middle (l₁:=[_])),fun w3 s=>?_⟩
  refine wpIn_block ?_
  refine aj fun K4 hK4=>?_
  cases p0:(decide (bG L ((aS n).getD d9 a8).1<L.length):Bool)
  ·skip
   refine ae ?_
   refine ao 4 h s aU rfl rfl (rfl) rfl ?_;intro f h
   refine ac h (al aP (h.ev rfl)) rfl ?_;intro f h
   refine ar (am (bc.of_own s 1 rfl) 0 (aV _)) h bO rfl rfl ?_;intro f h
   refine aF h s kP (aO (.pointer none) (ej L vo ((aS n).getD d9 a8).1 _ (hO.keep s.ext) hL) (oX (of_decide_eq_false p0))) rfl rfl ?_;intro f w1 v9 hT hE h s;obtain rfl:=hT
   refine ac h (ai (h.ev rfl)) rfl ?_;intro f h
   refine ah ?_
   refine hK4 _ _ ?_
   refine aj fun K5 hK5=>?_
   refine bJ 10 [[],[0],[0,1],[0,1,2],[0,1,2,3],[0,1,2,3,4],[0,1,2,3,4,5],[0,1,2],[0,1,2,3,4,5,6,7],[0,1,2,3,4,5,6,7,8]] h (by kernel_rfl) (by kernel_rfl) (by kernel_rfl) ?_
   refine ap h (ag (h.ev rfl)) rfl ?_;intro f h
   refine ap h (aw (.bool false) (ib Tryz.underlying54 (h.ev rfl) (h.ev rfl)) (rfl)) rfl ?_;intro f h
   refine ap h (ag (h.ev rfl)) rfl ?_;intro f h
   refine bm (b:=true) h rfl rfl rfl rfl ?_;intro f h
   refine bm (b:=true) h rfl rfl rfl rfl ?_;intro f h
   refine bm (b:=true) h rfl rfl rfl rfl ?_;intro f h
   refine bm (b:=true) h rfl rfl rfl rfl ?_;intro f h
   refine bm (b:=true) h rfl rfl rfl rfl ?_;intro f h
   refine bm (b:=true) h rfl rfl rfl rfl ?_;intro f h
   refine ap h (aE (h.ev rfl) (h.ev rfl)) rfl ?_;intro f h
   refine cn s fun w1 s=>?_
   refine ah ?_
   refine hK5 _ _ ?_
   refine wpIn_cond_false (h.ev rfl) ?_
   refine wpIn_skip ?_
   refine bF ?_
   refine ⟨(Bf p0),_,rfl,s.pick _ ?_⟩
   exact List.Sublist.cons_cons _ (List.Sublist.cons _ (List.Sublist.refl _))
  ·skip
   refine ae ?_
   refine ao 4 h s aU rfl rfl (rfl) rfl ?_;intro f h
   refine ac h (al aP (h.ev rfl)) rfl ?_;intro f h
   refine ar (am (bc.of_own s 1 rfl) 0 (aV _)) h bO rfl rfl ?_;intro f h
   refine aF h s kP (aO (.pointer (some (bs vo (bG L ((aS n).getD d9 a8).1*68)))) (ej L vo ((aS n).getD d9 a8).1 _ (hO.keep s.ext) hL) (oU (of_decide_eq_true p0))) rfl rfl ?_;intro f w1 v9 hT hE h s;obtain rfl:=hT
   refine ac h (ai (h.ev rfl)) rfl ?_;intro f h
   refine ah ?_
   refine hK4 _ _ ?_
   refine aj fun K6 hK6=>?_
   cases p1:(decide ((L.getD (bG L ((aS n).getD d9 a8).1) z3).1.me=((aS n).getD d9 a8)):Bool)
   ·skip
    refine bJ 10 [[],[0],[0,1],[0,1,2],[0,1,2,3],[0,1,2,3,4],[0,1,2,3,4,5],[0,1,2],[0,1,2,3,4,5,6,7],[0,1,2,3,4,5,6,7,8]] h (by kernel_rfl) (by kernel_rfl) (by kernel_rfl) ?_
    have hp9:=of_decide_eq_true p0
    refine ap h (ag (h.ev rfl)) rfl ?_;intro f h
    refine ap h (aw (.bool true) (ib Tryz.underlying54 (h.ev rfl) (h.ev rfl)) (rfl)) rfl ?_;intro f h
    refine ap h (ag (h.ev rfl)) rfl ?_;intro f h
    refine bi h rfl rfl rfl ?_
    refine ap h (ag (h.ev rfl)) rfl ?_;intro f h
    refine bi h rfl rfl rfl ?_
    refine ap h (bN (h.ev rfl)) rfl ?_;intro f h
    refine bi h rfl rfl rfl ?_
    refine ap h (ca a6 (h.ev rfl) ((hO.1.keep s.ext).some (by omega))) rfl ?_;intro f h
    refine bi h rfl rfl rfl ?_
    refine bz (bK.elF (hO.1.keep s.ext) (bG L ((aS n).getD d9 a8).1) 0 33 (by omega) (by decide) (C:=aD (L.getD (bG L ((aS n).getD d9 a8).1) z3).1.me (L.getD (bG L ((aS n).getD d9 a8).1) z3).1.pr (L.getD (bG L ((aS n).getD d9 a8).1) z3).2.1 (L.getD (bG L ((aS n).getD d9 a8).1) z3).2.2) (c6 L _ hp9) (D:=au (L.getD (bG L ((aS n).getD d9 a8).1) z3).1.me) (bU _ _ _ _)) h aL rfl (ak _) rfl ?_;intro f h
    refine bi h rfl rfl rfl ?_
    refine br 1 h s aL rfl rfl (ak _) rfl ?_;intro f h
    refine bi h rfl rfl rfl ?_
    refine ap h (aw (.bool true) (dc (gM _ _) (by kernel_rfl) (by decide) (h.ev rfl) (h.ev rfl) (decide ((L.getD (bG L ((aS n).getD d9 a8).1) z3).1.me=((aS n).getD d9 a8))) (dE _ _)) (by rw [p1];rfl)) rfl ?_;intro f h
    refine ap h (aJ (h.ev rfl) (h.ev rfl)) rfl ?_;intro f h
    refine cn s fun w1 s=>?_
    refine ah ?_
    refine hK6 _ _ ?_
    refine wpIn_cond_true (h.ev rfl) ?_
    refine aj fun K7 hK7=>?_
    refine ae ?_
    refine bp 3 h s fa rfl rfl rfl (by simp) (rfl) ?_;intro w1 s
    refine ah ?_
    refine hK7 _ _ ?_
    refine wpIn_ret ?_
    refine bu ?_
    refine ⟨((AA p0).trans (by rw [p1];rfl)),_,rfl,s.pick _ ?_⟩
    exact List.Sublist.cons_cons _ (List.Sublist.cons _ (List.Sublist.refl _))
   ·skip
    refine bJ 10 [[],[0],[0,1],[0,1,2],[0,1,2,3],[0,1,2,3,4],[0,1,2,3,4,5],[0,1,2],[0,1,2,3,4,5,6,7],[0,1,2,3,4,5,6,7,8]] h (by kernel_rfl) (by kernel_rfl) (by kernel_rfl) ?_
    have hp9:=of_decide_eq_true p0
    refine ap h (ag (h.ev rfl)) rfl ?_;intro f h
    refine ap h (aw (.bool true) (ib Tryz.underlying54 (h.ev rfl) (h.ev rfl)) (rfl)) rfl ?_;intro f h
    refine ap h (ag (h.ev rfl)) rfl ?_;intro f h
    refine bi h rfl rfl rfl ?_
    refine ap h (ag (h.ev rfl)) rfl ?_;intro f h
    refine bi h rfl rfl rfl ?_
    refine ap h (bN (h.ev rfl)) rfl ?_;intro f h
    refine bi h rfl rfl rfl ?_
    refine ap h (ca a6 (h.ev rfl) ((hO.1.keep s.ext).some (by omega))) rfl ?_;intro f h
    refine bi h rfl rfl rfl ?_
    refine bz (bK.elF (hO.1.keep s.ext) (bG L ((aS n).getD d9 a8).1) 0 33 (by omega) (by decide) (C:=aD (L.getD (bG L ((aS n).getD d9 a8).1) z3).1.me (L.getD (bG L ((aS n).getD d9 a8).1) z3).1.pr (L.getD (bG L ((aS n).getD d9 a8).1) z3).2.1 (L.getD (bG L ((aS n).getD d9 a8).1) z3).2.2) (c6 L _ hp9) (D:=au (L.getD (bG L ((aS n).getD d9 a8).1) z3).1.me) (bU _ _ _ _)) h aL rfl (ak _) rfl ?_;intro f h
    refine bi h rfl rfl rfl ?_
    refine br 1 h s aL rfl rfl (ak _) rfl ?_;intro f h
    refine bi h rfl rfl rfl ?_
    refine ap h (aw (.bool false) (dc (gM _ _) (by kernel_rfl) (by decide) (h.ev rfl) (h.ev rfl) (decide ((L.getD (bG L ((aS n).getD d9 a8).1) z3).1.me=((aS n).getD d9 a8))) (dE _ _)) (by rw [p1];rfl)) rfl ?_;intro f h
    refine ap h (aJ (h.ev rfl) (h.ev rfl)) rfl ?_;intro f h
    refine cn s fun w1 s=>?_
    refine ah ?_
    refine hK6 _ _ ?_
    refine wpIn_cond_false (h.ev rfl) ?_
    refine wpIn_skip ?_
    refine bF ?_
    refine ⟨((AA p0).trans (by rw [p1];rfl)),_,rfl,s.pick _ ?_⟩
    exact List.Sublist.cons_cons _ (List.Sublist.cons _ (List.Sublist.refl _))
 ·intro D9 A9 w2 hJ9 hq9 s
  obtain rfl:=hJ9
  replace h:Sl _ {f with defers:={target:=.collected D9,args:=#[]}::f.defers} _ [{target:=.collected D9,args:=#[]}]:=⟨h.size,by rw [h.defers],h.holds⟩
  refine bF ?_
  refine hK2 _ _ ?_
  refine aj fun K8 hK8=>?_
  refine ae ?_
  refine bp 3 h s fa rfl rfl rfl (by simp) (rfl) ?_;intro w1 s
  refine ah ?_
  refine hK8 _ _ ?_
  refine wpIn_ret ?_
  exact eR 3 0 rfl h s fa rfl rfl rfl rfl rfl (fun w9=>by show _=_;rw [xk hq9];rfl)
 ·intro D9 d9 A9 w2 hd9 hqd9 hq9 hJ9 s
  obtain rfl:=hJ9
  replace h:Sl _ {f with defers:={target:=.collected D9,args:=#[]}::f.defers} _ [{target:=.collected D9,args:=#[]}]:=⟨h.size,by rw [h.defers],h.holds⟩
  refine bu ?_
  refine aQ ?_
  exact eR 3 0 rfl h s fa rfl rfl rfl rfl rfl (fun w9=>by show _=_;rw [wK hd9 hqd9];rfl)
theorem dB (L:List N3) (vo:Value) (w:World) (hO:cf w vo L) (hL:L.length≤40) (hb:RwB L):Calls Tryz.prog 11 [.agg #[vo]].toArray w (cT w (is (.bool (fQ L)))):=by
 have hml:(aN L).length≤1000:=by rw [List.length_map];omega
 refine eU Tryz.func11 rfl Tryz.ntmps11 rfl [(0,.agg #[vo])] (by simp) fun f h=>?_
 have s:=St.start w
 refine aj fun K1 hK1=>?_
 refine ae ?_
 refine bT (#[vo]) h s rfl rfl rfl ?_;intro f w1 b1 h s
 refine ba (#[.bool false]) h s q8 rfl rfl ?_;intro f w1 b2 h s
 refine ah ?_
 refine hK1 _ _ ?_
 refine aj fun K2 hK2=>?_
 refine ae ?_
 refine ao 1 h s aU rfl rfl (rfl) rfl ?_;intro f h
 refine aF h s rA (ff L vo _ (hO.keep s.ext) hL) rfl rfl ?_;intro f w1 v6 hT hE h sq;replace s:=s.sl_new hE hT
 refine ac h (ai (h.ev rfl)) rfl ?_;intro f h
 refine ah ?_
 refine hK2 _ _ ?_
 refine aj fun K3 hK3=>?_
 refine aj fun K4 hK4=>?_
 cases r0:(cY (aN L):Bool)
 ·skip
  refine ae ?_
  refine ac h (ag (h.ev rfl)) rfl ?_;intro f h
  refine aF h s oE (aO (.bool false) (gh (aN L) v6 _ (bK.of_own (s.getSl 0 rfl)) hml) (congrArg Value.bool r0)) rfl rfl ?_;intro f w1 v9 hT hE h s;obtain rfl:=hT
  refine ac h (aw (.bool true) (bg (h.ev rfl)) rfl) rfl ?_;intro f h
  refine ac h (ag (h.ev rfl)) rfl ?_;intro f h
  refine aC (b:=false) h rfl rfl rfl rfl ?_;intro f h
  refine aC (b:=false) h rfl rfl rfl rfl ?_;intro f h
  refine aC (b:=false) h rfl rfl rfl rfl ?_;intro f h
  refine ac h (aJ (h.ev rfl) (h.ev rfl)) rfl ?_;intro f h
  refine ah ?_
  refine hK4 _ _ ?_
  refine wpIn_cond_true (h.ev rfl) ?_
  refine aj fun K5 hK5=>?_
  refine ae ?_
  refine bp 1 h s fa rfl rfl rfl (by simp) (rfl) ?_;intro w1 s
  refine ah ?_
  refine hK5 _ _ ?_
  refine wpIn_ret ?_
  refine aQ ?_
  exact lX 1 rfl h s fa rfl rfl rfl (fun w9=>(congrArg Value.bool (zc r0)).symm)
 ·skip
  cases r1:(lK (aN L):Bool)
  ·skip
   refine ae ?_
   refine ac h (ag (h.ev rfl)) rfl ?_;intro f h
   refine aF h s oE (aO (.bool true) (gh (aN L) v6 _ (bK.of_own (s.getSl 0 rfl)) hml) (congrArg Value.bool r0)) rfl rfl ?_;intro f w1 v9 hT hE h s;obtain rfl:=hT
   refine ac h (aw (.bool false) (bg (h.ev rfl)) rfl) rfl ?_;intro f h
   refine ac h (ag (h.ev rfl)) rfl ?_;intro f h
   refine aB h rfl rfl rfl ?_
   refine ac h (ag (h.ev rfl)) rfl ?_;intro f h
   refine aB h rfl rfl rfl ?_
   refine aF h s yl (aO (.bool false) (jy (aN L) v6 _ (bK.of_own (s.getSl 0 rfl)) hml) (congrArg Value.bool r1)) rfl rfl ?_;intro f w1 v9 hT hE h s;obtain rfl:=hT
   refine aB h rfl rfl rfl ?_
   refine ac h (aw (.bool true) (bg (h.ev rfl)) rfl) rfl ?_;intro f h
   refine ac h (aE (h.ev rfl) (h.ev rfl)) rfl ?_;intro f h
   refine ah ?_
   refine hK4 _ _ ?_
   refine wpIn_cond_true (h.ev rfl) ?_
   refine aj fun K6 hK6=>?_
   refine ae ?_
   refine bp 1 h s fa rfl rfl rfl (by simp) (rfl) ?_;intro w1 s
   refine ah ?_
   refine hK6 _ _ ?_
   refine wpIn_ret ?_
   refine aQ ?_
   exact lX 1 rfl h s fa rfl rfl rfl (fun w9=>(congrArg Value.bool (zr r1)).symm)
  ·skip
   refine ae ?_
   refine ac h (ag (h.ev rfl)) rfl ?_;intro f h
   refine aF h s oE (aO (.bool true) (gh (aN L) v6 _ (bK.of_own (s.getSl 0 rfl)) hml) (congrArg Value.bool r0)) rfl rfl ?_;intro f w1 v9 hT hE h s;obtain rfl:=hT
   refine ac h (aw (.bool false) (bg (h.ev rfl)) rfl) rfl ?_;intro f h
   refine ac h (ag (h.ev rfl)) rfl ?_;intro f h
   refine aB h rfl rfl rfl ?_
   refine ac h (ag (h.ev rfl)) rfl ?_;intro f h
   refine aB h rfl rfl rfl ?_
   refine aF h s yl (aO (.bool true) (jy (aN L) v6 _ (bK.of_own (s.getSl 0 rfl)) hml) (congrArg Value.bool r1)) rfl rfl ?_;intro f w1 v9 hT hE h s;obtain rfl:=hT
   refine aB h rfl rfl rfl ?_
   refine ac h (aw (.bool false) (bg (h.ev rfl)) rfl) rfl ?_;intro f h
   refine ac h (aE (h.ev rfl) (h.ev rfl)) rfl ?_;intro f h
   refine ah ?_
   refine hK4 _ _ ?_
   refine wpIn_cond_false (h.ev rfl) ?_
   refine wpIn_skip ?_
   refine hK3 _ _ ?_
   refine aj fun K7 hK7=>?_
   refine aj fun K8 hK8=>?_
   refine ae ?_
   refine ao 2 h s aU rfl rfl (rfl) rfl ?_;intro f h
   refine eP [.agg #[vo]] h mR (f5 vo _ _ _ s) rfl rfl ?_;rintro f w1 r ⟨bn,rfl,s⟩ h
   refine ah ?_
   refine hK8 _ _ ?_
   refine wpIn_block ?_
   refine eV (fun d A9=>A9=[.sl v6 28 33 (aN L).length (av (aN L)),.blk b2 (.cells #[.bool false] 4),.blk b1 (.cells #[vo] 24)]) [.sl v6 28 33 (aN L).length (av (aN L)),.blk b2 (.cells #[.bool false] 4),.blk b1 (.cells #[vo] 24)] [.blk bn (.cells #[vo] 24)] (L.length) (uo L) (fun d=>[Value.pointer (some (bs vo (d*68)))]) h s rfl mJ (List.Perm.refl _) (rfl) (fun _=>rfl) ?_ ?_ ?_ ?_
   ·intro lp w2 GG g0 hg0 s2 hY;exact fp L.length (by omega) vo _ _ hO.1 lp bn (uo L) GG g0 w w2 s2 hg0 hY
   ·intro lp D9 d9 rc R9 A9 w2 hd9 hq9 hJ9 s
    obtain rfl:=hJ9
    have h:=Sl.round1 (p:=17) (V:=.pointer (some (bs vo (d9*68)))) h rfl
    have hdl9:=hd9
    refine ae ?_
    refine ac h (ai (h.ev rfl)) rfl ?_;intro f h
    refine ah ?_
    refine bQ ?_
    refine ⟨_,s,fun w3 s=>?_⟩
    refine wpIn_block ?_
    refine aj fun K9 hK9=>?_
    cases k0:(cM (L.getD d9 z3).1:Bool)
    ·skip
     refine bJ 13 [[],[0],[0,1],[0,1,2],[0,1,2,3],[0,1,2,3,4],[0,1,2,3,4,5],[0,1,2,3,4,5,6],[0,1,2,3,4,5,6,7],[0,1,2,3,4,5],[0,1,2,3,4,5,6,7,8,9],[0,1,2,3,4,5,6,7,8,9,10],[0,1,2,3,4,5,6,7,8,9,10,11]] h (by kernel_rfl) (by kernel_rfl) (by kernel_rfl) ?_
     have hx9:=hb.each _ (bh hdl9)
     refine ap h (ag (h.ev rfl)) rfl ?_;intro f h
     refine ap h (bN (h.ev rfl)) rfl ?_;intro f h
     refine bz ((hO.1.keep s.ext).el (d9) (by omega) (by decide) (D:=aD (L.getD d9 z3).1.me (L.getD d9 z3).1.pr (L.getD d9 z3).2.1 (L.getD d9 z3).2.2) (c6 L d9 hdl9)) h bS rfl (aA _ _ _ _) rfl ?_;intro f h
     refine cm h lz (fun w9 hE9=>aO (.bool false) (ef (L.getD d9 z3).1 (L.getD d9 z3).2.1 (L.getD d9 z3).2.2 w9 ((hO.2 _ (bh hdl9)).1.keep (s.ext.trans hE9)) ((hO.2 _ (bh hdl9)).2.keep (s.ext.trans hE9)) (by omega) (by omega)) (congrArg Value.bool k0)) rfl rfl ?_;intro f h
     refine ap h (aw (.bool true) (bg (h.ev rfl)) rfl) rfl ?_;intro f h
     refine ap h (ag (h.ev rfl)) rfl ?_;intro f h
     refine bm (b:=false) h rfl rfl rfl rfl ?_;intro f h
     refine bm (b:=false) h rfl rfl rfl rfl ?_;intro f h
     refine bm (b:=false) h rfl rfl rfl rfl ?_;intro f h
     refine bm (b:=false) h rfl rfl rfl rfl ?_;intro f h
     refine bm (b:=false) h rfl rfl rfl rfl ?_;intro f h
     refine bm (b:=false) h rfl rfl rfl rfl ?_;intro f h
     refine ap h (aJ (h.ev rfl) (h.ev rfl)) rfl ?_;intro f h
     refine cn s fun w1 s=>?_
     refine ah ?_
     refine hK9 _ _ ?_
     refine wpIn_cond_true (h.ev rfl) ?_
     refine aj fun K10 hK10=>?_
     refine ae ?_
     refine bp 3 h s fa rfl rfl rfl (by simp) (rfl) ?_;intro w1 s
     refine ah ?_
     refine hK10 _ _ ?_
     refine wpIn_ret ?_
     refine bu ?_
     refine ⟨(Bg k0),_,rfl,s.pick _ ?_⟩
     exact List.Sublist.cons_cons _ (List.Sublist.refl _)
    ·skip
     cases k1:((aS (L.getD d9 z3).1).any (i6 L):Bool)
     ·skip
      refine bJ 13 [[],[0],[0,1],[0,1,2],[0,1,2,3],[0,1,2,3,4],[0,1,2,3,4,5],[0,1,2,3,4,5,6],[0,1,2,3,4,5,6,7],[0,1,2,3,4,5],[0,1,2,3,4,5,6,7,8,9],[0,1,2,3,4,5,6,7,8,9,10],[0,1,2,3,4,5,6,7,8,9,10,11]] h (by kernel_rfl) (by kernel_rfl) (by kernel_rfl) ?_
      have hx9:=hb.each _ (bh hdl9)
      refine ap h (ag (h.ev rfl)) rfl ?_;intro f h
      refine ap h (bN (h.ev rfl)) rfl ?_;intro f h
      refine bz ((hO.1.keep s.ext).el (d9) (by omega) (by decide) (D:=aD (L.getD d9 z3).1.me (L.getD d9 z3).1.pr (L.getD d9 z3).2.1 (L.getD d9 z3).2.2) (c6 L d9 hdl9)) h bS rfl (aA _ _ _ _) rfl ?_;intro f h
      refine cm h lz (fun w9 hE9=>aO (.bool true) (ef (L.getD d9 z3).1 (L.getD d9 z3).2.1 (L.getD d9 z3).2.2 w9 ((hO.2 _ (bh hdl9)).1.keep (s.ext.trans hE9)) ((hO.2 _ (bh hdl9)).2.keep (s.ext.trans hE9)) (by omega) (by omega)) (congrArg Value.bool k0)) rfl rfl ?_;intro f h
      refine ap h (aw (.bool false) (bg (h.ev rfl)) rfl) rfl ?_;intro f h
      refine ap h (ag (h.ev rfl)) rfl ?_;intro f h
      refine bi h rfl rfl rfl ?_
      refine ap h (ag (h.ev rfl)) rfl ?_;intro f h
      refine bi h rfl rfl rfl ?_
      refine ap h (bN (h.ev rfl)) rfl ?_;intro f h
      refine bi h rfl rfl rfl ?_
      refine bz ((hO.1.keep s.ext).el (d9) (by omega) (by decide) (D:=aD (L.getD d9 z3).1.me (L.getD d9 z3).1.pr (L.getD d9 z3).2.1 (L.getD d9 z3).2.2) (c6 L d9 hdl9)) h bS rfl (aA _ _ _ _) rfl ?_;intro f h
      refine bi h rfl rfl rfl ?_
      refine br 4 h s aU rfl rfl (rfl) rfl ?_;intro f h
      refine bi h rfl rfl rfl ?_
      refine cm h yi (fun w9 hE9=>aO (.bool true) (m6 (L.getD d9 z3).1 (L.getD d9 z3).2.1 (L.getD d9 z3).2.2 L vo w9 ((hO.2 _ (bh hdl9)).1.keep (s.ext.trans hE9)) ((hO.2 _ (bh hdl9)).2.keep (s.ext.trans hE9)) (by omega) (by omega) (hO.keep (s.ext.trans hE9)) hL) (by rw [k1];rfl)) rfl rfl ?_;intro f h
      refine bi h rfl rfl rfl ?_
      refine ap h (aw (.bool false) (bg (h.ev rfl)) rfl) rfl ?_;intro f h
      refine ap h (aE (h.ev rfl) (h.ev rfl)) rfl ?_;intro f h
      refine cn s fun w1 s=>?_
      refine ah ?_
      refine hK9 _ _ ?_
      refine wpIn_cond_false (h.ev rfl) ?_
      refine wpIn_skip ?_
      refine bF ?_
      refine ⟨((zZ k0).trans k1),_,rfl,s.pick _ ?_⟩
      exact List.Sublist.cons_cons _ (List.Sublist.refl _)
     ·skip
      refine bJ 13 [[],[0],[0,1],[0,1,2],[0,1,2,3],[0,1,2,3,4],[0,1,2,3,4,5],[0,1,2,3,4,5,6],[0,1,2,3,4,5,6,7],[0,1,2,3,4,5],[0,1,2,3,4,5,6,7,8,9],[0,1,2,3,4,5,6,7,8,9,10],[0,1,2,3,4,5,6,7,8,9,10,11]] h (by kernel_rfl) (by kernel_rfl) (by kernel_rfl) ?_
      have hx9:=hb.each _ (bh hdl9)
      refine ap h (ag (h.ev rfl)) rfl ?_;intro f h
      refine ap h (bN (h.ev rfl)) rfl ?_;intro f h
      refine bz ((hO.1.keep s.ext).el (d9) (by omega) (by decide) (D:=aD (L.getD d9 z3).1.me (L.getD d9 z3).1.pr (L.getD d9 z3).2.1 (L.getD d9 z3).2.2) (c6 L d9 hdl9)) h bS rfl (aA _ _ _ _) rfl ?_;intro f h
      refine cm h lz (fun w9 hE9=>aO (.bool true) (ef (L.getD d9 z3).1 (L.getD d9 z3).2.1 (L.getD d9 z3).2.2 w9 ((hO.2 _ (bh hdl9)).1.keep (s.ext.trans hE9)) ((hO.2 _ (bh hdl9)).2.keep (s.ext.trans hE9)) (by omega) (by omega)) (congrArg Value.bool k0)) rfl rfl ?_;intro f h
      refine ap h (aw (.bool false) (bg (h.ev rfl)) rfl) rfl ?_;intro f h
      refine ap h (ag (h.ev rfl)) rfl ?_;intro f h
      refine bi h rfl rfl rfl ?_
      refine ap h (ag (h.ev rfl)) rfl ?_;intro f h
      refine bi h rfl rfl rfl ?_
      refine ap h (bN (h.ev rfl)) rfl ?_;intro f h
      refine bi h rfl rfl rfl ?_
      refine bz ((hO.1.keep s.ext).el (d9) (by omega) (by decide) (D:=aD (L.getD d9 z3).1.me (L.getD d9 z3).1.pr (L.getD d9 z3).2.1 (L.getD d9 z3).2.2) (c6 L d9 hdl9)) h bS rfl (aA _ _ _ _) rfl ?_;intro f h
      refine bi h rfl rfl rfl ?_
      refine br 4 h s aU rfl rfl (rfl) rfl ?_;intro f h
      refine bi h rfl rfl rfl ?_
      refine cm h yi (fun w9 hE9=>aO (.bool false) (m6 (L.getD d9 z3).1 (L.getD d9 z3).2.1 (L.getD d9 z3).2.2 L vo w9 ((hO.2 _ (bh hdl9)).1.keep (s.ext.trans hE9)) ((hO.2 _ (bh hdl9)).2.keep (s.ext.trans hE9)) (by omega) (by omega) (hO.keep (s.ext.trans hE9)) hL) (by rw [k1];rfl)) rfl rfl ?_;intro f h
      refine bi h rfl rfl rfl ?_
      refine ap h (aw (.bool true) (bg (h.ev rfl)) rfl) rfl ?_;intro f h
      refine ap h (aE (h.ev rfl) (h.ev rfl)) rfl ?_;intro f h
      refine cn s fun w1 s=>?_
      refine ah ?_
      refine hK9 _ _ ?_
      refine wpIn_cond_true (h.ev rfl) ?_
      refine aj fun K11 hK11=>?_
      refine ae ?_
      refine bp 3 h s fa rfl rfl rfl (by simp) (rfl) ?_;intro w1 s
      refine ah ?_
      refine hK11 _ _ ?_
      refine wpIn_ret ?_
      refine bu ?_
      refine ⟨((zZ k0).trans k1),_,rfl,s.pick _ ?_⟩
      exact List.Sublist.cons_cons _ (List.Sublist.refl _)
   ·intro D9 A9 w2 hJ9 hq9 s
    obtain rfl:=hJ9
    replace h:Sl _ {f with defers:={target:=.collected D9,args:=#[]}::f.defers} _ [{target:=.collected D9,args:=#[]}]:=⟨h.size,by rw [h.defers],h.holds⟩
    refine bF ?_
    refine hK7 _ _ ?_
    refine aj fun K12 hK12=>?_
    refine ae ?_
    refine bp 3 h s fa rfl rfl rfl (by simp) (rfl) ?_;intro w1 s
    refine ah ?_
    refine hK12 _ _ ?_
    refine wpIn_ret ?_
    exact eR 3 0 rfl h s fa rfl rfl rfl rfl rfl (fun w9=>(congrArg Value.bool (xH r0 r1 hq9)).symm)
   ·intro D9 d9 A9 w2 hd9 hqd9 hq9 hJ9 s
    obtain rfl:=hJ9
    replace h:Sl _ {f with defers:={target:=.collected D9,args:=#[]}::f.defers} _ [{target:=.collected D9,args:=#[]}]:=⟨h.size,by rw [h.defers],h.holds⟩
    refine bu ?_
    refine aQ ?_
    exact eR 3 0 rfl h s fa rfl rfl rfl rfl rfl (fun w9=>(congrArg Value.bool (xu r0 r1 hd9 hqd9)).symm)
end Go.Proofs.YthggibfkgofncaaGreat
