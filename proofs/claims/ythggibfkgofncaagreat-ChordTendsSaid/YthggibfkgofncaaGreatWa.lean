/- What package chord answers for an overlay that is read: its nodes, its members, the node of a number, who is known, which may be. -/
import Derived.Test.YthggibfkgofncaaGreatVj
set_option linter.unusedVariables false
set_option linter.unusedSimpArgs false
set_option linter.unusedSectionVars false
namespace Go.Proofs.YthggibfkgofncaaGreat
open Go.RowKit
theorem pX (x:Int) (w:World):Calls Tryz.prog 111 [.int .i64 x].toArray w (cU w (is (.bool false))):=by
 refine bp Tryz.func111 rfl Tryz.ntmps111 rfl [(0,.int .i64 x)] (by simp) fun f h=>?_
 have s:=St.start w
 refine al fun K1 hK1=>?_
 refine ae ?_
 refine ac h (aj (h.ev rfl)) rfl ?_;intro f h
 refine ah ?_
 refine hK1 _ _ ?_
 refine al fun K2 hK2=>?_
 refine ae ?_
 refine ac h (ag (h.ev rfl)) rfl ?_;intro f h
 refine ac h (ag (h.ev rfl)) rfl ?_;intro f h
 refine ac h (av (.bool false) (c3 (h.ev rfl) (h.ev rfl)) (by simp)) rfl ?_;intro f h
 refine ac h (aj (h.ev rfl)) rfl ?_;intro f h
 refine ah ?_
 refine hK2 _ _ ?_
 refine wpIn_ret ?_
 exact bf rfl h s rfl (rfl)
theorem wK (x y:Int) (w:World):Calls Tryz.prog 74 [.int .i64 x,.int .i64 y].toArray w (cU w (is (.int .i64 (ei x y)))):=by
 refine bp Tryz.func74 rfl Tryz.ntmps74 rfl [(0,.int .i64 x),(1,.int .i64 y)] (by simp) fun f h=>?_
 have s:=St.start w
 refine al fun K1 hK1=>?_
 refine ae ?_
 refine ac h (aj (h.ev rfl)) rfl ?_;intro f h
 refine ah ?_
 refine hK1 _ _ ?_
 refine al fun K2 hK2=>?_
 refine ae ?_
 refine ac h (ag (h.ev rfl)) rfl ?_;intro f h
 refine aH h s wt (pX _ _) rfl rfl ?_;intro f w1 v9 hT hE h s;obtain rfl:=hT
 refine ac h (aj (h.ev rfl)) rfl ?_;intro f h
 refine ah ?_
 refine hK2 _ _ ?_
 refine al fun K3 hK3=>?_
 refine ae ?_
 refine ac h (ag (h.ev rfl)) rfl ?_;intro f h
 refine aH h s wt (pX _ _) rfl rfl ?_;intro f w1 v9 hT hE h s;obtain rfl:=hT
 refine ac h (aj (h.ev rfl)) rfl ?_;intro f h
 refine ah ?_
 refine hK3 _ _ ?_
 refine al fun K4 hK4=>?_
 refine al fun K5 hK5=>?_
 refine ae ?_
 refine ac h (ag (h.ev rfl)) rfl ?_;intro f h
 refine ah ?_
 refine hK5 _ _ ?_
 refine wpIn_cond_false (h.ev rfl) ?_
 refine wpIn_skip ?_
 refine hK4 _ _ ?_
 refine al fun K6 hK6=>?_
 refine al fun K7 hK7=>?_
 refine ae ?_
 refine ac h (ag (h.ev rfl)) rfl ?_;intro f h
 refine ah ?_
 refine hK7 _ _ ?_
 refine wpIn_cond_false (h.ev rfl) ?_
 refine wpIn_skip ?_
 refine hK6 _ _ ?_
 refine al fun K8 hK8=>?_
 refine al fun K9 hK9=>?_
 refine ae ?_
 refine ac h (ag (h.ev rfl)) rfl ?_;intro f h
 refine ac h (ag (h.ev rfl)) rfl ?_;intro f h
 refine ac h (bN (h.ev rfl) (h.ev rfl)) rfl ?_;intro f h
 refine ah ?_
 refine hK9 _ _ ?_
 refine bM h rfl (fun hc=>?_) (fun hc=>?_)
 ·have hc:=of_decide_eq_true hc
  refine al fun K10 hK10=>?_
  refine ae ?_
  refine ac h (aj (h.ev rfl)) rfl ?_;intro f h
  refine ah ?_
  refine hK10 _ _ ?_
  refine wpIn_ret ?_
  refine aW ?_
  exact bf rfl h s rfl (by show _=_;unfold ei;rw [if_pos hc])
 ·have hc1:=of_decide_eq_false hc
  refine wpIn_skip ?_
  refine hK8 _ _ ?_
  refine al fun K11 hK11=>?_
  refine al fun K12 hK12=>?_
  refine ae ?_
  refine ac h (ag (h.ev rfl)) rfl ?_;intro f h
  refine ac h (ag (h.ev rfl)) rfl ?_;intro f h
  refine ac h (c6 (h.ev rfl) (h.ev rfl)) rfl ?_;intro f h
  refine ah ?_
  refine hK12 _ _ ?_
  refine bM h rfl (fun hc=>?_) (fun hc=>?_)
  ·replace hc:=of_decide_eq_true hc
   refine al fun K13 hK13=>?_
   refine ae ?_
   refine ac h (aj (h.ev rfl)) rfl ?_;intro f h
   refine ah ?_
   refine hK13 _ _ ?_
   refine wpIn_ret ?_
   refine aW ?_
   exact bf rfl h s rfl (by show _=_;unfold ei;rw [if_neg (by omega),if_pos (by omega)])
  ·replace hc:=of_decide_eq_false hc
   refine wpIn_skip ?_
   refine hK11 _ _ ?_
   refine al fun K14 hK14=>?_
   refine ae ?_
   refine ac h (aj (h.ev rfl)) rfl ?_;intro f h
   refine ah ?_
   refine hK14 _ _ ?_
   refine wpIn_ret ?_
   exact bf rfl h s rfl (by show _=_;unfold ei;rw [if_neg (by omega),if_neg (by omega)])
theorem ml (x y:Mb) (w:World):Calls Tryz.prog 39 [.agg (aw x),.agg (aw y)].toArray w (cU w (is (.int .i64 (ei x.1 y.1)))):=by
 refine bp Tryz.func39 rfl Tryz.ntmps39 rfl [(0,.agg (aw x)),(1,.agg (aw y))] (by simp) fun f h=>?_
 have s:=St.start w
 refine al fun K1 hK1=>?_
 refine ae ?_
 refine bV ((aw x)) h s rfl rfl rfl ?_;intro f w1 b2 h s
 refine bV ((aw y)) h s rfl rfl rfl ?_;intro f w1 b3 h s
 refine ac h (aj (h.ev rfl)) rfl ?_;intro f h
 refine ah ?_
 refine hK1 _ _ ?_
 refine al fun K2 hK2=>?_
 refine ae ?_
 refine ac h (ai aJ (h.ev rfl)) rfl ?_;intro f h
 refine au (am (aU.of_own s 1 rfl) 0 (aP _)) h bz rfl rfl ?_;intro f h
 refine ac h (ai aJ (h.ev rfl)) rfl ?_;intro f h
 refine au (am (aU.of_own s 0 rfl) 0 (aP _)) h bz rfl rfl ?_;intro f h
 refine aH h s Da (wK _ _ _) rfl rfl ?_;intro f w1 v9 hT hE h s;obtain rfl:=hT
 refine ac h (aj (h.ev rfl)) rfl ?_;intro f h
 refine ah ?_
 refine hK2 _ _ ?_
 refine wpIn_ret ?_
 exact bf rfl h s rfl (rfl)
theorem n8  (w:World):Calls Tryz.prog 83 [].toArray w (cU w (is (.agg (aw de)))):=by
 refine bp Tryz.func83 rfl Tryz.ntmps83 rfl [] (by simp) fun f h=>?_
 have s:=St.start w
 refine al fun K1 hK1=>?_
 refine ae ?_
 refine bj (aw aT) h s cB rfl rfl ?_;intro f w1 b0 h s
 refine ah ?_
 refine hK1 _ _ ?_
 refine al fun K2 hK2=>?_
 refine ae ?_
 refine ac h (dO mO rfl) rfl ?_;intro f h
 refine ax 0 h s aL rfl rfl rfl (ak _) (ak _) (aS _) ?_;intro w1 s
 refine ah ?_
 refine hK2 _ _ ?_
 refine wpIn_ret ?_
 exact c8 0 rfl h s aL rfl rfl (ak _) (rfl)
theorem kh (l:List Mb) (vh:Value) (w:World) (hR:bq w vh 33 l.length (ap l)) (hln:l.length≤1000):Calls Tryz.prog 46 [vh,.func (.func 39) #[] #[]].toArray w (cU w (is (.bool (mF l)))):=by
 refine bp Tryz.func46 rfl Tryz.ntmps46 rfl [(0,vh),(1,.func (.func 39) #[] #[])] (by simp) fun f h=>?_
 have s:=St.start w
 refine al fun K1 hK1=>?_
 refine ae ?_
 refine ac h (aj (h.ev rfl)) rfl ?_;intro f h
 refine ah ?_
 refine hK1 _ _ ?_
 refine al fun K2 hK2=>?_
 refine al fun K3 hK3=>?_
 refine ae ?_
 refine ac h (ag (h.ev rfl)) rfl ?_;intro f h
 refine ac h (bc (hR.keep s.ext) Tryz.underlying36 (h.ev rfl)) rfl ?_;intro f h
 refine ac h (eU (h.ev rfl) (h.ev rfl) (by omega)) rfl ?_;intro f h
 refine ac h (aj (h.ev rfl)) rfl ?_;intro f h
 refine ah ?_
 refine hK3 _ _ ?_
 refine wpIn_block ?_
 refine wpIn_loop_ghost (fun nn aa ww=>∃ k:Nat,Sl 25 aa [(0,vh),(1,.func (.func 39) #[] #[]),(5,.int .i64 ((k:Int) - 1))]∧St w [] ww∧nn=k∧k≤l.length∧∀ j,k≤j→0<j→j<l.length→jF l j=false) ((l.length)) ⟨l.length,h.only ⟨rfl,rfl,aQ rfl (by omega),trivial⟩,s.as trivial,rfl,Nat.le_refl _,fun j h1 _ h2=>absurd h2 (by omega)⟩ ?_
 rintro _ f w1 ⟨k,h,s,hnn,hp0,hp1⟩
 refine al fun K4 hK4=>?_
 refine al fun K5 hK5=>?_
 refine ae ?_
 refine ac h (ag (h.ev rfl)) rfl ?_;intro f h
 refine ac h (c6 (h.ev rfl) (h.ev rfl)) rfl ?_;intro f h
 refine ah ?_
 refine hK5 _ _ ?_
 refine bM h rfl (fun hc=>?_) (fun hc=>?_)
 ·replace hc:=of_decide_eq_true hc
  refine wpIn_skip ?_
  refine hK4 _ _ ?_
  refine al fun K6 hK6=>?_
  refine wpIn_block ?_
  refine al fun K7 hK7=>?_
  cases hq:(jF l (k - 1):Bool)
  ·skip
   refine bI 12 [[],[],[],[1,2],[1,2,3],[],[],[6],[5,6,7],[5,6,7,8],[0,1,2,3,4,5,6,7,8,9],[0,1,2,3,4,5,6,7,8,9,10]] h (by kernel_rfl) (by kernel_rfl) (by kernel_rfl) ?_
   have h0:=hc
   have hk1:0<k - 1:=by omega
   refine ao h (ag (h.ev rfl)) rfl ?_;intro f h
   refine ao h (ag (h.ev rfl)) rfl ?_;intro f h
   refine ao h (ag (h.ev rfl)) rfl ?_;intro f h
   refine ao h (bZ (hR.keep s.ext) (k - 1) Tryz.underlying36 cz (h.ev rfl) (h.ev rfl) (by omega) (by omega)) rfl ?_;intro f h
   refine bk ((hR.keep s.ext).el (k - 1) (by omega) (by decide) (D:=aw (l.getD (k - 1) aT)) (cL l (k - 1) (by omega))) h aL rfl (ak _) rfl ?_;intro f h
   refine ao h (ag (h.ev rfl)) rfl ?_;intro f h
   refine ao h (ag (h.ev rfl)) rfl ?_;intro f h
   refine ao h (eU (h.ev rfl) (h.ev rfl) (by omega)) rfl ?_;intro f h
   refine ao h (bZ (hR.keep s.ext) (k - 1 - 1) Tryz.underlying36 cz (h.ev rfl) (h.ev rfl) (by omega) (by omega)) rfl ?_;intro f h
   refine bk ((hR.keep s.ext).el (k - 1 - 1) (by omega) (by decide) (D:=aw (l.getD (k - 1 - 1) aT)) (cL l (k - 1 - 1) (by omega))) h aL rfl (ak _) rfl ?_;intro f h
   refine oM [.agg (aw (l.getD (k - 1) aT)),.agg (aw (l.getD (k - 1 - 1) aT))] (caps:=[]) h xf rfl (fun w9 h9=>ml _ _ w9) rfl rfl ?_;intro f h
   refine ao h (av (.bool false) (bN (h.ev rfl) (h.ev rfl)) (congrArg Value.bool ((decide_eq_decide.2 (jm _ _)).trans hq))) rfl ?_;intro f h
   refine cq s fun w1 s=>?_
   refine ah ?_
   refine hK7 _ _ ?_
   refine wpIn_cond_false (h.ev rfl) ?_
   refine wpIn_skip ?_
   refine bF ?_
   refine hK6 _ _ ?_
   refine ae ?_
   refine ac h (ag (h.ev rfl)) rfl ?_;intro f h
   refine ac h (eU (h.ev rfl) (h.ev rfl) (by omega)) rfl ?_;intro f h
   refine ac h (aj (h.ev rfl)) rfl ?_;intro f h
   refine ah ?_
   refine bQ ?_
   exact ⟨_,by omega,⟨k - 1,h.only ⟨rfl,rfl,aQ rfl (by omega),trivial⟩,St.as s trivial,rfl,by omega,xv hp1 (by omega) hq⟩⟩
  ·skip
   refine bI 12 [[],[],[],[1,2],[1,2,3],[],[],[6],[5,6,7],[5,6,7,8],[0,1,2,3,4,5,6,7,8,9],[0,1,2,3,4,5,6,7,8,9,10]] h (by kernel_rfl) (by kernel_rfl) (by kernel_rfl) ?_
   have h0:=hc
   have hk1:0<k - 1:=by omega
   refine ao h (ag (h.ev rfl)) rfl ?_;intro f h
   refine ao h (ag (h.ev rfl)) rfl ?_;intro f h
   refine ao h (ag (h.ev rfl)) rfl ?_;intro f h
   refine ao h (bZ (hR.keep s.ext) (k - 1) Tryz.underlying36 cz (h.ev rfl) (h.ev rfl) (by omega) (by omega)) rfl ?_;intro f h
   refine bk ((hR.keep s.ext).el (k - 1) (by omega) (by decide) (D:=aw (l.getD (k - 1) aT)) (cL l (k - 1) (by omega))) h aL rfl (ak _) rfl ?_;intro f h
   refine ao h (ag (h.ev rfl)) rfl ?_;intro f h
   refine ao h (ag (h.ev rfl)) rfl ?_;intro f h
   refine ao h (eU (h.ev rfl) (h.ev rfl) (by omega)) rfl ?_;intro f h
   refine ao h (bZ (hR.keep s.ext) (k - 1 - 1) Tryz.underlying36 cz (h.ev rfl) (h.ev rfl) (by omega) (by omega)) rfl ?_;intro f h
   refine bk ((hR.keep s.ext).el (k - 1 - 1) (by omega) (by decide) (D:=aw (l.getD (k - 1 - 1) aT)) (cL l (k - 1 - 1) (by omega))) h aL rfl (ak _) rfl ?_;intro f h
   refine oM [.agg (aw (l.getD (k - 1) aT)),.agg (aw (l.getD (k - 1 - 1) aT))] (caps:=[]) h xf rfl (fun w9 h9=>ml _ _ w9) rfl rfl ?_;intro f h
   refine ao h (av (.bool true) (bN (h.ev rfl) (h.ev rfl)) (congrArg Value.bool ((decide_eq_decide.2 (jm _ _)).trans hq))) rfl ?_;intro f h
   refine cq s fun w1 s=>?_
   refine ah ?_
   refine hK7 _ _ ?_
   refine wpIn_cond_true (h.ev rfl) ?_
   refine al fun K8 hK8=>?_
   refine ae ?_
   refine ac h (aj (h.ev rfl)) rfl ?_;intro f h
   refine ah ?_
   refine hK8 _ _ ?_
   refine wpIn_ret ?_
   refine bU ?_
   refine aW ?_
   refine aW ?_
   refine bU ?_
   refine aW ?_
   exact bf rfl h s rfl (by show _=_;rw [q6 (by omega) hk1 hq])
 ·replace hc:=of_decide_eq_false hc
  refine wpIn_exit ?_
  refine bJ ?_
  refine bJ ?_
  refine cC ?_
  refine hK2 _ _ ?_
  refine al fun K9 hK9=>?_
  refine ae ?_
  refine ac h (aj (h.ev rfl)) rfl ?_;intro f h
  refine ah ?_
  refine hK9 _ _ ?_
  refine wpIn_ret ?_
  exact bf rfl h s rfl (by show _=_;rw [nh (fun j h1 h2=>hp1 j (by omega) h1 h2)])
theorem nO (l r:List Mb) (vh vu:Value) (w:World) (hR:bq w vh 33 l.length (ap l)) (hS:bq w vu 33 r.length (ap r)) (hln:l.length≤1000) (hln2:r.length≤1000):Calls Tryz.prog 51 [vh,vu].toArray w (cU w (is (.bool (decide (l=r))))):=by
 refine bp Tryz.func51 rfl Tryz.ntmps51 rfl [(0,vh),(1,vu)] (by simp) fun f h=>?_
 have s:=St.start w
 refine al fun K1 hK1=>?_
 refine ae ?_
 refine ac h (aj (h.ev rfl)) rfl ?_;intro f h
 refine ah ?_
 refine hK1 _ _ ?_
 refine al fun K2 hK2=>?_
 refine al fun K3 hK3=>?_
 refine ae ?_
 refine ac h (ag (h.ev rfl)) rfl ?_;intro f h
 refine ac h (bc (hR.keep s.ext) Tryz.underlying36 (h.ev rfl)) rfl ?_;intro f h
 refine ac h (ag (h.ev rfl)) rfl ?_;intro f h
 refine ac h (bc (hS.keep s.ext) Tryz.underlying36 (h.ev rfl)) rfl ?_;intro f h
 refine ac h (c3 (h.ev rfl) (h.ev rfl)) rfl ?_;intro f h
 refine ah ?_
 refine hK3 _ _ ?_
 refine bM h rfl (fun hc=>?_) (fun hc=>?_)
 ·replace hc:=hc
  refine al fun K4 hK4=>?_
  refine ae ?_
  refine ac h (aj (h.ev rfl)) rfl ?_;intro f h
  refine ah ?_
  refine hK4 _ _ ?_
  refine wpIn_ret ?_
  refine aW ?_
  exact bf rfl h s rfl ((by show _=_;rw [decide_eq_false (fun e=>by subst e;simp at hc)]))
 ·have hl9:l.length=r.length:=by have:=hc;simp at this;omega
  refine wpIn_skip ?_
  refine hK2 _ _ ?_
  refine al fun K5 hK5=>?_
  refine al fun K6 hK6=>?_
  refine ae ?_
  refine ac h (ag (h.ev rfl)) rfl ?_;intro f h
  refine ac h (bc (hR.keep s.ext) Tryz.underlying36 (h.ev rfl)) rfl ?_;intro f h
  refine ac h (ag (h.ev rfl)) rfl ?_;intro f h
  refine ah ?_
  refine hK6 _ _ ?_
  refine wpIn_block ?_
  refine wpIn_loop_ghost (fun nn aa ww=>∃ k:Nat,Sl 26 aa [(0,vh),(1,vu),(12,.int .i64 (l.length:Int)),(13,.int .i64 (k:Int))]∧St w [] ww∧nn=l.length - k∧k≤l.length∧∀ j,j<k→l.getD j aT=r.getD j aT) (l.length - (0)) ⟨0,h.only ⟨rfl,rfl,rfl,aQ rfl (by omega),trivial⟩,s.as trivial,rfl,Nat.zero_le _,fun j hj=>absurd hj (Nat.not_lt_zero _)⟩ ?_
  rintro _ f w1 ⟨k,h,s,hnn,hp0,hp1⟩
  refine al fun K7 hK7=>?_
  refine ae ?_
  refine ac h (bN (h.ev rfl) (h.ev rfl)) rfl ?_;intro f h
  refine ah ?_
  refine hK7 _ _ ?_
  refine al fun K8 hK8=>?_
  refine bM h rfl (fun hc=>?_) (fun hc=>?_)
  ·replace hc:=of_decide_eq_true hc
   refine wpIn_skip ?_
   refine hK8 _ _ ?_
   refine al fun K9 hK9=>?_
   refine wpIn_block ?_
   refine al fun K10 hK10=>?_
   refine ae ?_
   refine ac h (ag (h.ev rfl)) rfl ?_;intro f h
   refine ac h (aj (h.ev rfl)) rfl ?_;intro f h
   refine ah ?_
   refine hK10 _ _ ?_
   refine al fun K11 hK11=>?_
   refine bI 9 [[],[],[0,1],[0,1,2],[],[],[4,5],[4,5,6],[0,1,2,3,4,5,6,7]] h (by kernel_rfl) (by kernel_rfl) (by kernel_rfl) ?_
   have hka:k<l.length:=by omega
   have hkb:k<r.length:=by omega
   refine ao h (ag (h.ev rfl)) rfl ?_;intro f h
   refine ao h (ag (h.ev rfl)) rfl ?_;intro f h
   refine ao h (bZ (hR.keep s.ext) (k) Tryz.underlying36 cz (h.ev rfl) (h.ev rfl) (by omega) (by omega)) rfl ?_;intro f h
   refine bk ((hR.keep s.ext).el (k) (by omega) (by decide) (D:=aw (l.getD k aT)) (cL l k hka)) h aL rfl (ak _) rfl ?_;intro f h
   refine ao h (ag (h.ev rfl)) rfl ?_;intro f h
   refine ao h (ag (h.ev rfl)) rfl ?_;intro f h
   refine ao h (bZ (hS.keep s.ext) (k) Tryz.underlying36 cz (h.ev rfl) (h.ev rfl) (by omega) (by omega)) rfl ?_;intro f h
   refine bk ((hS.keep s.ext).el (k) (by omega) (by decide) (D:=aw (r.getD k aT)) (cL r k hkb)) h aL rfl (ak _) rfl ?_;intro f h
   refine ao h (eE (g4 _ _) (by kernel_rfl) (by decide) (h.ev rfl) (h.ev rfl) (decide ((l.getD k aT)=r.getD k aT)) (ee _ _)) rfl ?_;intro f h
   refine cq s fun w1 s=>?_
   refine ah ?_
   refine hK11 _ _ ?_
   refine bM h rfl (fun hc=>?_) (fun hc=>?_)
   ·refine al fun K12 hK12=>?_
    refine ae ?_
    refine ac h (aj (h.ev rfl)) rfl ?_;intro f h
    refine ah ?_
    refine hK12 _ _ ?_
    refine wpIn_ret ?_
    refine bU ?_
    refine aW ?_
    refine aW ?_
    refine bU ?_
    refine aW ?_
    exact bf rfl h s rfl ((by show _=_;rw [decide_eq_false (fun e=>by subst e;simp at hc)]))
   ·refine wpIn_skip ?_
    refine bF ?_
    refine hK9 _ _ ?_
    refine ae ?_
    refine ac h (cf (h.ev rfl) (h.ev rfl) (by omega)) rfl ?_;intro f h
    refine ac h (ag (h.ev rfl)) rfl ?_;intro f h
    refine ah ?_
    refine bQ ?_
    exact ⟨_,by omega,⟨k+1,h.only ⟨rfl,rfl,rfl,aQ rfl (by omega),trivial⟩,St.as s trivial,rfl,by omega,qY hp1 (by simpa using hc)⟩⟩
  ·replace hc:=of_decide_eq_false hc
   refine wpIn_exit ?_
   refine bJ ?_
   refine bJ ?_
   refine cC ?_
   refine hK5 _ _ ?_
   refine al fun K13 hK13=>?_
   refine ae ?_
   refine ac h (aj (h.ev rfl)) rfl ?_;intro f h
   refine ah ?_
   refine hK13 _ _ ?_
   refine wpIn_ret ?_
   exact bf rfl h s rfl ((by show _=_;rw [decide_eq_true (sw hl9 (fun j hj=>hp1 j (by omega)))]))
theorem fy (vo:Value) (B9:List Own) (w0 w:World) (s:St w0 B9 w):Calls Tryz.prog 47 [.agg #[vo]].toArray w (fun e w9=>∃ r,e=.returned r∧∃ bn,r=.func (.func 79) #[] #[.pointer (some ⟨bn,0,none⟩)]∧St w0 (.blk bn (.cells #[vo] 24)::B9) w9):=by
 refine eJ Tryz.func47 rfl Tryz.ntmps47 rfl [(0,.agg #[vo])] (by simp) fun f h=>?_
 refine al fun K1 hK1=>?_
 refine ae ?_
 refine bV (#[vo]) h s rfl rfl rfl ?_;intro f w1 b1 h s
 refine ac h (aj (h.ev rfl)) rfl ?_;intro f h
 refine ah ?_
 refine hK1 _ _ ?_
 refine al fun K2 hK2=>?_
 refine ae ?_
 refine ac h (dY [.pointer (some ⟨b1,0,none⟩)] (lQ h rfl)) rfl ?_;intro f h
 refine ac h (aj (h.ev rfl)) rfl ?_;intro f h
 refine ah ?_
 refine hK2 _ _ ?_
 refine wpIn_ret ?_
 exact jA rfl h rfl (⟨_,rfl,b1,rfl,s⟩)
theorem eR (m:Nat) (hm:m≤1000) (vo:Value) (xs:List Value) (wr:World) (hV:bq wr vo 68 m xs) (lp bx:Nat) (q:Nat→Bool) (GG:Nat→Own→Prop) (g0:Own) (w0 w:World) (s:St w0 [.blk bx (.cells #[vo] 24),g0] w) (hg0:GG 0 g0) (hY:∀ (d:Nat) (B9:List Own) (w9:World) (i:Nat) (g:Own),d<m→(∀ j,j<d→q j=false)→GG d g→St w0 B9 w9→B9[i]? = some g→ie Tryz.prog lp [Value.pointer (some (aN vo (d*68)))].toArray w9 (fun v w2=>v=.bool (!q d)∧∃ g',GG (d+1) g'∧St w0 (B9.set i g') w2)):Calls Tryz.prog 79 [.func (.yield lp) #[] #[],.pointer (some ⟨bx,0,none⟩)].toArray w (fun e w9=>(∃ v,e=.returned v)∧∃ d g,GG d g∧St w0 ([.blk bx (.cells #[vo] 24)]++[g]) w9∧d≤m∧(∀ j,j+1<d→q j=false)∧(lq q d=false→d=m)):=by
 refine eJ Tryz.func79 rfl Tryz.ntmps79 rfl [(0,.func (.yield lp) #[] #[]),(1,.pointer (some ⟨bx,0,none⟩))] (by simp) fun f h=>?_
 refine al fun K1 hK1=>?_
 refine ae ?_
 refine ac h (ai cp (h.ev rfl)) rfl ?_;intro f h
 refine au (V:=vo) (am (aU.of_own s 0 rfl) 0 rfl) h c4 rfl rfl ?_;intro f h
 refine ac h (bc (hV) Tryz.underlying22 (h.ev rfl)) rfl ?_;intro f h
 refine ac h (ag (h.ev rfl)) rfl ?_;intro f h
 refine ah ?_
 refine hK1 _ _ ?_
 refine wpIn_block ?_
 refine wpIn_loop_ghost (fun nn aa ww=>∃ d:Nat,∃ gg:Own,Sl 18 aa [(0,.func (.yield lp) #[] #[]),(1,.pointer (some ⟨bx,0,none⟩)),(6,.int .i64 (m:Int)),(7,.int .i64 (d:Int))]∧St w0 [.blk bx (.cells (#[vo]) 24),(gg)] ww∧nn=m - d∧d≤m∧GG d gg∧∀ j,j<d→q j=false) (m - (0)) ⟨0,g0,h.only ⟨rfl,rfl,rfl,aQ rfl (by omega),trivial⟩,s.as ⟨rfl,rfl,trivial⟩,rfl,Nat.zero_le _,hg0,fun j hj=>absurd hj (Nat.not_lt_zero _)⟩ ?_
 rintro _ f w1 ⟨d,gg,h,s,hnn,hp0,hp1,hp2⟩
 refine al fun K2 hK2=>?_
 refine ae ?_
 refine ac h (bN (h.ev rfl) (h.ev rfl)) rfl ?_;intro f h
 refine ah ?_
 refine hK2 _ _ ?_
 refine al fun K3 hK3=>?_
 refine bM h rfl (fun hc=>?_) (fun hc=>?_)
 ·replace hc:=of_decide_eq_true hc
  refine wpIn_skip ?_
  refine hK3 _ _ ?_
  refine al fun K4 hK4=>?_
  refine wpIn_block ?_
  refine al fun K5 hK5=>?_
  refine ae ?_
  have hdl:d<m:=by omega
  refine ac h (ag (h.ev rfl)) rfl ?_;intro f h
  refine ac h (aj (h.ev rfl)) rfl ?_;intro f h
  refine ah ?_
  refine hK5 _ _ ?_
  refine al fun K6 hK6=>?_
  cases hq:(q d:Bool)
  ·skip
   refine ae ?_
   refine ac h (ag (h.ev rfl)) rfl ?_;intro f h
   refine ac h (ai cp (h.ev rfl)) rfl ?_;intro f h
   refine au (V:=vo) (am (aU.of_own s 0 rfl) 0 rfl) h c4 rfl rfl ?_;intro f h
   refine ac h (ag (h.ev rfl)) rfl ?_;intro f h
   refine ac h (bZ (hV) (d) Tryz.underlying22 gc (h.ev rfl) (h.ev rfl) (by omega) (by omega)) rfl ?_;intro f h
   refine fD (V:=.bool true) (G:=GG (d+1)) [.pointer (some (aN vo (d*68)))] 1 h rfl rfl (by have h9:=hY d _ _ 1 gg hdl hp2 hp1 s rfl;rw [hq] at h9;exact h9) rfl ?_;intro f w1 g1 hg1 h s
   refine ac h (av (.bool false) (bh (h.ev rfl)) rfl) rfl ?_;intro f h
   refine ah ?_
   refine hK6 _ _ ?_
   refine wpIn_cond_false (h.ev rfl) ?_
   refine wpIn_skip ?_
   refine bF ?_
   refine hK4 _ _ ?_
   refine ae ?_
   refine ac h (cf (h.ev rfl) (h.ev rfl) (by omega)) rfl ?_;intro f h
   refine ac h (ag (h.ev rfl)) rfl ?_;intro f h
   refine ah ?_
   refine bQ ?_
   exact ⟨_,by omega,⟨d+1,g1,h.only ⟨rfl,rfl,rfl,aQ rfl (by omega),trivial⟩,St.as s ⟨rfl,rfl,trivial⟩,rfl,by omega,hg1,dm hp2 hq⟩⟩
  ·skip
   refine ae ?_
   refine ac h (ag (h.ev rfl)) rfl ?_;intro f h
   refine ac h (ai cp (h.ev rfl)) rfl ?_;intro f h
   refine au (V:=vo) (am (aU.of_own s 0 rfl) 0 rfl) h c4 rfl rfl ?_;intro f h
   refine ac h (ag (h.ev rfl)) rfl ?_;intro f h
   refine ac h (bZ (hV) (d) Tryz.underlying22 gc (h.ev rfl) (h.ev rfl) (by omega) (by omega)) rfl ?_;intro f h
   refine fD (V:=.bool false) (G:=GG (d+1)) [.pointer (some (aN vo (d*68)))] 1 h rfl rfl (by have h9:=hY d _ _ 1 gg hdl hp2 hp1 s rfl;rw [hq] at h9;exact h9) rfl ?_;intro f w1 g1 hg1 h s
   refine ac h (av (.bool true) (bh (h.ev rfl)) rfl) rfl ?_;intro f h
   refine ah ?_
   refine hK6 _ _ ?_
   refine wpIn_cond_true (h.ev rfl) ?_
   refine wpIn_ret ?_
   refine bU ?_
   refine aW ?_
   refine aW ?_
   refine bU ?_
   exact j3 rfl h (⟨⟨_,rfl⟩,d+1,g1,hg1,s,by omega,fun j hj=>hp2 j (by omega),fun h9=>absurd (hq.symm.trans h9) (by decide)⟩)
 ·replace hc:=of_decide_eq_false hc
  refine wpIn_exit ?_
  refine bJ ?_
  refine bJ ?_
  refine cC ?_
  exact dW rfl h (⟨⟨_,rfl⟩,d,gg,hp1,s,hp0,fun j hj=>hp2 j (by omega),fun _=>by omega⟩)
theorem dV (L:List N3) (vo:Value) (no:Int) (w:World) (hO:dN w vo L) (hL:L.length≤40):Calls Tryz.prog 35 [.agg #[vo],.int .i64 no].toArray w (cU w (is (rp vo L no))):=by
 refine ep Tryz.func35 rfl Tryz.ntmps35 rfl [(0,.agg #[vo]),(1,.int .i64 no)] (by simp) fun f h=>?_
 have s:=St.start w
 refine al fun K1 hK1=>?_
 refine ae ?_
 refine bV (#[vo]) h s rfl rfl rfl ?_;intro f w1 b2 h s
 refine bV (#[.int .i64 no]) h s rfl rfl rfl ?_;intro f w1 b3 h s
 refine bj (#[.pointer none]) h s BM rfl rfl ?_;intro f w1 b4 h s
 refine ah ?_
 refine hK1 _ _ ?_
 refine al fun K2 hK2=>?_
 refine al fun K3 hK3=>?_
 refine ae ?_
 refine ar 2 h s a6 rfl rfl (rfl) rfl ?_;intro f h
 refine dq [.agg #[vo]] h lA (fy vo _ _ _ s) rfl rfl ?_;rintro f w1 r ⟨bn,rfl,s⟩ h
 refine ah ?_
 refine hK3 _ _ ?_
 refine wpIn_block ?_
 refine ed (fun d A9=>A9=[.blk b4 (.cells #[Dz vo (qL L no) d] 54),.blk b3 (.cells #[.int .i64 no] 3),.blk b2 (.cells #[vo] 24)]) [.blk b4 (.cells #[.pointer none] 54),.blk b3 (.cells #[.int .i64 no] 3),.blk b2 (.cells #[vo] 24)] [.blk bn (.cells #[vo] 24)] (L.length) (qL L no) (fun d=>[Value.pointer (some (aN vo (d*68)))]) h s rfl lm (List.Perm.refl _) (rfl) (fun _=>rfl) ?_ ?_ ?_ ?_
 ·intro lp w2 GG g0 hg0 s2 hY;exact eR L.length (by omega) vo _ _ hO.1 lp bn (qL L no) GG g0 w w2 s2 hg0 hY
 ·intro lp D9 d9 rc R9 A9 w2 hd9 hq9 hJ9 s
  obtain rfl:=hJ9
  have h:=Sl.round1 (p:=8) (V:=.pointer (some (aN vo (d9*68)))) h rfl
  have hdl9:=hd9
  refine ae ?_
  refine ac h (aj (h.ev rfl)) rfl ?_;intro f h
  refine ah ?_
  refine bQ ?_
  refine ⟨_,s,fun w3 s=>?_⟩
  refine wpIn_block ?_
  refine al fun K4 hK4=>?_
  cases hq:(qL L no d9:Bool)
  ·skip
   refine bI 7 [[],[0],[0,1],[0,1,2],[0,1,2,3],[],[0,1,2,3,4,5]] h (by kernel_rfl) (by kernel_rfl) (by kernel_rfl) ?_
   refine ao h (ag (h.ev rfl)) rfl ?_;intro f h
   refine ao h (bo (h.ev rfl)) rfl ?_;intro f h
   refine ao h (bG aR (h.ev rfl) ((hO.1.keep s.ext).some (by omega))) rfl ?_;intro f h
   refine ao h (bG aJ (h.ev rfl) ((hO.1.keep s.ext).some (by omega))) rfl ?_;intro f h
   refine a2 (V:=.int .i64 (L.getD d9 z3).1.me.1) (dt (hO.1.keep s.ext) (d9*68+0) (lg L d9 hdl9)) h bz rfl rfl ?_;intro f h
   refine d5 3 h s bz rfl rfl (rfl) rfl ?_;intro f h
   refine ao h (av (.bool false) (bX (h.ev rfl) (h.ev rfl)) (congrArg Value.bool hq)) rfl ?_;intro f h
   refine cq s fun w1 s=>?_
   refine ah ?_
   refine hK4 _ _ ?_
   refine wpIn_cond_false (h.ev rfl) ?_
   refine wpIn_skip ?_
   refine bF ?_
   replace s:=s.recell (D:=#[Dz vo (qL L no) (d9+1)]) 2 rfl (by rw [zx hq9];show _=#[bif qL L no d9 then _ else _];rw [hq];rfl)
   refine ⟨by first|exact hq|rfl,_,rfl,s.pick _ ?_⟩
   exact List.Sublist.cons_cons _ (List.Sublist.refl _)
  ·skip
   refine bI 7 [[],[0],[0,1],[0,1,2],[0,1,2,3],[],[0,1,2,3,4,5]] h (by kernel_rfl) (by kernel_rfl) (by kernel_rfl) ?_
   refine ao h (ag (h.ev rfl)) rfl ?_;intro f h
   refine ao h (bo (h.ev rfl)) rfl ?_;intro f h
   refine ao h (bG aR (h.ev rfl) ((hO.1.keep s.ext).some (by omega))) rfl ?_;intro f h
   refine ao h (bG aJ (h.ev rfl) ((hO.1.keep s.ext).some (by omega))) rfl ?_;intro f h
   refine a2 (V:=.int .i64 (L.getD d9 z3).1.me.1) (dt (hO.1.keep s.ext) (d9*68+0) (lg L d9 hdl9)) h bz rfl rfl ?_;intro f h
   refine d5 3 h s bz rfl rfl (rfl) rfl ?_;intro f h
   refine ao h (av (.bool true) (bX (h.ev rfl) (h.ev rfl)) (congrArg Value.bool hq)) rfl ?_;intro f h
   refine cq s fun w1 s=>?_
   refine ah ?_
   refine hK4 _ _ ?_
   refine wpIn_cond_true (h.ev rfl) ?_
   refine al fun K5 hK5=>?_
   refine ae ?_
   refine ac h (ag (h.ev rfl)) rfl ?_;intro f h
   refine bg 2 h s tj rfl rfl rfl (by simp) (rfl) ?_;intro w1 s
   refine ah ?_
   refine hK5 _ _ ?_
   refine wpIn_ret ?_
   refine bU ?_
   replace s:=s.recell (D:=#[Dz vo (qL L no) (d9+1)]) 2 rfl (by show _=#[bif qL L no d9 then _ else _];rw [hq];rfl)
   refine ⟨by first|exact hq|rfl,_,rfl,s.pick _ ?_⟩
   exact List.Sublist.cons_cons _ (List.Sublist.refl _)
 ·intro D9 A9 w2 hJ9 hq9 s
  obtain rfl:=hJ9
  replace h:Sl _ {f with defers:={target:=.collected D9,args:=#[]}::f.defers} _ [{target:=.collected D9,args:=#[]}]:=⟨h.size,by rw [h.defers],h.holds⟩
  refine bF ?_
  refine hK2 _ _ ?_
  refine al fun K6 hK6=>?_
  refine ae ?_
  refine bg 2 h s tj rfl rfl rfl (by simp) (rfl) ?_;intro w1 s
  refine ah ?_
  refine hK6 _ _ ?_
  refine wpIn_ret ?_
  exact ft 2 0 rfl h s tj rfl rfl rfl rfl rfl (fun w9=>(DI hq9).symm)
 ·intro D9 d9 A9 w2 hd9 hqd9 hq9 hJ9 s
  obtain rfl:=hJ9
  replace h:Sl _ {f with defers:={target:=.collected D9,args:=#[]}::f.defers} _ [{target:=.collected D9,args:=#[]}]:=⟨h.size,by rw [h.defers],h.holds⟩
  refine bU ?_
  refine aW ?_
  exact ft 2 0 rfl h s tj rfl rfl rfl rfl rfl (fun w9=>CZ hd9 hq9 hqd9)
theorem jT (L:List N3) (vo:Value) (w:World) (hO:dN w vo L) (hL:L.length≤40):Calls Tryz.prog 15 [.agg #[vo]].toArray w (cU w (fun v w'=>cQ w' w.heap.size 28 33 v (aM L).length (ap (aM L)))):=by
 refine ep Tryz.func15 rfl Tryz.ntmps15 rfl [(0,.agg #[vo])] (by simp) fun f h=>?_
 have s:=St.start w
 refine al fun K1 hK1=>?_
 refine ae ?_
 refine bV (#[vo]) h s rfl rfl rfl ?_;intro f w1 b1 h s
 refine ac h (aj (h.ev rfl)) rfl ?_;intro f h
 refine ah ?_
 refine hK1 _ _ ?_
 refine al fun K2 hK2=>?_
 refine ae ?_
 refine bj (#[.slice none 0 0]) h s rJ rfl rfl ?_;intro f w1 b3 h s
 refine ah ?_
 refine hK2 _ _ ?_
 refine al fun K3 hK3=>?_
 refine al fun K4 hK4=>?_
 refine ae ?_
 refine ar 1 h s a6 rfl rfl (rfl) rfl ?_;intro f h
 replace s:=s.nilSl 28 33
 refine dq [.agg #[vo]] h lA (fy vo _ _ _ s) rfl rfl ?_;rintro f w1 r ⟨bn,rfl,s⟩ h
 refine ah ?_
 refine hK4 _ _ ?_
 refine wpIn_block ?_
 refine ed (fun d A9=>∃ v8:Value,A9=[.sl v8 28 33 (aM (L.take d)).length (ap (aM (L.take d))),.blk b3 (.cells #[v8] 36),.blk b1 (.cells #[vo] 24)]) [.sl (Value.slice none 0 0) 28 33 (aM (L.take 0)).length (ap (aM (L.take 0))),.blk b3 (.cells #[(Value.slice none 0 0)] 36),.blk b1 (.cells #[vo] 24)] [.blk bn (.cells #[vo] 24)] (L.length) (fun _=>false) (fun d=>[Value.pointer (some (aN vo (d*68)))]) h s rfl lm (List.Perm.refl _) (⟨_,rfl⟩) (fun _=>rfl) ?_ ?_ ?_ ?_
 ·intro lp w2 GG g0 hg0 s2 hY;exact eR L.length (by omega) vo _ _ hO.1 lp bn (fun _=>false) GG g0 w w2 s2 hg0 hY
 ·intro lp D9 d9 rc R9 A9 w2 hd9 hq9 hJ9 s
  obtain ⟨v8,rfl⟩:=hJ9
  have h:=Sl.round1 (p:=7) (V:=.pointer (some (aN vo (d9*68)))) h rfl
  have hdl9:=hd9
  refine ae ?_
  refine ac h (aj (h.ev rfl)) rfl ?_;intro f h
  refine ah ?_
  refine bQ ?_
  refine ⟨_,s,fun w3 s=>?_⟩
  refine wpIn_block ?_
  have hbs:=s.ext.le
  refine' jh 6 [1,2,3] [] [[],[],[1],[1,2],[1,2,3],[1,2,3,4],[0,1,2,3,4,5],[0,1,2,3,4,5,6]] (is _::is _::is _::is _::is _::(fun v w9=>bq w9 v 33 1 ((aw (L.getD d9 z3).1.me).toList))::is undef::is undef::[]) (fun _=>True) h s (by kernel_rfl) (by kernel_rfl) (by kernel_rfl) (by kernel_rfl) rfl (fun _ _ h _=>h) (trivial) ⟨⟨_,rfl⟩,⟨_,rfl⟩,⟨_,rfl⟩,trivial⟩ ⟨bu _,bu _,bu _,bu _,bu _,bq.mono,bu _,bu _,trivial⟩ (And.intro ?_ (And.intro ?_ (And.intro ?_ (And.intro ?_ (And.intro ?_ (And.intro ?_ (And.intro ?_ (And.intro ?_ (trivial))))))))) ?_
  rotate_left 5
  ·refine cr 8 rfl (by decide) (by decide) ?_
   intro f9 w2 hE hs hd9 hl
   have e3:f9.tmps.getD 3 undef=_:=di hl 3 (by kernel_rfl) (by kernel_rfl) (h.holds 3 _ rfl)
   have h:=ay [(3,_)] hs hd9 (holds_lk ⟨e3,trivial⟩)
   have s:=s.more hE
   have z:=St.start w2
   refine cw 3 h s bE rfl rfl (rfl) rfl ?_;intro f h
   refine ah ?_
   have e9:=h.holds 8 _ rfl
   refine ⟨?_,Ext.refl _,fun h9=>absurd h9 (by decide)⟩
   refine e9.trans ?_
   exact rfl
  ·refine dQ 9 rfl (by decide) ?_
   intro f9 w2 hE hs hl
   have e4:f9.tmps.getD 4 undef=_:=di hl 4 (by kernel_rfl) (by kernel_rfl) (h.holds 4 _ rfl)
   have h:=ay [(4,_)] hs rfl (holds_lk ⟨e4,trivial⟩)
   refine ac h (ag (h.ev rfl)) rfl ?_;intro f h
   refine ah ?_
   have e9:=h.holds 9 _ rfl
   refine ⟨?_,rfl⟩
   refine e9.trans ?_
   exact rfl
  ·refine dQ 10 rfl (by decide) ?_
   intro f9 w2 hE hs hl
   have e9:f9.tmps.getD 9 undef=_:=cc hl 9 1 (by kernel_rfl) (by kernel_rfl)
   have h:=ay [(9,_)] hs rfl (holds_lk ⟨e9,trivial⟩)
   refine ac h (bo (h.ev rfl)) rfl ?_;intro f h
   refine ah ?_
   have e9:=h.holds 10 _ rfl
   refine ⟨?_,rfl⟩
   refine e9.trans ?_
   exact rfl
  ·refine dQ 11 rfl (by decide) ?_
   intro f9 w2 hE hs hl
   have e10:f9.tmps.getD 10 undef=_:=cc hl 10 2 (by kernel_rfl) (by kernel_rfl)
   have h:=ay [(10,_)] hs rfl (holds_lk ⟨e10,trivial⟩)
   refine ac h (bG aR (h.ev rfl) ((hO.1.keep s.ext).some (by omega))) rfl ?_;intro f h
   refine ah ?_
   have e9:=h.holds 11 _ rfl
   refine ⟨?_,rfl⟩
   refine e9.trans ?_
   exact rfl
  ·refine cr 12 rfl (by decide) (by decide) ?_
   intro f9 w2 hE hs hd9 hl
   have e11:f9.tmps.getD 11 undef=_:=cc hl 11 3 (by kernel_rfl) (by kernel_rfl)
   have h:=ay [(11,_)] hs hd9 (holds_lk ⟨e11,trivial⟩)
   have s:=s.more hE
   have z:=St.start w2
   refine aB (bq.elF (hO.1.keep s.ext) (d9) 0 33 (by omega) (by decide) (C:=aC (L.getD d9 z3).1.me (L.getD d9 z3).1.pr (L.getD d9 z3).2.1 (L.getD d9 z3).2.2) (df L d9 hdl9) (D:=aw (L.getD d9 z3).1.me) (bT _ _ _ _)) h aL rfl (ak _) rfl ?_;intro f h
   refine ah ?_
   have e9:=h.holds 12 _ rfl
   refine ⟨?_,Ext.refl _,fun h9=>absurd h9 (by decide)⟩
   refine e9.trans ?_
   exact rfl
  ·refine cr 13 rfl (by decide) (by decide) ?_
   intro f9 w2 hE hs hd9 hl
   have e12:f9.tmps.getD 12 undef=_:=cc hl 12 4 (by kernel_rfl) (by kernel_rfl)
   have h:=ay [(12,_)] hs hd9 (holds_lk ⟨e12,trivial⟩)
   have s:=s.more hE
   have z:=St.start w2
   refine cg (vs:=[.agg (aw (L.getD d9 z3).1.me)]) [.tmp 12] h z Tryz.underlying36 cP rfl rfl (eS _) rfl rfl rfl ?_;intro f w1 v9 h z
   refine ah ?_
   exact CL (h.holds 13 _ rfl) z _ (c0 _)
  ·exact fG (by decide) (by decide)
  ·exact fG (by decide) (by decide)
  ·intro f9 w2 hE hs hd9 hWp hT hR hFr hDj
   obtain ⟨u13,hu13⟩:∃ v,f9.tmps.getD 13 undef=v:=⟨_,rfl⟩
   have e13:(fun v w9=>bq w9 v 33 1 ((aw (L.getD d9 z3).1.me).toList)) u13 w2:=by rw [← hu13];exact hT 5 13 (by decide) rfl
   replace h:=sl_new (ops:=_) [(8,_),(9,_),(10,_),(11,_),(12,_),(13,u13)] h hs hd9 hR ⟨hT 0 8 (by decide) rfl,hT 1 9 (by decide) rfl,hT 2 10 (by decide) rfl,hT 3 11 (by decide) rfl,hT 4 12 (by decide) rfl,hu13,trivial⟩ (by kernel_rfl)
   replace s:=s.more hE
   clear hT hR hFr hDj
   refine fZ.of ?_
   refine eQ 2 (e13) h s Tryz.underlying36 cP rfl rfl rfl (aS _) (by rw [List.length_map,List.length_take];unfold maxLen;omega) (by rw [List.length_map,List.length_take];omega) rfl ?_;intro f w1 v14 h s
   refine bg 3 h s bE rfl rfl rfl (by simp) (aX (s.getSl 2 rfl)) ?_;intro w1 s
   refine ah ?_
   refine bF ?_
   replace s:=s.resl (m:=(aM (L.take (d9+1))).length) (ys:=ap (aM (L.take (d9+1)))) 2 rfl (by rw [j2 hdl9,List.length_append];rfl) (by rw [j2 hdl9,gJ])
   refine ⟨rfl,_,⟨v14,rfl⟩,s.pick _ ?_⟩
   exact List.Sublist.cons_cons _ (List.Sublist.refl _)
 ·intro D9 A9 w2 hJ9 hq9 s
  obtain ⟨v8,rfl⟩:=hJ9
  replace h:Sl _ {f with defers:={target:=.collected D9,args:=#[]}::f.defers} _ [{target:=.collected D9,args:=#[]}]:=⟨h.size,by rw [h.defers],h.holds⟩
  rw [List.take_length] at s
  refine bF ?_
  refine hK3 _ _ ?_
  refine al fun K5 hK5=>?_
  refine ae ?_
  refine cw 3 h s bE rfl rfl (rfl) rfl ?_;intro f h
  refine ac h (aj (h.ev rfl)) rfl ?_;intro f h
  refine ah ?_
  refine hK5 _ _ ?_
  refine wpIn_ret ?_
  exact mR 0 rfl h s rfl rfl (fun w9 s9=>s9.getSl 2 rfl)
 ·intro D9 d9 A9 w2 hd9 hqd9 hq9 hJ9 s
  cases hqd9
theorem rg (a9:Option Addr) (n9 c9:Nat) (B9:List Own) (w0 w:World) (s:St w0 B9 w):Calls Tryz.prog 99 [.slice a9 n9 c9].toArray w (fun e w9=>∃ r,e=.returned r∧∃ bv,r=.func (.func 130) #[] #[.pointer (some ⟨bv,0,none⟩)]∧St w0 (.blk bv (.cells #[.slice a9 n9 c9] 36)::B9) w9):=by
 refine eJ Tryz.func99 rfl Tryz.ntmps99 rfl [(0,.slice a9 n9 c9)] (by simp) fun f h=>?_
 refine al fun K1 hK1=>?_
 refine ae ?_
 refine bV (#[.slice a9 n9 c9]) h s rfl rfl rfl ?_;intro f w1 b1 h s
 refine ac h (aj (h.ev rfl)) rfl ?_;intro f h
 refine ah ?_
 refine hK1 _ _ ?_
 refine al fun K2 hK2=>?_
 refine ae ?_
 refine ac h (dY [.pointer (some ⟨b1,0,none⟩)] (lQ h rfl)) rfl ?_;intro f h
 refine ac h (aj (h.ev rfl)) rfl ?_;intro f h
 refine ah ?_
 refine hK2 _ _ ?_
 refine wpIn_ret ?_
 exact jA rfl h rfl (⟨_,rfl,b1,rfl,s⟩)
theorem pP (l:List Mb) (vh:Value) (B9:List Own) (w0 w:World) (s:St w0 B9 w) (hR:bq w vh 33 l.length (ap l)):Calls Tryz.prog 99 [vh].toArray w (fun e w9=>∃ r,e=.returned r∧∃ bv,r=.func (.func 130) #[] #[.pointer (some ⟨bv,0,none⟩)]∧St w0 (.blk bv (.cells #[vh] 36)::B9) w9):=by
 obtain ⟨a,c,rfl⟩:=hR.len
 exact rg a _ c B9 w0 w s
theorem jj (l:List Mb) (hln:l.length≤1000) (vh:Value) (lp bx:Nat) (q:Nat→Bool) (GG:Nat→Own→Prop) (g0:Own) (w0 w:World) (s:St w0 [.blk bx (.cells #[vh] 36),.sl vh 28 33 l.length (ap l),g0] w) (hg0:GG 0 g0) (hY:∀ (d:Nat) (B9:List Own) (w9:World) (i:Nat) (g:Own),d<l.length→(∀ j,j<d→q j=false)→GG d g→St w0 B9 w9→B9[i]? = some g→ie Tryz.prog lp [Value.agg (aw (l.getD d aT))].toArray w9 (fun v w2=>v=.bool (!q d)∧∃ g',GG (d+1) g'∧St w0 (B9.set i g') w2)):Calls Tryz.prog 130 [.func (.yield lp) #[] #[],.pointer (some ⟨bx,0,none⟩)].toArray w (fun e w9=>(∃ v,e=.returned v)∧∃ d g,GG d g∧St w0 ([.blk bx (.cells #[vh] 36),.sl vh 28 33 l.length (ap l)]++[g]) w9∧d≤l.length∧(∀ j,j+1<d→q j=false)∧(lq q d=false→d=l.length)):=by
 refine eJ Tryz.func130 rfl Tryz.ntmps130 rfl [(0,.func (.yield lp) #[] #[]),(1,.pointer (some ⟨bx,0,none⟩))] (by simp) fun f h=>?_
 refine al fun K1 hK1=>?_
 refine ae ?_
 refine cw 0 h s bE rfl rfl (rfl) rfl ?_;intro f h
 refine cK 1 h s Tryz.underlying36 rfl rfl rfl ?_;intro f h
 refine ac h (ag (h.ev rfl)) rfl ?_;intro f h
 refine ah ?_
 refine hK1 _ _ ?_
 refine wpIn_block ?_
 refine wpIn_loop_ghost (fun nn aa ww=>∃ d:Nat,∃ gg:Own,Sl 16 aa [(0,.func (.yield lp) #[] #[]),(1,.pointer (some ⟨bx,0,none⟩)),(5,vh),(6,.int .i64 (l.length:Int)),(7,.int .i64 (d:Int))]∧St w0 [.blk bx (.cells (#[vh]) 36),.sl vh 28 33 l.length (ap l),(gg)] ww∧nn=l.length - d∧d≤l.length∧GG d gg∧∀ j,j<d→q j=false) (l.length - (0)) ⟨0,g0,h.only ⟨rfl,rfl,rfl,rfl,aQ rfl (by omega),trivial⟩,s.as ⟨rfl,rfl,rfl,trivial⟩,rfl,Nat.zero_le _,hg0,fun j hj=>absurd hj (Nat.not_lt_zero _)⟩ ?_
 rintro _ f w1 ⟨d,gg,h,s,hnn,hp0,hp1,hp2⟩
 refine al fun K2 hK2=>?_
 refine ae ?_
 refine ac h (bN (h.ev rfl) (h.ev rfl)) rfl ?_;intro f h
 refine ah ?_
 refine hK2 _ _ ?_
 refine al fun K3 hK3=>?_
 refine bM h rfl (fun hc=>?_) (fun hc=>?_)
 ·replace hc:=of_decide_eq_true hc
  refine wpIn_skip ?_
  refine hK3 _ _ ?_
  refine al fun K4 hK4=>?_
  refine wpIn_block ?_
  refine al fun K5 hK5=>?_
  refine ae ?_
  have hdl:d<l.length:=by omega
  refine ac h (bZ (bq.of_own (s.getSl 1 rfl)) (d) Tryz.underlying36 cz (h.ev rfl) (h.ev rfl) (by omega) (by omega)) rfl ?_;intro f h
  refine aB ((bq.of_own (s.getSl 1 rfl)).el (d) (by omega) (by decide) (D:=aw (l.getD d aT)) (cL l d hdl)) h aL rfl (ak _) rfl ?_;intro f h
  refine bj (aw aT) h s cB rfl rfl ?_;intro f w1 b4 h s
  refine ax 0 h s aL rfl rfl rfl (ak _) (ak _) (aS _) ?_;intro w1 s
  refine ah ?_
  refine hK5 _ _ ?_
  refine al fun K6 hK6=>?_
  cases hq:(q d:Bool)
  ·skip
   refine ae ?_
   refine ac h (ag (h.ev rfl)) rfl ?_;intro f h
   refine ar 0 h s aL rfl rfl (ak _) rfl ?_;intro f h
   refine fD (V:=.bool true) (G:=GG (d+1)) [.agg (aw (l.getD d aT))] 3 h rfl rfl (by have h9:=hY d _ _ 3 gg hdl hp2 hp1 s rfl;rw [hq] at h9;exact h9) rfl ?_;intro f w1 g1 hg1 h s
   refine ac h (av (.bool false) (bh (h.ev rfl)) rfl) rfl ?_;intro f h
   refine ah ?_
   refine hK6 _ _ ?_
   refine wpIn_cond_false (h.ev rfl) ?_
   refine wpIn_skip ?_
   refine bF ?_
   refine hK4 _ _ ?_
   refine ae ?_
   refine ac h (cf (h.ev rfl) (h.ev rfl) (by omega)) rfl ?_;intro f h
   refine ac h (ag (h.ev rfl)) rfl ?_;intro f h
   refine ah ?_
   refine bQ ?_
   exact ⟨_,by omega,⟨d+1,g1,h.only ⟨rfl,rfl,rfl,rfl,aQ rfl (by omega),trivial⟩,St.as (s.pick _ (List.sublist_append_right [_] _)) ⟨rfl,rfl,rfl,trivial⟩,rfl,by omega,hg1,dm hp2 hq⟩⟩
  ·skip
   refine ae ?_
   refine ac h (ag (h.ev rfl)) rfl ?_;intro f h
   refine ar 0 h s aL rfl rfl (ak _) rfl ?_;intro f h
   refine fD (V:=.bool false) (G:=GG (d+1)) [.agg (aw (l.getD d aT))] 3 h rfl rfl (by have h9:=hY d _ _ 3 gg hdl hp2 hp1 s rfl;rw [hq] at h9;exact h9) rfl ?_;intro f w1 g1 hg1 h s
   refine ac h (av (.bool true) (bh (h.ev rfl)) rfl) rfl ?_;intro f h
   refine ah ?_
   refine hK6 _ _ ?_
   refine wpIn_cond_true (h.ev rfl) ?_
   refine wpIn_ret ?_
   refine bU ?_
   refine aW ?_
   refine aW ?_
   refine bU ?_
   exact j3 rfl h (⟨⟨_,rfl⟩,d+1,g1,hg1,s.pick _ (List.sublist_cons_self _ _),by omega,fun j hj=>hp2 j (by omega),fun h9=>absurd (hq.symm.trans h9) (by decide)⟩)
 ·replace hc:=of_decide_eq_false hc
  refine wpIn_exit ?_
  refine bJ ?_
  refine bJ ?_
  refine cC ?_
  exact dW rfl h (⟨⟨_,rfl⟩,d,gg,hp1,s,hp0,fun j hj=>hp2 j (by omega),fun _=>by omega⟩)
theorem uB (n:Nat) (hn:n≤1000) (w:World):Calls Tryz.prog 131 [.slice none 0 0,.int .i64 (n:Int)].toArray w (cU w (fun v w'=>cQ w' w.heap.size 28 33 v 0 [])):=by
 refine bp Tryz.func131 rfl Tryz.ntmps131 rfl [(0,.slice none 0 0),(1,.int .i64 (n:Int))] (by simp) fun f h=>?_
 have s:=St.start w
 refine al fun K1 hK1=>?_
 refine ae ?_
 refine ac h (aj (h.ev rfl)) rfl ?_;intro f h
 refine ah ?_
 refine hK1 _ _ ?_
 refine al fun K2 hK2=>?_
 refine al fun K3 hK3=>?_
 refine ae ?_
 refine ac h (ag (h.ev rfl)) rfl ?_;intro f h
 refine ac h (av (.bool false) (bN (h.ev rfl) (h.ev rfl)) (congrArg Value.bool (decide_eq_false (by omega)))) rfl ?_;intro f h
 refine ah ?_
 refine hK3 _ _ ?_
 refine wpIn_cond_false (h.ev rfl) ?_
 refine wpIn_skip ?_
 refine hK2 _ _ ?_
 refine al fun K4 hK4=>?_
 refine al fun K5 hK5=>?_
 refine ae ?_
 refine ac h (ag (h.ev rfl)) rfl ?_;intro f h
 refine ac h (ag (h.ev rfl)) rfl ?_;intro f h
 refine ac h (mo Tryz.underlying36 (h.ev rfl)) rfl ?_;intro f h
 refine ac h (ag (h.ev rfl)) rfl ?_;intro f h
 refine ac h (m4 Tryz.underlying36 (h.ev rfl)) rfl ?_;intro f h
 refine ac h (av (.int .i64 0) (eU (h.ev rfl) (h.ev rfl) (by omega)) (rfl)) rfl ?_;intro f h
 refine ac h (av (.int .i64 (n:Int)) (eU (h.ev rfl) (h.ev rfl) (by omega)) (congrArg (Value.int .i64) (by omega))) rfl ?_;intro f h
 refine ac h (aj (h.ev rfl)) rfl ?_;intro f h
 refine ah ?_
 refine hK5 _ _ ?_
 refine al fun K6 hK6=>?_
 refine ae ?_
 refine ac h (ag (h.ev rfl)) rfl ?_;intro f h
 refine ac h (c6 (h.ev rfl) (h.ev rfl)) rfl ?_;intro f h
 refine ah ?_
 refine hK6 _ _ ?_
 refine bM h rfl (fun hc=>?_) (fun hc=>?_)
 ·replace hc:=of_decide_eq_true hc
  refine ae ?_
  refine ac h (ag (h.ev rfl)) rfl ?_;intro f h
  refine ac h (ag (h.ev rfl)) rfl ?_;intro f h
  refine ac h (mo Tryz.underlying36 (h.ev rfl)) rfl ?_;intro f h
  refine ac h (po Tryz.underlying36 cz (h.ev rfl) (h.ev rfl)) rfl ?_;intro f h
  refine ac h (ag (h.ev rfl)) rfl ?_;intro f h
  refine nq (n:=n) (base:=w.heap.size) h Tryz.underlying36 Tryz.underlying3 cP rfl rfl (by omega) (by omega) (by omega) (Nat.le_refl _) rfl ?_;intro f w1 v22 xs9 h hE9 hO9
  replace s:=s.sl_new hE9 hO9
  refine ac h (ag (h.ev rfl)) rfl ?_;intro f h
  refine ac h (m4 Tryz.underlying36 (h.ev rfl)) rfl ?_;intro f h
  refine ac h (nF hO9 Tryz.underlying36 cz (h.ev rfl) (h.ev rfl)) rfl ?_;intro f h
  refine ac h (aj (h.ev rfl)) rfl ?_;intro f h
  refine ah ?_
  refine hK4 _ _ ?_
  refine al fun K7 hK7=>?_
  refine ae ?_
  refine ac h (ag (h.ev rfl)) rfl ?_;intro f h
  refine ac h (aj (h.ev rfl)) rfl ?_;intro f h
  refine ah ?_
  refine hK7 _ _ ?_
  refine wpIn_ret ?_
  exact bf rfl h s rfl (hO9.cut0)
 ·replace hc:=of_decide_eq_false hc
  refine wpIn_skip ?_
  refine hK4 _ _ ?_
  refine al fun K8 hK8=>?_
  refine ae ?_
  refine ac h (ag (h.ev rfl)) rfl ?_;intro f h
  refine ac h (aj (h.ev rfl)) rfl ?_;intro f h
  refine ah ?_
  refine hK8 _ _ ?_
  refine wpIn_ret ?_
  exact bf rfl h s rfl (gB _ _ _ _)
theorem qR (vh:Value) (us:List Value) (ls:List (List Mb)) (hls:us.length=ls.length) (htot:ls.flatten.length≤1000) (hvn:us.length≤1000) (w:World) (hv:bq w vh 1 us.length us) (hr:∀ k,k<us.length→bq w (us.getD k undef) 33 (ls.getD k []).length (ap (ls.getD k []))):Calls Tryz.prog 100 [vh].toArray w (cU w (fun v w'=>cQ w' w.heap.size 28 33 v ls.flatten.length (ap ls.flatten))):=by
 refine bp Tryz.func100 rfl Tryz.ntmps100 rfl [(0,vh)] (by simp) fun f h=>?_
 have s:=St.start w
 refine al fun K1 hK1=>?_
 refine ae ?_
 refine ac h (aj (h.ev rfl)) rfl ?_;intro f h
 refine ah ?_
 refine hK1 _ _ ?_
 refine al fun K2 hK2=>?_
 refine ae ?_
 refine ac h (aj (h.ev rfl)) rfl ?_;intro f h
 refine ah ?_
 refine hK2 _ _ ?_
 refine al fun K3 hK3=>?_
 refine al fun K4 hK4=>?_
 refine ae ?_
 refine ac h (ag (h.ev rfl)) rfl ?_;intro f h
 refine ac h (bc (hv.keep s.ext) Tryz.underlying144 (h.ev rfl)) rfl ?_;intro f h
 refine ac h (ag (h.ev rfl)) rfl ?_;intro f h
 refine ah ?_
 refine hK4 _ _ ?_
 refine wpIn_block ?_
 refine wpIn_loop_ghost (fun nn aa ww=>∃ k:Nat,Sl 36 aa [(0,vh),(3,.int .i64 (((ls.take k).flatten.length:Nat):Int)),(9,vh),(10,.int .i64 (us.length:Int)),(11,.int .i64 (k:Int))]∧St w [] ww∧nn=us.length - k∧k≤us.length) (us.length - (0)) ⟨0,h.only ⟨rfl,aQ rfl rfl,rfl,rfl,aQ rfl (by omega),trivial⟩,s.as trivial,rfl,Nat.zero_le _⟩ ?_
 rintro _ f w1 ⟨k,h,s,hnn,hp0⟩
 refine al fun K5 hK5=>?_
 refine ae ?_
 refine ac h (bN (h.ev rfl) (h.ev rfl)) rfl ?_;intro f h
 refine ah ?_
 refine hK5 _ _ ?_
 refine al fun K6 hK6=>?_
 refine bM h rfl (fun hc=>?_) (fun hc=>?_)
 ·replace hc:=of_decide_eq_true hc
  refine wpIn_skip ?_
  refine hK6 _ _ ?_
  refine al fun K7 hK7=>?_
  refine wpIn_block ?_
  refine al fun K8 hK8=>?_
  refine ae ?_
  have hkl:k<us.length:=by omega
  refine ac h (bZ (hv.keep s.ext) (k) Tryz.underlying144 Aw (h.ev rfl) (h.ev rfl) (by omega) (by omega)) rfl ?_;intro f h
  refine au ((hv.keep s.ext).el1 (k) (V:=us.getD k undef) (tP hkl)) h bE rfl rfl ?_;intro f h
  refine ac h (aj (h.ev rfl)) rfl ?_;intro f h
  refine ah ?_
  refine hK8 _ _ ?_
  refine al fun K9 hK9=>?_
  refine ae ?_
  refine ac h (ag (h.ev rfl)) rfl ?_;intro f h
  refine ac h (ag (h.ev rfl)) rfl ?_;intro f h
  refine ac h (bc ((hr k hkl).keep s.ext) Tryz.underlying36 (h.ev rfl)) rfl ?_;intro f h
  have hk1:=ng ls k (by omega)
  have hk2:=tc ls (k+1)
  refine ac h (cf (h.ev rfl) (h.ev rfl) (by omega)) rfl ?_;intro f h
  refine ac h (aj (h.ev rfl)) rfl ?_;intro f h
  refine ah ?_
  refine hK9 _ _ ?_
  refine al fun K10 hK10=>?_
  refine ae ?_
  refine ac h (ag (h.ev rfl)) rfl ?_;intro f h
  refine ac h (av (.bool false) (bN (h.ev rfl) (h.ev rfl)) (congrArg Value.bool (decide_eq_false (by omega)))) rfl ?_;intro f h
  refine ah ?_
  refine hK10 _ _ ?_
  refine wpIn_cond_false (h.ev rfl) ?_
  refine wpIn_skip ?_
  refine bF ?_
  refine hK7 _ _ ?_
  refine ae ?_
  refine ac h (cf (h.ev rfl) (h.ev rfl) (by omega)) rfl ?_;intro f h
  refine ac h (ag (h.ev rfl)) rfl ?_;intro f h
  refine ah ?_
  refine bQ ?_
  exact ⟨_,by omega,⟨k+1,h.only ⟨rfl,aQ rfl (by omega),rfl,rfl,aQ rfl (by omega),trivial⟩,St.as s trivial,rfl,by omega⟩⟩
 ·replace hc:=of_decide_eq_false hc
  refine wpIn_exit ?_
  refine bJ ?_
  refine bJ ?_
  refine cC ?_
  refine hK3 _ _ ?_
  refine al fun K11 hK11=>?_
  refine ae ?_
  obtain rfl:k=us.length:=by omega
  refine ac h (av (.int .i64 ((ls.flatten.length:Nat):Int)) (ag (h.ev rfl)) (by rw [hls,List.take_length])) rfl ?_;intro f h
  refine aH h s Bb (uB ls.flatten.length (by omega) _) rfl rfl ?_;intro f w1 v24 hT hE h sq;replace s:=s.sl_new hE hT
  refine ac h (aj (h.ev rfl)) rfl ?_;intro f h
  refine ah ?_
  refine hK11 _ _ ?_
  refine al fun K12 hK12=>?_
  refine al fun K13 hK13=>?_
  refine ae ?_
  refine ac h (ag (h.ev rfl)) rfl ?_;intro f h
  refine ac h (bc (hv.keep s.ext) Tryz.underlying144 (h.ev rfl)) rfl ?_;intro f h
  refine ac h (ag (h.ev rfl)) rfl ?_;intro f h
  refine ah ?_
  refine hK13 _ _ ?_
  refine wpIn_block ?_
  refine wpIn_loop_ghost (fun nn aa ww=>∃ i:Nat,∃ vb:Value,Sl 36 aa [(0,vh),(6,vb),(25,vh),(26,.int .i64 (us.length:Int)),(27,.int .i64 (i:Int))]∧St w [.sl vb 28 33 (ls.take i).flatten.length (ap (ls.take i).flatten)] ww∧nn=us.length - i∧i≤us.length) (us.length - (0)) ⟨0,v24,h.only ⟨rfl,rfl,rfl,rfl,aQ rfl (by omega),trivial⟩,s.as ⟨fH rfl rfl,trivial⟩,rfl,Nat.zero_le _⟩ ?_
  rintro _ f w1 ⟨i,vb,h,s,hnn,hp0⟩
  refine al fun K14 hK14=>?_
  refine ae ?_
  refine ac h (bN (h.ev rfl) (h.ev rfl)) rfl ?_;intro f h
  refine ah ?_
  refine hK14 _ _ ?_
  refine al fun K15 hK15=>?_
  refine bM h rfl (fun hc=>?_) (fun hc=>?_)
  ·replace hc:=of_decide_eq_true hc
   refine wpIn_skip ?_
   refine hK15 _ _ ?_
   refine al fun K16 hK16=>?_
   refine wpIn_block ?_
   refine al fun K17 hK17=>?_
   refine ae ?_
   have hkl:i<us.length:=by omega
   have hk1:=ng ls i (by omega)
   have hk2:=tc ls (i+1)
   refine ac h (bZ (hv.keep s.ext) (i) Tryz.underlying144 Aw (h.ev rfl) (h.ev rfl) (by omega) (by omega)) rfl ?_;intro f h
   refine au ((hv.keep s.ext).el1 (i) (V:=us.getD i undef) (tP hkl)) h bE rfl rfl ?_;intro f h
   refine ac h (aj (h.ev rfl)) rfl ?_;intro f h
   refine ah ?_
   refine hK17 _ _ ?_
   refine ae ?_
   refine ac h (ag (h.ev rfl)) rfl ?_;intro f h
   refine ac h (ag (h.ev rfl)) rfl ?_;intro f h
   refine eQ 0 ((hr i hkl).keep s.ext) h s Tryz.underlying36 cP rfl rfl rfl (eG _) (by unfold maxLen;omega) (by omega) rfl ?_;intro f w1 v33 h s
   refine ac h (aj (h.ev rfl)) rfl ?_;intro f h
   refine ah ?_
   refine bF ?_
   refine hK16 _ _ ?_
   refine ae ?_
   refine ac h (cf (h.ev rfl) (h.ev rfl) (by omega)) rfl ?_;intro f h
   refine ac h (ag (h.ev rfl)) rfl ?_;intro f h
   refine ah ?_
   refine bQ ?_
   exact ⟨_,by omega,⟨i+1,v33,h.only ⟨rfl,rfl,rfl,rfl,aQ rfl (by omega),trivial⟩,St.as s ⟨fH (ng ls i (by omega)) (sk ls i (by omega)),trivial⟩,rfl,by omega⟩⟩
  ·replace hc:=of_decide_eq_false hc
   refine wpIn_exit ?_
   refine bJ ?_
   refine bJ ?_
   refine cC ?_
   refine hK12 _ _ ?_
   refine al fun K18 hK18=>?_
   refine ae ?_
   refine ac h (ag (h.ev rfl)) rfl ?_;intro f h
   refine ac h (aj (h.ev rfl)) rfl ?_;intro f h
   refine ah ?_
   refine hK18 _ _ ?_
   refine wpIn_ret ?_
   exact bf rfl h s rfl (pV (by omega) (s.getSl 0 rfl))
theorem jJ (n:Nd) (vs vf:Value) (w:World) (hRs:bq w vs 33 n.sc.length (ap n.sc)) (hRf:bq w vf 33 n.fg.length (ap n.fg)) (hns:n.sc.length≤400) (hnf:n.fg.length≤400):Calls Tryz.prog 69 [.agg (aC n.me n.pr vs vf)].toArray w (cU w (fun v w9=>∃ bv vk,v=.func (.func 130) #[] #[.pointer (some ⟨bv,0,none⟩)]∧St w [.blk bv (.cells #[vk] 36),.sl vk 28 33 (aE n).length (ap (aE n))] w9)):=by
 refine bp Tryz.func69 rfl Tryz.ntmps69 rfl [(0,.agg (aC n.me n.pr vs vf))] (by simp) fun f h=>?_
 have s:=St.start w
 refine al fun K1 hK1=>?_
 refine ae ?_
 refine bV (aC n.me n.pr vs vf) h s rfl rfl rfl ?_;intro f w1 b1 h s
 refine ac h (aj (h.ev rfl)) rfl ?_;intro f h
 refine ah ?_
 refine hK1 _ _ ?_
 refine al fun K2 hK2=>?_
 refine ae ?_
 refine ac h (ai bR (h.ev rfl)) rfl ?_;intro f h
 refine aB (aU.subL (aU.of_own s 0 rfl) 33 33 (D:=aw n.pr) (cb _ _ _ _)) h aL rfl (ak _) rfl ?_;intro f h
 refine cg (vs:=[.agg (aw n.pr)]) [.tmp 4] h s Tryz.underlying36 cP rfl rfl (eS _) rfl rfl rfl ?_;intro f w1 v5 h s
 replace s:=s.resl (m:=[n.pr].length) (ys:=ap [n.pr]) 0 rfl rfl (by rw [c0,cM])
 refine ac h (ai bD (h.ev rfl)) rfl ?_;intro f h
 refine au (V:=vs) (am (aU.of_own s 1 rfl) 66 (bL _ _ _ _)) h bE rfl rfl ?_;intro f h
 refine ac h (ai cR (h.ev rfl)) rfl ?_;intro f h
 refine au (V:=vf) (am (aU.of_own s 1 rfl) 67 (cT _ _ _ _)) h bE rfl rfl ?_;intro f h
 refine cg (vs:=[v5,vs,vf]) [.tmp 5,.tmp 7,.tmp 9] h s Tryz.underlying144 De rfl rfl (by intro v hv;simp only [List.mem_cons,List.not_mem_nil,or_false] at hv;rcases hv with rfl|rfl|rfl;exact pD (bq.of_own (s.getSl 0 rfl));exact pD hRs;exact pD hRf) rfl rfl rfl ?_;intro f w1 v10 h s
 replace s:=s.resl (m:=3) (ys:=[v5,vs,vf]) 0 rfl rfl (by simp [mL (bq.of_own (s.getSl 1 rfl)),mL hRs,mL hRf])
 refine aH h s BX (qR v10 [v5,vs,vf] [[n.pr],n.sc,n.fg] rfl (by rw [jG];simp only [List.length_append,List.length_cons,List.length_nil];omega) (by show 3≤1000;omega) _ (bq.of_own (s.getSl 0 rfl)) (x2 (bq.of_own (s.getSl 1 rfl)) (hRs.keep s.ext) (hRf.keep s.ext))) rfl rfl ?_;intro f w1 v11 hT hE h sq;replace s:=s.sl_new hE (hT.seq (m:=(aE n).length) (ys:=ap (aE n)) (by rw [jG];rfl) (by rw [jG];rfl))
 refine dq [v11] h AU (pP (aE n) v11 _ _ _ s (bq.of_own (s.getSl 0 rfl))) rfl rfl ?_;rintro f w1 r ⟨bv,rfl,s⟩ h
 refine ac h (aj (h.ev rfl)) rfl ?_;intro f h
 refine ah ?_
 refine hK2 _ _ ?_
 refine wpIn_ret ?_
 exact bf rfl h s rfl (⟨bv,v11,rfl,(s.sel [0,1] rfl (by decide))⟩)
theorem qF (m:Mb) (w:World):Calls Tryz.prog 78 [.agg (aw m)].toArray w (cU w (fun v w9=>∃ bx,v=.func (.func 113) #[] #[.pointer (some ⟨bx,0,none⟩)]∧g7 w9 bx (aw m))):=by
 refine bp Tryz.func78 rfl Tryz.ntmps78 rfl [(0,.agg (aw m))] (by simp) fun f h=>?_
 have s:=St.start w
 refine al fun K1 hK1=>?_
 refine ae ?_
 refine bV ((aw m)) h s rfl rfl rfl ?_;intro f w1 b1 h s
 refine ac h (aj (h.ev rfl)) rfl ?_;intro f h
 refine ah ?_
 refine hK1 _ _ ?_
 refine al fun K2 hK2=>?_
 refine ae ?_
 refine ac h (dY [.pointer (some ⟨b1,0,none⟩)] (lQ h rfl)) rfl ?_;intro f h
 refine ac h (aj (h.ev rfl)) rfl ?_;intro f h
 refine ah ?_
 refine hK2 _ _ ?_
 refine wpIn_ret ?_
 exact bf rfl h s rfl (⟨b1,rfl,g7.of_own s 0 rfl⟩)
theorem sd (x m:Mb) (bx:Nat) (w:World) (hb:g7 w bx (aw m)):Calls Tryz.prog 113 [.agg (aw x),.pointer (some ⟨bx,0,none⟩)].toArray w (cU w (is (.bool (g6 m x)))):=by
 refine bp Tryz.func113 rfl Tryz.ntmps113 rfl [(0,.agg (aw x)),(1,.pointer (some ⟨bx,0,none⟩))] (by simp) fun f h=>?_
 have s:=St.start w
 refine al fun K1 hK1=>?_
 refine ae ?_
 refine bV ((aw x)) h s rfl rfl rfl ?_;intro f w1 b2 h s
 refine ac h (aj (h.ev rfl)) rfl ?_;intro f h
 refine ah ?_
 refine hK1 _ _ ?_
 refine al fun K2 hK2=>?_
 cases h0:(decide (x.1=m.1):Bool)
 ·skip
  refine ae ?_
  refine ac h (ai aJ (h.ev rfl)) rfl ?_;intro f h
  refine au (am (aU.of_own s 0 rfl) 0 (aP _)) h bz rfl rfl ?_;intro f h
  refine ac h (ai aJ (h.ev rfl)) rfl ?_;intro f h
  refine au (V:=.int .i64 m.1) (am (aU.of_tab (hb.keep s.ext)) 0 (aP _)) h bz rfl rfl ?_;intro f h
  refine ac h (av (.bool false) (bX (h.ev rfl) (h.ev rfl)) (congrArg Value.bool h0)) rfl ?_;intro f h
  refine ac h (ag (h.ev rfl)) rfl ?_;intro f h
  refine az h rfl rfl rfl ?_
  refine ac h (ai bW (h.ev rfl)) rfl ?_;intro f h
  refine az h rfl rfl rfl ?_
  refine aB (aU.subL (aU.of_own s 0 rfl) 1 32 (D:=bA (_)) (cj _)) h bP rfl (by first|exact aK _|exact aF _ _) rfl ?_;intro f h
  refine az h rfl rfl rfl ?_
  refine ac h (ai bW (h.ev rfl)) rfl ?_;intro f h
  refine az h rfl rfl rfl ?_
  refine aB (aU.subL (aU.of_tab (hb.keep s.ext)) 1 32 (D:=bA (_)) (cj _)) h bP rfl (by first|exact aK _|exact aF _ _) rfl ?_;intro f h
  refine az h rfl rfl rfl ?_
  refine ac h (dp fC (h.ev rfl) (h.ev rfl)) rfl ?_;intro f h
  refine ac h (aG (h.ev rfl) (h.ev rfl)) rfl ?_;intro f h
  refine ac h (aj (h.ev rfl)) rfl ?_;intro f h
  refine ah ?_
  refine hK2 _ _ ?_
  refine wpIn_ret ?_
  exact bf rfl h s rfl (by show _=_;rw [pk h0]<;>rfl)
 ·skip
  refine ae ?_
  refine ac h (ai aJ (h.ev rfl)) rfl ?_;intro f h
  refine au (am (aU.of_own s 0 rfl) 0 (aP _)) h bz rfl rfl ?_;intro f h
  refine ac h (ai aJ (h.ev rfl)) rfl ?_;intro f h
  refine au (V:=.int .i64 m.1) (am (aU.of_tab (hb.keep s.ext)) 0 (aP _)) h bz rfl rfl ?_;intro f h
  refine ac h (av (.bool true) (bX (h.ev rfl) (h.ev rfl)) (congrArg Value.bool h0)) rfl ?_;intro f h
  refine ac h (ag (h.ev rfl)) rfl ?_;intro f h
  refine aA (b:=false) h rfl rfl rfl rfl ?_;intro f h
  refine aA (b:=false) h rfl rfl rfl rfl ?_;intro f h
  refine aA (b:=false) h rfl rfl rfl rfl ?_;intro f h
  refine aA (b:=false) h rfl rfl rfl rfl ?_;intro f h
  refine aA (b:=false) h rfl rfl rfl rfl ?_;intro f h
  refine ac h (aI (h.ev rfl) (h.ev rfl)) rfl ?_;intro f h
  refine ac h (aj (h.ev rfl)) rfl ?_;intro f h
  refine ah ?_
  refine hK2 _ _ ?_
  refine wpIn_ret ?_
  exact bf rfl h s rfl (by show _=_;rw [te h0]<;>rfl)
theorem gD (l:List Mb) (vh:Value) (w:World) (hR:bq w vh 33 l.length (ap l)) (hln:l.length≤1000):Calls Tryz.prog 45 [vh].toArray w (cU w (is (.bool (dc l)))):=by
 refine bp Tryz.func45 rfl Tryz.ntmps45 rfl [(0,vh)] (by simp) fun f h=>?_
 have s:=St.start w
 refine al fun K1 hK1=>?_
 refine ae ?_
 refine ac h (aj (h.ev rfl)) rfl ?_;intro f h
 refine ah ?_
 refine hK1 _ _ ?_
 refine al fun K2 hK2=>?_
 refine al fun K3 hK3=>?_
 refine ae ?_
 refine ac h (ag (h.ev rfl)) rfl ?_;intro f h
 refine ac h (bc (hR.keep s.ext) Tryz.underlying36 (h.ev rfl)) rfl ?_;intro f h
 refine ac h (c6 (h.ev rfl) (h.ev rfl)) rfl ?_;intro f h
 refine ah ?_
 refine hK3 _ _ ?_
 refine bM h rfl (fun hc=>?_) (fun hc=>?_)
 ·replace hc:=of_decide_eq_true hc
  refine al fun K4 hK4=>?_
  refine ae ?_
  refine ac h (aj (h.ev rfl)) rfl ?_;intro f h
  refine ah ?_
  refine hK4 _ _ ?_
  refine wpIn_ret ?_
  refine aW ?_
  exact bf rfl h s rfl (by show _=_;rw [kZ (by omega)]<;>rfl)
 ·replace hc:=of_decide_eq_false hc
  have hl16:l.length≤16:=by omega
  refine wpIn_skip ?_
  refine hK2 _ _ ?_
  refine al fun K5 hK5=>?_
  refine al fun K6 hK6=>?_
  refine ae ?_
  refine ac h (ag (h.ev rfl)) rfl ?_;intro f h
  refine ac h (bc (hR.keep s.ext) Tryz.underlying36 (h.ev rfl)) rfl ?_;intro f h
  refine ac h (ag (h.ev rfl)) rfl ?_;intro f h
  refine ah ?_
  refine hK6 _ _ ?_
  refine wpIn_block ?_
  refine wpIn_loop_ghost (fun nn aa ww=>∃ k:Nat,Sl 32 aa [(0,vh),(8,vh),(9,.int .i64 (l.length:Int)),(10,.int .i64 (k:Int))]∧St w [] ww∧nn=l.length - k∧k≤l.length∧∀ j,j<k→ip l j=false) (l.length - (0)) ⟨0,h.only ⟨rfl,rfl,rfl,aQ rfl (by omega),trivial⟩,s.as trivial,rfl,Nat.zero_le _,fun j hj=>absurd hj (Nat.not_lt_zero _)⟩ ?_
  rintro _ f w1 ⟨k,h,s,hnn,hp0,hp1⟩
  refine al fun K7 hK7=>?_
  refine ae ?_
  refine ac h (bN (h.ev rfl) (h.ev rfl)) rfl ?_;intro f h
  refine ah ?_
  refine hK7 _ _ ?_
  refine al fun K8 hK8=>?_
  refine bM h rfl (fun hc=>?_) (fun hc=>?_)
  ·replace hc:=of_decide_eq_true hc
   refine wpIn_skip ?_
   refine hK8 _ _ ?_
   refine al fun K9 hK9=>?_
   refine wpIn_block ?_
   refine al fun K10 hK10=>?_
   refine ae ?_
   refine ac h (ag (h.ev rfl)) rfl ?_;intro f h
   have hkl:k<l.length:=by omega
   refine ac h (bZ (hR.keep s.ext) (k) Tryz.underlying36 cz (h.ev rfl) (h.ev rfl) (by omega) (by omega)) rfl ?_;intro f h
   refine aB ((hR.keep s.ext).el (k) (by omega) (by decide) (D:=aw (l.getD k aT)) (cL l k hkl)) h aL rfl (ak _) rfl ?_;intro f h
   refine bj (aw aT) h s cB rfl rfl ?_;intro f w1 b4 h s
   refine ac h (aj (h.ev rfl)) rfl ?_;intro f h
   refine ax 0 h s aL rfl rfl rfl (ak _) (ak _) (aS _) ?_;intro w1 s
   refine ah ?_
   refine hK10 _ _ ?_
   refine al fun K11 hK11=>?_
   cases k0:(decide ((l.getD k aT).1<0):Bool)
   ·skip
    cases k1:(decide (16≤(l.getD k aT).1):Bool)
    ·skip
     have hbs:=s.ext.le
     refine' jh 14 [0] [] [[],[0],[0,1],[0,1,2],[0,1,2,3],[0,1,2,3,4],[0,1,2,3,4,5],[0,1,2,3,4,5,6],[0,1,2,3,4,5,6,7],[0,1,2,3,4,5,6,7,8],[0,1,2,3,4,5,6,7,8],[0,1,2,3,4,5,6,7,8,9,10],[0,1,2,3,4,5,6,7,8],[0,1,2,3,4,5,6,7,8,12],[0,1,2,3,4,5,6,7,8,9,10,11,12,13],[0,1,2,3,4,5,6,7,8,9,10,11,12,13,14]] (is _::is _::is _::is _::is _::is _::is _::is _::is _::is _::is _::is _::is _::(fun v w9=>∃ bx,v=.func (.func 113) #[] #[.pointer (some ⟨bx,0,none⟩)]∧g7 w9 bx (aw (l.getD k aT)))::is undef::is undef::[]) (fun _=>True) h s (by kernel_rfl) (by kernel_rfl) (by kernel_rfl) (by kernel_rfl) rfl (fun _ _ h _=>h) (trivial) ⟨⟨_,rfl⟩,trivial⟩ ⟨bu _,bu _,bu _,bu _,bu _,bu _,bu _,bu _,bu _,bu _,bu _,bu _,bu _,fun _ _ _ h9 hE=>by obtain ⟨bx,h1,h2⟩:=h9;exact ⟨bx,h1,h2.keep hE⟩,bu _,bu _,trivial⟩ (And.intro ?_ (And.intro ?_ (And.intro ?_ (And.intro ?_ (And.intro ?_ (And.intro ?_ (And.intro ?_ (And.intro ?_ (And.intro ?_ (And.intro ?_ (And.intro ?_ (And.intro ?_ (And.intro ?_ (And.intro ?_ (And.intro ?_ (And.intro ?_ (trivial))))))))))))))))) ?_
     rotate_left 13
     ·refine dQ 15 rfl (by decide) ?_
      intro f9 w2 hE hs hl
      have e4:f9.tmps.getD 4 undef=_:=di hl 4 (by kernel_rfl) (by kernel_rfl) (h.holds 4 _ rfl)
      have h:=ay [(4,_)] hs rfl (holds_lk ⟨e4,trivial⟩)
      refine ac h (ai aJ (h.ev rfl)) rfl ?_;intro f h
      refine ah ?_
      have e9:=h.holds 15 _ rfl
      refine ⟨?_,rfl⟩
      refine e9.trans ?_
      exact rfl
     ·refine cr 16 rfl (by decide) (by decide) ?_
      intro f9 w2 hE hs hd9 hl
      have e15:f9.tmps.getD 15 undef=_:=cc hl 15 0 (by kernel_rfl) (by kernel_rfl)
      have h:=ay [(15,_)] hs hd9 (holds_lk ⟨e15,trivial⟩)
      have s:=s.more hE
      have z:=St.start w2
      refine au (am (aU.of_own s 0 rfl) 0 (aP _)) h bz rfl rfl ?_;intro f h
      refine ah ?_
      have e9:=h.holds 16 _ rfl
      refine ⟨?_,Ext.refl _,fun h9=>absurd h9 (by decide)⟩
      refine e9.trans ?_
      exact rfl
     ·refine cr 17 rfl (by decide) (by decide) ?_
      intro f9 w2 hE hs hd9 hl
      have e16:f9.tmps.getD 16 undef=_:=cc hl 16 1 (by kernel_rfl) (by kernel_rfl)
      have h:=ay [(16,_)] hs hd9 (holds_lk ⟨e16,trivial⟩)
      have s:=s.more hE
      have z:=St.start w2
      refine ac h (av (.bool false) (bN (h.ev rfl) (h.ev rfl)) (congrArg Value.bool k0)) rfl ?_;intro f h
      refine ah ?_
      have e9:=h.holds 17 _ rfl
      refine ⟨?_,Ext.refl _,fun h9=>absurd h9 (by decide)⟩
      refine e9.trans ?_
      exact rfl
     ·refine cr 18 rfl (by decide) (by decide) ?_
      intro f9 w2 hE hs hd9 hl
      have e17:f9.tmps.getD 17 undef=_:=cc hl 17 2 (by kernel_rfl) (by kernel_rfl)
      have h:=ay [(17,_)] hs hd9 (holds_lk ⟨e17,trivial⟩)
      have s:=s.more hE
      have z:=St.start w2
      refine ac h (ag (h.ev rfl)) rfl ?_;intro f h
      refine ah ?_
      have e9:=h.holds 18 _ rfl
      refine ⟨?_,Ext.refl _,fun h9=>absurd h9 (by decide)⟩
      refine e9.trans ?_
      exact rfl
     ·refine cr 19 rfl (by decide) (by decide) ?_
      intro f9 w2 hE hs hd9 hl
      have e4:f9.tmps.getD 4 undef=_:=di hl 4 (by kernel_rfl) (by kernel_rfl) (h.holds 4 _ rfl)
      have e18:f9.tmps.getD 18 undef=_:=cc hl 18 3 (by kernel_rfl) (by kernel_rfl)
      have h:=ay [(4,_),(18,_)] hs hd9 (holds_lk ⟨e4,e18,trivial⟩)
      have s:=s.more hE
      have z:=St.start w2
      refine az h rfl rfl rfl ?_
      refine ac h (ai aJ (h.ev rfl)) rfl ?_;intro f h
      refine ah ?_
      have e9:=h.holds 19 _ rfl
      refine ⟨?_,Ext.refl _,fun h9=>absurd h9 (by decide)⟩
      refine e9.trans ?_
      exact rfl
     ·refine cr 20 rfl (by decide) (by decide) ?_
      intro f9 w2 hE hs hd9 hl
      have e19:f9.tmps.getD 19 undef=_:=cc hl 19 4 (by kernel_rfl) (by kernel_rfl)
      have e18:f9.tmps.getD 18 undef=_:=cc hl 18 3 (by kernel_rfl) (by kernel_rfl)
      have h:=ay [(19,_),(18,_)] hs hd9 (holds_lk ⟨e19,e18,trivial⟩)
      have s:=s.more hE
      have z:=St.start w2
      refine az h rfl rfl rfl ?_
      refine au (am (aU.of_own s 0 rfl) 0 (aP _)) h bz rfl rfl ?_;intro f h
      refine ah ?_
      have e9:=h.holds 20 _ rfl
      refine ⟨?_,Ext.refl _,fun h9=>absurd h9 (by decide)⟩
      refine e9.trans ?_
      exact rfl
     ·refine cr 21 rfl (by decide) (by decide) ?_
      intro f9 w2 hE hs hd9 hl
      have e20:f9.tmps.getD 20 undef=_:=cc hl 20 5 (by kernel_rfl) (by kernel_rfl)
      have e18:f9.tmps.getD 18 undef=_:=cc hl 18 3 (by kernel_rfl) (by kernel_rfl)
      have h:=ay [(20,_),(18,_)] hs hd9 (holds_lk ⟨e20,e18,trivial⟩)
      have s:=s.more hE
      have z:=St.start w2
      refine az h rfl rfl rfl ?_
      refine ac h (av (.bool false) (dg (h.ev rfl) (h.ev rfl)) (congrArg Value.bool k1)) rfl ?_;intro f h
      refine ah ?_
      have e9:=h.holds 21 _ rfl
      refine ⟨?_,Ext.refl _,fun h9=>absurd h9 (by decide)⟩
      refine e9.trans ?_
      exact rfl
     ·refine cr 22 rfl (by decide) (by decide) ?_
      intro f9 w2 hE hs hd9 hl
      have e18:f9.tmps.getD 18 undef=_:=cc hl 18 3 (by kernel_rfl) (by kernel_rfl)
      have e21:f9.tmps.getD 21 undef=_:=cc hl 21 6 (by kernel_rfl) (by kernel_rfl)
      have h:=ay [(18,_),(21,_)] hs hd9 (holds_lk ⟨e18,e21,trivial⟩)
      have s:=s.more hE
      have z:=St.start w2
      refine ac h (aG (h.ev rfl) (h.ev rfl)) rfl ?_;intro f h
      refine ah ?_
      have e9:=h.holds 22 _ rfl
      refine ⟨?_,Ext.refl _,fun h9=>absurd h9 (by decide)⟩
      refine e9.trans ?_
      exact rfl
     ·refine cr 23 rfl (by decide) (by decide) ?_
      intro f9 w2 hE hs hd9 hl
      have e22:f9.tmps.getD 22 undef=_:=cc hl 22 7 (by kernel_rfl) (by kernel_rfl)
      have h:=ay [(22,_)] hs hd9 (holds_lk ⟨e22,trivial⟩)
      have s:=s.more hE
      have z:=St.start w2
      refine ac h (ag (h.ev rfl)) rfl ?_;intro f h
      refine ah ?_
      have e9:=h.holds 23 _ rfl
      refine ⟨?_,Ext.refl _,fun h9=>absurd h9 (by decide)⟩
      refine e9.trans ?_
      exact rfl
     ·refine cr 24 rfl (by decide) (by decide) ?_
      intro f9 w2 hE hs hd9 hl
      have e0:f9.tmps.getD 0 undef=_:=di hl 0 (by kernel_rfl) (by kernel_rfl) (h.holds 0 _ rfl)
      have e23:f9.tmps.getD 23 undef=_:=cc hl 23 8 (by kernel_rfl) (by kernel_rfl)
      have h:=ay [(0,_),(23,_)] hs hd9 (holds_lk ⟨e0,e23,trivial⟩)
      have s:=s.more hE
      have z:=St.start w2
      refine az h rfl rfl rfl ?_
      refine ac h (ag (h.ev rfl)) rfl ?_;intro f h
      refine ah ?_
      have e9:=h.holds 24 _ rfl
      refine ⟨?_,Ext.refl _,fun h9=>absurd h9 (by decide)⟩
      refine e9.trans ?_
      exact rfl
     ·refine cr 25 rfl (by decide) (by decide) ?_
      intro f9 w2 hE hs hd9 hl
      have e3:f9.tmps.getD 3 undef=_:=di hl 3 (by kernel_rfl) (by kernel_rfl) (h.holds 3 _ rfl)
      have e23:f9.tmps.getD 23 undef=_:=cc hl 23 8 (by kernel_rfl) (by kernel_rfl)
      have h:=ay [(3,_),(23,_)] hs hd9 (holds_lk ⟨e3,e23,trivial⟩)
      have s:=s.more hE
      have z:=St.start w2
      refine az h rfl rfl rfl ?_
      refine ac h (ag (h.ev rfl)) rfl ?_;intro f h
      refine ah ?_
      have e9:=h.holds 25 _ rfl
      refine ⟨?_,Ext.refl _,fun h9=>absurd h9 (by decide)⟩
      refine e9.trans ?_
      exact rfl
     ·refine cr 26 rfl (by decide) (by decide) ?_
      intro f9 w2 hE hs hd9 hl
      have e24:f9.tmps.getD 24 undef=_:=cc hl 24 9 (by kernel_rfl) (by kernel_rfl)
      have e25:f9.tmps.getD 25 undef=_:=cc hl 25 10 (by kernel_rfl) (by kernel_rfl)
      have e23:f9.tmps.getD 23 undef=_:=cc hl 23 8 (by kernel_rfl) (by kernel_rfl)
      have h:=ay [(24,_),(25,_),(23,_)] hs hd9 (holds_lk ⟨e24,e25,e23,trivial⟩)
      have s:=s.more hE
      have z:=St.start w2
      refine az h rfl rfl rfl ?_
      refine ac h (dP (hR.keep s.ext) (k) Tryz.underlying36 cz (h.ev rfl) (h.ev rfl) (rfl) (by omega)) rfl ?_;intro f h
      refine ah ?_
      have e9:=h.holds 26 _ rfl
      refine ⟨?_,Ext.refl _,fun h9=>absurd h9 (by decide)⟩
      refine e9.trans ?_
      exact rfl
     ·refine cr 27 rfl (by decide) (by decide) ?_
      intro f9 w2 hE hs hd9 hl
      have e4:f9.tmps.getD 4 undef=_:=di hl 4 (by kernel_rfl) (by kernel_rfl) (h.holds 4 _ rfl)
      have e23:f9.tmps.getD 23 undef=_:=cc hl 23 8 (by kernel_rfl) (by kernel_rfl)
      have h:=ay [(4,_),(23,_)] hs hd9 (holds_lk ⟨e4,e23,trivial⟩)
      have s:=s.more hE
      have z:=St.start w2
      refine az h rfl rfl rfl ?_
      refine ar 0 h s aL rfl rfl (ak _) rfl ?_;intro f h
      refine ah ?_
      have e9:=h.holds 27 _ rfl
      refine ⟨?_,Ext.refl _,fun h9=>absurd h9 (by decide)⟩
      refine e9.trans ?_
      exact rfl
     ·refine cr 28 rfl (by decide) (by decide) ?_
      intro f9 w2 hE hs hd9 hl
      have e27:f9.tmps.getD 27 undef=_:=cc hl 27 12 (by kernel_rfl) (by kernel_rfl)
      have e23:f9.tmps.getD 23 undef=_:=cc hl 23 8 (by kernel_rfl) (by kernel_rfl)
      have h:=ay [(27,_),(23,_)] hs hd9 (holds_lk ⟨e27,e23,trivial⟩)
      have s:=s.more hE
      have z:=St.start w2
      refine az h rfl rfl rfl ?_
      refine aH h s DE (qF _ _) rfl rfl ?_;intro f w3 v3 hT9 hE3 h s
      refine ah ?_
      exact ⟨by rw [h.holds 28 _ rfl];exact hT9,hE3,fun h9=>absurd h9 (by decide)⟩
     ·exact fG (by decide) (by decide)
     ·exact fG (by decide) (by decide)
     ·intro f9 w2 hE hs hd9 hWp hT hR hFr hDj
      obtain ⟨u28,hu28⟩:∃ v,f9.tmps.getD 28 undef=v:=⟨_,rfl⟩
      have e28:(fun v w9=>∃ bx,v=.func (.func 113) #[] #[.pointer (some ⟨bx,0,none⟩)]∧g7 w9 bx (aw (l.getD k aT))) u28 w2:=by rw [← hu28];exact hT 13 28 (by decide) rfl
      replace h:=sl_new (ops:=_) [(15,_),(16,_),(17,_),(18,_),(19,_),(20,_),(21,_),(22,_),(23,_),(24,_),(25,_),(26,_),(27,_),(28,u28)] h hs hd9 hR ⟨hT 0 15 (by decide) rfl,hT 1 16 (by decide) rfl,hT 2 17 (by decide) rfl,hT 3 18 (by decide) rfl,hT 4 19 (by decide) rfl,hT 5 20 (by decide) rfl,hT 6 21 (by decide) rfl,hT 7 22 (by decide) rfl,hT 8 23 (by decide) rfl,hT 9 24 (by decide) rfl,hT 10 25 (by decide) rfl,hT 11 26 (by decide) rfl,hT 12 27 (by decide) rfl,hu28,trivial⟩ (by kernel_rfl)
      replace s:=s.more hE
      clear hT hR hFr hDj
      refine fZ.of ?_
      refine az h rfl rfl rfl ?_
      obtain ⟨bx,hbx0,hbx⟩:=e28;subst hbx0
      refine aH h s Ag (i7 (l.take k) (gr vh k) 113 [.pointer (some ⟨bx,0,none⟩)] (g6 (l.getD k aT)) _ (fp (hR.keep s.ext) k (by omega)) (by rw [List.length_take];omega) Bj (fun w9 h9 x hx=>sd x _ bx w9 (hbx.keep h9))) rfl rfl ?_;intro f w1 v9 hT hE h s;obtain rfl:=hT
      refine ac h (aG (h.ev rfl) (h.ev rfl)) rfl ?_;intro f h
      refine ah ?_
      refine hK11 _ _ ?_
      refine bM h rfl (fun hc=>?_) (fun hc=>?_)
      ·refine al fun K12 hK12=>?_
       refine ae ?_
       refine ac h (aj (h.ev rfl)) rfl ?_;intro f h
       refine ah ?_
       refine hK12 _ _ ?_
       refine wpIn_ret ?_
       refine bU ?_
       refine aW ?_
       refine aW ?_
       refine bU ?_
       refine aW ?_
       exact bf rfl h s rfl (by show _=_;rw [ez hkl ((nz k0 k1).trans hc)]<;>rfl)
      ·refine wpIn_skip ?_
       refine bF ?_
       refine hK9 _ _ ?_
       refine ae ?_
       refine ac h (cf (h.ev rfl) (h.ev rfl) (by omega)) rfl ?_;intro f h
       refine ac h (ag (h.ev rfl)) rfl ?_;intro f h
       refine ah ?_
       refine bQ ?_
       have hb9:ip l k=false:=(nz k0 k1).trans hc
       exact ⟨_,by omega,⟨k+1,h.only ⟨rfl,rfl,rfl,aQ rfl (by omega),trivial⟩,St.as (s.pick _ (List.sublist_append_right [_] _)) trivial,rfl,by omega,dm hp1 hb9⟩⟩
    ·skip
     refine bI 16 [[],[0],[0,1],[0,1,2],[0,1,2,3],[0,1,2,3,4],[0,1,2,3,4,5],[0,1,2,3,4,5,6],[0,1,2,3,4,5,6,7],[0,1,2,3,4,5,6,7,8],[0,1,2,3,4,5,6,7,8],[0,1,2,3,4,5,6,7,8,9,10],[0,1,2,3,4,5,6,7,8],[0,1,2,3,4,5,6,7,8,12],[0,1,2,3,4,5,6,7,8,9,10,11,12,13],[0,1,2,3,4,5,6,7,8,9,10,11,12,13,14]] h (by kernel_rfl) (by kernel_rfl) (by kernel_rfl) ?_
     refine ao h (ai aJ (h.ev rfl)) rfl ?_;intro f h
     refine a2 (am (aU.of_own s 0 rfl) 0 (aP _)) h bz rfl rfl ?_;intro f h
     refine ao h (av (.bool false) (bN (h.ev rfl) (h.ev rfl)) (congrArg Value.bool k0)) rfl ?_;intro f h
     refine ao h (ag (h.ev rfl)) rfl ?_;intro f h
     refine aV h rfl rfl rfl ?_
     refine ao h (ai aJ (h.ev rfl)) rfl ?_;intro f h
     refine aV h rfl rfl rfl ?_
     refine a2 (am (aU.of_own s 0 rfl) 0 (aP _)) h bz rfl rfl ?_;intro f h
     refine aV h rfl rfl rfl ?_
     refine ao h (av (.bool true) (dg (h.ev rfl) (h.ev rfl)) (congrArg Value.bool k1)) rfl ?_;intro f h
     refine ao h (aG (h.ev rfl) (h.ev rfl)) rfl ?_;intro f h
     refine ao h (ag (h.ev rfl)) rfl ?_;intro f h
     refine aY (b:=false) h rfl rfl rfl rfl ?_;intro f h
     refine aY (b:=false) h rfl rfl rfl rfl ?_;intro f h
     refine aY (b:=false) h rfl rfl rfl rfl ?_;intro f h
     refine aY (b:=false) h rfl rfl rfl rfl ?_;intro f h
     refine aY (b:=false) h rfl rfl rfl rfl ?_;intro f h
     refine aY (b:=false) h rfl rfl rfl rfl ?_;intro f h
     refine ao h (aI (h.ev rfl) (h.ev rfl)) rfl ?_;intro f h
     refine cq s fun w1 s=>?_
     refine ah ?_
     refine hK11 _ _ ?_
     refine wpIn_cond_true (h.ev rfl) ?_
     refine al fun K13 hK13=>?_
     refine ae ?_
     refine ac h (aj (h.ev rfl)) rfl ?_;intro f h
     refine ah ?_
     refine hK13 _ _ ?_
     refine wpIn_ret ?_
     refine bU ?_
     refine aW ?_
     refine aW ?_
     refine bU ?_
     refine aW ?_
     exact bf rfl h s rfl (by show _=_;rw [ez hkl (vL k1)]<;>rfl)
   ·skip
    refine bI 16 [[],[0],[0,1],[0,1,2],[0,1,2,3],[0,1,2,3,4],[0,1,2,3,4,5],[0,1,2,3,4,5,6],[0,1,2,3,4,5,6,7],[0,1,2,3,4,5,6,7,8],[0,1,2,3,4,5,6,7,8],[0,1,2,3,4,5,6,7,8,9,10],[0,1,2,3,4,5,6,7,8],[0,1,2,3,4,5,6,7,8,12],[0,1,2,3,4,5,6,7,8,9,10,11,12,13],[0,1,2,3,4,5,6,7,8,9,10,11,12,13,14]] h (by kernel_rfl) (by kernel_rfl) (by kernel_rfl) ?_
    refine ao h (ai aJ (h.ev rfl)) rfl ?_;intro f h
    refine a2 (am (aU.of_own s 0 rfl) 0 (aP _)) h bz rfl rfl ?_;intro f h
    refine ao h (av (.bool true) (bN (h.ev rfl) (h.ev rfl)) (congrArg Value.bool k0)) rfl ?_;intro f h
    refine ao h (ag (h.ev rfl)) rfl ?_;intro f h
    refine aY (b:=false) h rfl rfl rfl rfl ?_;intro f h
    refine aY (b:=false) h rfl rfl rfl rfl ?_;intro f h
    refine aY (b:=false) h rfl rfl rfl rfl ?_;intro f h
    refine ao h (aI (h.ev rfl) (h.ev rfl)) rfl ?_;intro f h
    refine ao h (ag (h.ev rfl)) rfl ?_;intro f h
    refine aY (b:=false) h rfl rfl rfl rfl ?_;intro f h
    refine aY (b:=false) h rfl rfl rfl rfl ?_;intro f h
    refine aY (b:=false) h rfl rfl rfl rfl ?_;intro f h
    refine aY (b:=false) h rfl rfl rfl rfl ?_;intro f h
    refine aY (b:=false) h rfl rfl rfl rfl ?_;intro f h
    refine aY (b:=false) h rfl rfl rfl rfl ?_;intro f h
    refine ao h (aI (h.ev rfl) (h.ev rfl)) rfl ?_;intro f h
    refine cq s fun w1 s=>?_
    refine ah ?_
    refine hK11 _ _ ?_
    refine wpIn_cond_true (h.ev rfl) ?_
    refine al fun K14 hK14=>?_
    refine ae ?_
    refine ac h (aj (h.ev rfl)) rfl ?_;intro f h
    refine ah ?_
    refine hK14 _ _ ?_
    refine wpIn_ret ?_
    refine bU ?_
    refine aW ?_
    refine aW ?_
    refine bU ?_
    refine aW ?_
    exact bf rfl h s rfl (by show _=_;rw [ez hkl (vA k0)]<;>rfl)
  ·replace hc:=of_decide_eq_false hc
   refine wpIn_exit ?_
   refine bJ ?_
   refine bJ ?_
   refine cC ?_
   refine hK5 _ _ ?_
   refine al fun K15 hK15=>?_
   refine ae ?_
   refine ac h (aj (h.ev rfl)) rfl ?_;intro f h
   refine ah ?_
   refine hK15 _ _ ?_
   refine wpIn_ret ?_
   exact bf rfl h s rfl (by show _=_;rw [kY hl16 (fun j hj=>hp1 j (by omega))]<;>rfl)
theorem ol (n:Nd) (vs vf:Value) (L:List N3) (vo:Value) (w:World) (hRs:bq w vs 33 n.sc.length (ap n.sc)) (hRf:bq w vf 33 n.fg.length (ap n.fg)) (hns:n.sc.length≤400) (hnf:n.fg.length≤400) (hO:dN w vo L) (hL:L.length≤40):Calls Tryz.prog 49 [.agg (aC n.me n.pr vs vf),.agg #[vo]].toArray w (cU w (is (.bool !((aE n).any (jv L))))):=by
 have hkl9:(aE n).length≤1000:=by simp only [aE,List.length_append,List.length_cons];omega
 refine ep Tryz.func49 rfl Tryz.ntmps49 rfl [(0,.agg (aC n.me n.pr vs vf)),(1,.agg #[vo])] (by simp) fun f h=>?_
 have s:=St.start w
 refine al fun K1 hK1=>?_
 refine ae ?_
 refine bV (aC n.me n.pr vs vf) h s rfl rfl rfl ?_;intro f w1 b2 h s
 refine bV (#[vo]) h s rfl rfl rfl ?_;intro f w1 b3 h s
 refine bj (#[.bool false]) h s sU rfl rfl ?_;intro f w1 b4 h s
 refine ah ?_
 refine hK1 _ _ ?_
 refine al fun K2 hK2=>?_
 refine al fun K3 hK3=>?_
 refine ae ?_
 refine ar 2 h s aZ rfl rfl (aq _ _ _ _) rfl ?_;intro f h
 refine aH h s vG (jJ n vs vf _ (hRs.keep s.ext) (hRf.keep s.ext) (by omega) (by omega)) rfl rfl ?_;rintro f w1 r9 ⟨bv,vk,rfl,hS⟩ hE h sq;replace s:=s.add hS;clear hS
 refine ah ?_
 refine hK3 _ _ ?_
 refine wpIn_block ?_
 refine ed (fun d A9=>A9=[.blk b4 (.cells #[.bool false] 4),.blk b3 (.cells #[vo] 24),.blk b2 (.cells (aC n.me n.pr vs vf) 42)]) [.blk b4 (.cells #[.bool false] 4),.blk b3 (.cells #[vo] 24),.blk b2 (.cells (aC n.me n.pr vs vf) 42)] [.blk bv (.cells #[vk] 36),.sl vk 28 33 (aE n).length (ap (aE n))] ((aE n).length) (DS n L) (fun d=>[Value.agg (aw ((aE n).getD d aT))]) h s rfl o5 (List.Perm.refl _) (rfl) (fun _=>rfl) ?_ ?_ ?_ ?_
 ·intro lp w2 GG g0 hg0 s2 hY;exact jj (aE n) hkl9 vk lp bv (DS n L) GG g0 w w2 s2 hg0 hY
 ·intro lp D9 d9 rc R9 A9 w2 hd9 hq9 hJ9 s
  obtain rfl:=hJ9
  have h:=Sl.round1 (p:=9) (V:=.agg (aw ((aE n).getD d9 aT))) h rfl
  have hdl9:=hd9
  refine ae ?_
  refine bj (aw aT) h s cB rfl rfl ?_;intro f w1 b5 h s
  refine ax 0 h s aL rfl rfl rfl (ak _) (ak _) (aS _) ?_;intro w1 s
  refine ah ?_
  refine bQ ?_
  refine ⟨_,s.perm (List.perm_middle (l₁:=[_])),fun w3 s=>?_⟩
  refine wpIn_block ?_
  refine al fun K4 hK4=>?_
  cases p0:(decide (eb L ((aE n).getD d9 aT).1<L.length):Bool)
  ·skip
   refine ae ?_
   refine ar 4 h s a6 rfl rfl (rfl) rfl ?_;intro f h
   refine ac h (ai aJ (h.ev rfl)) rfl ?_;intro f h
   refine au (am (aU.of_own s 1 rfl) 0 (aP _)) h bz rfl rfl ?_;intro f h
   refine aH h s iH (aO (.pointer none) (dV L vo ((aE n).getD d9 aT).1 _ (hO.keep s.ext) hL) (ob (of_decide_eq_false p0))) rfl rfl ?_;intro f w1 v9 hT hE h s;obtain rfl:=hT
   refine ac h (aj (h.ev rfl)) rfl ?_;intro f h
   refine ah ?_
   refine hK4 _ _ ?_
   refine al fun K5 hK5=>?_
   refine bI 10 [[],[0],[0,1],[0,1,2],[0,1,2,3],[0,1,2,3,4],[0,1,2,3,4,5],[0,1,2],[0,1,2,3,4,5,6,7],[0,1,2,3,4,5,6,7,8]] h (by kernel_rfl) (by kernel_rfl) (by kernel_rfl) ?_
   refine ao h (ag (h.ev rfl)) rfl ?_;intro f h
   refine ao h (av (.bool false) (ey Tryz.underlying54 (h.ev rfl) (h.ev rfl)) (rfl)) rfl ?_;intro f h
   refine ao h (ag (h.ev rfl)) rfl ?_;intro f h
   refine aY (b:=true) h rfl rfl rfl rfl ?_;intro f h
   refine aY (b:=true) h rfl rfl rfl rfl ?_;intro f h
   refine aY (b:=true) h rfl rfl rfl rfl ?_;intro f h
   refine aY (b:=true) h rfl rfl rfl rfl ?_;intro f h
   refine aY (b:=true) h rfl rfl rfl rfl ?_;intro f h
   refine aY (b:=true) h rfl rfl rfl rfl ?_;intro f h
   refine ao h (aG (h.ev rfl) (h.ev rfl)) rfl ?_;intro f h
   refine cq s fun w1 s=>?_
   refine ah ?_
   refine hK5 _ _ ?_
   refine wpIn_cond_false (h.ev rfl) ?_
   refine wpIn_skip ?_
   refine bF ?_
   refine ⟨(EK p0),_,rfl,s.pick _ ?_⟩
   exact List.Sublist.cons_cons _ (List.Sublist.cons _ (List.Sublist.refl _))
  ·skip
   refine ae ?_
   refine ar 4 h s a6 rfl rfl (rfl) rfl ?_;intro f h
   refine ac h (ai aJ (h.ev rfl)) rfl ?_;intro f h
   refine au (am (aU.of_own s 1 rfl) 0 (aP _)) h bz rfl rfl ?_;intro f h
   refine aH h s iH (aO (.pointer (some (aN vo (eb L ((aE n).getD d9 aT).1*68)))) (dV L vo ((aE n).getD d9 aT).1 _ (hO.keep s.ext) hL) (mK (of_decide_eq_true p0))) rfl rfl ?_;intro f w1 v9 hT hE h s;obtain rfl:=hT
   refine ac h (aj (h.ev rfl)) rfl ?_;intro f h
   refine ah ?_
   refine hK4 _ _ ?_
   refine al fun K6 hK6=>?_
   cases p1:(decide ((L.getD (eb L ((aE n).getD d9 aT).1) z3).1.me=((aE n).getD d9 aT)):Bool)
   ·skip
    refine bI 10 [[],[0],[0,1],[0,1,2],[0,1,2,3],[0,1,2,3,4],[0,1,2,3,4,5],[0,1,2],[0,1,2,3,4,5,6,7],[0,1,2,3,4,5,6,7,8]] h (by kernel_rfl) (by kernel_rfl) (by kernel_rfl) ?_
    have hp9:=of_decide_eq_true p0
    refine ao h (ag (h.ev rfl)) rfl ?_;intro f h
    refine ao h (av (.bool true) (ey Tryz.underlying54 (h.ev rfl) (h.ev rfl)) (rfl)) rfl ?_;intro f h
    refine ao h (ag (h.ev rfl)) rfl ?_;intro f h
    refine aV h rfl rfl rfl ?_
    refine ao h (ag (h.ev rfl)) rfl ?_;intro f h
    refine aV h rfl rfl rfl ?_
    refine ao h (bo (h.ev rfl)) rfl ?_;intro f h
    refine aV h rfl rfl rfl ?_
    refine ao h (bG aR (h.ev rfl) ((hO.1.keep s.ext).some (by omega))) rfl ?_;intro f h
    refine aV h rfl rfl rfl ?_
    refine bk (bq.elF (hO.1.keep s.ext) (eb L ((aE n).getD d9 aT).1) 0 33 (by omega) (by decide) (C:=aC (L.getD (eb L ((aE n).getD d9 aT).1) z3).1.me (L.getD (eb L ((aE n).getD d9 aT).1) z3).1.pr (L.getD (eb L ((aE n).getD d9 aT).1) z3).2.1 (L.getD (eb L ((aE n).getD d9 aT).1) z3).2.2) (df L _ hp9) (D:=aw (L.getD (eb L ((aE n).getD d9 aT).1) z3).1.me) (bT _ _ _ _)) h aL rfl (ak _) rfl ?_;intro f h
    refine aV h rfl rfl rfl ?_
    refine bB 1 h s aL rfl rfl (ak _) rfl ?_;intro f h
    refine aV h rfl rfl rfl ?_
    refine ao h (av (.bool true) (eE (g4 _ _) (by kernel_rfl) (by decide) (h.ev rfl) (h.ev rfl) (decide ((L.getD (eb L ((aE n).getD d9 aT).1) z3).1.me=((aE n).getD d9 aT))) (ee _ _)) (by rw [p1];rfl)) rfl ?_;intro f h
    refine ao h (aI (h.ev rfl) (h.ev rfl)) rfl ?_;intro f h
    refine cq s fun w1 s=>?_
    refine ah ?_
    refine hK6 _ _ ?_
    refine wpIn_cond_true (h.ev rfl) ?_
    refine al fun K7 hK7=>?_
    refine ae ?_
    refine bg 3 h s fx rfl rfl rfl (by simp) (rfl) ?_;intro w1 s
    refine ah ?_
    refine hK7 _ _ ?_
    refine wpIn_ret ?_
    refine bU ?_
    refine ⟨((Dr p0).trans (by rw [p1];rfl)),_,rfl,s.pick _ ?_⟩
    exact List.Sublist.cons_cons _ (List.Sublist.cons _ (List.Sublist.refl _))
   ·skip
    refine bI 10 [[],[0],[0,1],[0,1,2],[0,1,2,3],[0,1,2,3,4],[0,1,2,3,4,5],[0,1,2],[0,1,2,3,4,5,6,7],[0,1,2,3,4,5,6,7,8]] h (by kernel_rfl) (by kernel_rfl) (by kernel_rfl) ?_
    have hp9:=of_decide_eq_true p0
    refine ao h (ag (h.ev rfl)) rfl ?_;intro f h
    refine ao h (av (.bool true) (ey Tryz.underlying54 (h.ev rfl) (h.ev rfl)) (rfl)) rfl ?_;intro f h
    refine ao h (ag (h.ev rfl)) rfl ?_;intro f h
    refine aV h rfl rfl rfl ?_
    refine ao h (ag (h.ev rfl)) rfl ?_;intro f h
    refine aV h rfl rfl rfl ?_
    refine ao h (bo (h.ev rfl)) rfl ?_;intro f h
    refine aV h rfl rfl rfl ?_
    refine ao h (bG aR (h.ev rfl) ((hO.1.keep s.ext).some (by omega))) rfl ?_;intro f h
    refine aV h rfl rfl rfl ?_
    refine bk (bq.elF (hO.1.keep s.ext) (eb L ((aE n).getD d9 aT).1) 0 33 (by omega) (by decide) (C:=aC (L.getD (eb L ((aE n).getD d9 aT).1) z3).1.me (L.getD (eb L ((aE n).getD d9 aT).1) z3).1.pr (L.getD (eb L ((aE n).getD d9 aT).1) z3).2.1 (L.getD (eb L ((aE n).getD d9 aT).1) z3).2.2) (df L _ hp9) (D:=aw (L.getD (eb L ((aE n).getD d9 aT).1) z3).1.me) (bT _ _ _ _)) h aL rfl (ak _) rfl ?_;intro f h
    refine aV h rfl rfl rfl ?_
    refine bB 1 h s aL rfl rfl (ak _) rfl ?_;intro f h
    refine aV h rfl rfl rfl ?_
    refine ao h (av (.bool false) (eE (g4 _ _) (by kernel_rfl) (by decide) (h.ev rfl) (h.ev rfl) (decide ((L.getD (eb L ((aE n).getD d9 aT).1) z3).1.me=((aE n).getD d9 aT))) (ee _ _)) (by rw [p1];rfl)) rfl ?_;intro f h
    refine ao h (aI (h.ev rfl) (h.ev rfl)) rfl ?_;intro f h
    refine cq s fun w1 s=>?_
    refine ah ?_
    refine hK6 _ _ ?_
    refine wpIn_cond_false (h.ev rfl) ?_
    refine wpIn_skip ?_
    refine bF ?_
    refine ⟨((Dr p0).trans (by rw [p1];rfl)),_,rfl,s.pick _ ?_⟩
    exact List.Sublist.cons_cons _ (List.Sublist.cons _ (List.Sublist.refl _))
 ·intro D9 A9 w2 hJ9 hq9 s
  obtain rfl:=hJ9
  replace h:Sl _ {f with defers:={target:=.collected D9,args:=#[]}::f.defers} _ [{target:=.collected D9,args:=#[]}]:=⟨h.size,by rw [h.defers],h.holds⟩
  refine bF ?_
  refine hK2 _ _ ?_
  refine al fun K8 hK8=>?_
  refine ae ?_
  refine bg 3 h s fx rfl rfl rfl (by simp) (rfl) ?_;intro w1 s
  refine ah ?_
  refine hK8 _ _ ?_
  refine wpIn_ret ?_
  exact ft 3 0 rfl h s fx rfl rfl rfl rfl rfl (fun w9=>by show _=_;rw [zY hq9];rfl)
 ·intro D9 d9 A9 w2 hd9 hqd9 hq9 hJ9 s
  obtain rfl:=hJ9
  replace h:Sl _ {f with defers:={target:=.collected D9,args:=#[]}::f.defers} _ [{target:=.collected D9,args:=#[]}]:=⟨h.size,by rw [h.defers],h.holds⟩
  refine bU ?_
  refine aW ?_
  exact ft 3 0 rfl h s fx rfl rfl rfl rfl rfl (fun w9=>by show _=_;rw [yp hd9 hqd9];rfl)
theorem d4 (L:List N3) (vo:Value) (w:World) (hO:dN w vo L) (hL:L.length≤40) (hb:RwB L):Calls Tryz.prog 11 [.agg #[vo]].toArray w (cU w (is (.bool (gm L)))):=by
 have hml:(aM L).length≤1000:=by rw [List.length_map];omega
 refine ep Tryz.func11 rfl Tryz.ntmps11 rfl [(0,.agg #[vo])] (by simp) fun f h=>?_
 have s:=St.start w
 refine al fun K1 hK1=>?_
 refine ae ?_
 refine bV (#[vo]) h s rfl rfl rfl ?_;intro f w1 b1 h s
 refine bj (#[.bool false]) h s sU rfl rfl ?_;intro f w1 b2 h s
 refine ah ?_
 refine hK1 _ _ ?_
 refine al fun K2 hK2=>?_
 refine ae ?_
 refine ar 1 h s a6 rfl rfl (rfl) rfl ?_;intro f h
 refine aH h s AH (jT L vo _ (hO.keep s.ext) hL) rfl rfl ?_;intro f w1 v6 hT hE h sq;replace s:=s.sl_new hE hT
 refine ac h (aj (h.ev rfl)) rfl ?_;intro f h
 refine ah ?_
 refine hK2 _ _ ?_
 refine al fun K3 hK3=>?_
 refine al fun K4 hK4=>?_
 cases r0:(dc (aM L):Bool)
 ·skip
  refine ae ?_
  refine ac h (ag (h.ev rfl)) rfl ?_;intro f h
  refine aH h s qr (aO (.bool false) (gD (aM L) v6 _ (bq.of_own (s.getSl 0 rfl)) hml) (congrArg Value.bool r0)) rfl rfl ?_;intro f w1 v9 hT hE h s;obtain rfl:=hT
  refine ac h (av (.bool true) (bh (h.ev rfl)) rfl) rfl ?_;intro f h
  refine ac h (ag (h.ev rfl)) rfl ?_;intro f h
  refine aA (b:=false) h rfl rfl rfl rfl ?_;intro f h
  refine aA (b:=false) h rfl rfl rfl rfl ?_;intro f h
  refine aA (b:=false) h rfl rfl rfl rfl ?_;intro f h
  refine ac h (aI (h.ev rfl) (h.ev rfl)) rfl ?_;intro f h
  refine ah ?_
  refine hK4 _ _ ?_
  refine wpIn_cond_true (h.ev rfl) ?_
  refine al fun K5 hK5=>?_
  refine ae ?_
  refine bg 1 h s fx rfl rfl rfl (by simp) (rfl) ?_;intro w1 s
  refine ah ?_
  refine hK5 _ _ ?_
  refine wpIn_ret ?_
  refine aW ?_
  exact mv 1 rfl h s fx rfl rfl rfl (fun w9=>(congrArg Value.bool (BC r0)).symm)
 ·skip
  cases r1:(mF (aM L):Bool)
  ·skip
   refine ae ?_
   refine ac h (ag (h.ev rfl)) rfl ?_;intro f h
   refine aH h s qr (aO (.bool true) (gD (aM L) v6 _ (bq.of_own (s.getSl 0 rfl)) hml) (congrArg Value.bool r0)) rfl rfl ?_;intro f w1 v9 hT hE h s;obtain rfl:=hT
   refine ac h (av (.bool false) (bh (h.ev rfl)) rfl) rfl ?_;intro f h
   refine ac h (ag (h.ev rfl)) rfl ?_;intro f h
   refine az h rfl rfl rfl ?_
   refine ac h (ag (h.ev rfl)) rfl ?_;intro f h
   refine az h rfl rfl rfl ?_
   refine aH h s Ak (aO (.bool false) (kh (aM L) v6 _ (bq.of_own (s.getSl 0 rfl)) hml) (congrArg Value.bool r1)) rfl rfl ?_;intro f w1 v9 hT hE h s;obtain rfl:=hT
   refine az h rfl rfl rfl ?_
   refine ac h (av (.bool true) (bh (h.ev rfl)) rfl) rfl ?_;intro f h
   refine ac h (aG (h.ev rfl) (h.ev rfl)) rfl ?_;intro f h
   refine ah ?_
   refine hK4 _ _ ?_
   refine wpIn_cond_true (h.ev rfl) ?_
   refine al fun K6 hK6=>?_
   refine ae ?_
   refine bg 1 h s fx rfl rfl rfl (by simp) (rfl) ?_;intro w1 s
   refine ah ?_
   refine hK6 _ _ ?_
   refine wpIn_ret ?_
   refine aW ?_
   exact mv 1 rfl h s fx rfl rfl rfl (fun w9=>(congrArg Value.bool (BA r1)).symm)
  ·skip
   refine ae ?_
   refine ac h (ag (h.ev rfl)) rfl ?_;intro f h
   refine aH h s qr (aO (.bool true) (gD (aM L) v6 _ (bq.of_own (s.getSl 0 rfl)) hml) (congrArg Value.bool r0)) rfl rfl ?_;intro f w1 v9 hT hE h s;obtain rfl:=hT
   refine ac h (av (.bool false) (bh (h.ev rfl)) rfl) rfl ?_;intro f h
   refine ac h (ag (h.ev rfl)) rfl ?_;intro f h
   refine az h rfl rfl rfl ?_
   refine ac h (ag (h.ev rfl)) rfl ?_;intro f h
   refine az h rfl rfl rfl ?_
   refine aH h s Ak (aO (.bool true) (kh (aM L) v6 _ (bq.of_own (s.getSl 0 rfl)) hml) (congrArg Value.bool r1)) rfl rfl ?_;intro f w1 v9 hT hE h s;obtain rfl:=hT
   refine az h rfl rfl rfl ?_
   refine ac h (av (.bool false) (bh (h.ev rfl)) rfl) rfl ?_;intro f h
   refine ac h (aG (h.ev rfl) (h.ev rfl)) rfl ?_;intro f h
   refine ah ?_
   refine hK4 _ _ ?_
   refine wpIn_cond_false (h.ev rfl) ?_
   refine wpIn_skip ?_
   refine hK3 _ _ ?_
   refine al fun K7 hK7=>?_
   refine al fun K8 hK8=>?_
   refine ae ?_
   refine ar 2 h s a6 rfl rfl (rfl) rfl ?_;intro f h
   refine dq [.agg #[vo]] h lA (fy vo _ _ _ s) rfl rfl ?_;rintro f w1 r ⟨bn,rfl,s⟩ h
   refine ah ?_
   refine hK8 _ _ ?_
   refine wpIn_block ?_
   refine ed (fun d A9=>A9=[.sl v6 28 33 (aM L).length (ap (aM L)),.blk b2 (.cells #[.bool false] 4),.blk b1 (.cells #[vo] 24)]) [.sl v6 28 33 (aM L).length (ap (aM L)),.blk b2 (.cells #[.bool false] 4),.blk b1 (.cells #[vo] 24)] [.blk bn (.cells #[vo] 24)] (L.length) (xK L) (fun d=>[Value.pointer (some (aN vo (d*68)))]) h s rfl lm (List.Perm.refl _) (rfl) (fun _=>rfl) ?_ ?_ ?_ ?_
   ·intro lp w2 GG g0 hg0 s2 hY;exact eR L.length (by omega) vo _ _ hO.1 lp bn (xK L) GG g0 w w2 s2 hg0 hY
   ·intro lp D9 d9 rc R9 A9 w2 hd9 hq9 hJ9 s
    obtain rfl:=hJ9
    have h:=Sl.round1 (p:=17) (V:=.pointer (some (aN vo (d9*68)))) h rfl
    have hdl9:=hd9
    refine ae ?_
    refine ac h (aj (h.ev rfl)) rfl ?_;intro f h
    refine ah ?_
    refine bQ ?_
    refine ⟨_,s,fun w3 s=>?_⟩
    refine wpIn_block ?_
    refine al fun K9 hK9=>?_
    cases k0:(cy (L.getD d9 z3).1:Bool)
    ·skip
     refine bI 13 [[],[0],[0,1],[0,1,2],[0,1,2,3],[0,1,2,3,4],[0,1,2,3,4,5],[0,1,2,3,4,5,6],[0,1,2,3,4,5,6,7],[0,1,2,3,4,5],[0,1,2,3,4,5,6,7,8,9],[0,1,2,3,4,5,6,7,8,9,10],[0,1,2,3,4,5,6,7,8,9,10,11]] h (by kernel_rfl) (by kernel_rfl) (by kernel_rfl) ?_
     have hx9:=hb.each _ (bw hdl9)
     refine ao h (ag (h.ev rfl)) rfl ?_;intro f h
     refine ao h (bo (h.ev rfl)) rfl ?_;intro f h
     refine bk ((hO.1.keep s.ext).el (d9) (by omega) (by decide) (D:=aC (L.getD d9 z3).1.me (L.getD d9 z3).1.pr (L.getD d9 z3).2.1 (L.getD d9 z3).2.2) (df L d9 hdl9)) h aZ rfl (aq _ _ _ _) rfl ?_;intro f h
     refine cm h gA (fun w9 hE9=>aO (.bool false) (dd (L.getD d9 z3).1 (L.getD d9 z3).2.1 (L.getD d9 z3).2.2 w9 ((hO.2 _ (bw hdl9)).1.keep (s.ext.trans hE9)) ((hO.2 _ (bw hdl9)).2.keep (s.ext.trans hE9)) (by omega) (by omega)) (congrArg Value.bool k0)) rfl rfl ?_;intro f h
     refine ao h (av (.bool true) (bh (h.ev rfl)) rfl) rfl ?_;intro f h
     refine ao h (ag (h.ev rfl)) rfl ?_;intro f h
     refine aY (b:=false) h rfl rfl rfl rfl ?_;intro f h
     refine aY (b:=false) h rfl rfl rfl rfl ?_;intro f h
     refine aY (b:=false) h rfl rfl rfl rfl ?_;intro f h
     refine aY (b:=false) h rfl rfl rfl rfl ?_;intro f h
     refine aY (b:=false) h rfl rfl rfl rfl ?_;intro f h
     refine aY (b:=false) h rfl rfl rfl rfl ?_;intro f h
     refine ao h (aI (h.ev rfl) (h.ev rfl)) rfl ?_;intro f h
     refine cq s fun w1 s=>?_
     refine ah ?_
     refine hK9 _ _ ?_
     refine wpIn_cond_true (h.ev rfl) ?_
     refine al fun K10 hK10=>?_
     refine ae ?_
     refine bg 3 h s fx rfl rfl rfl (by simp) (rfl) ?_;intro w1 s
     refine ah ?_
     refine hK10 _ _ ?_
     refine wpIn_ret ?_
     refine bU ?_
     refine ⟨(Er k0),_,rfl,s.pick _ ?_⟩
     exact List.Sublist.cons_cons _ (List.Sublist.refl _)
    ·skip
     cases k1:((aE (L.getD d9 z3).1).any (jv L):Bool)
     ·skip
      refine bI 13 [[],[0],[0,1],[0,1,2],[0,1,2,3],[0,1,2,3,4],[0,1,2,3,4,5],[0,1,2,3,4,5,6],[0,1,2,3,4,5,6,7],[0,1,2,3,4,5],[0,1,2,3,4,5,6,7,8,9],[0,1,2,3,4,5,6,7,8,9,10],[0,1,2,3,4,5,6,7,8,9,10,11]] h (by kernel_rfl) (by kernel_rfl) (by kernel_rfl) ?_
      have hx9:=hb.each _ (bw hdl9)
      refine ao h (ag (h.ev rfl)) rfl ?_;intro f h
      refine ao h (bo (h.ev rfl)) rfl ?_;intro f h
      refine bk ((hO.1.keep s.ext).el (d9) (by omega) (by decide) (D:=aC (L.getD d9 z3).1.me (L.getD d9 z3).1.pr (L.getD d9 z3).2.1 (L.getD d9 z3).2.2) (df L d9 hdl9)) h aZ rfl (aq _ _ _ _) rfl ?_;intro f h
      refine cm h gA (fun w9 hE9=>aO (.bool true) (dd (L.getD d9 z3).1 (L.getD d9 z3).2.1 (L.getD d9 z3).2.2 w9 ((hO.2 _ (bw hdl9)).1.keep (s.ext.trans hE9)) ((hO.2 _ (bw hdl9)).2.keep (s.ext.trans hE9)) (by omega) (by omega)) (congrArg Value.bool k0)) rfl rfl ?_;intro f h
      refine ao h (av (.bool false) (bh (h.ev rfl)) rfl) rfl ?_;intro f h
      refine ao h (ag (h.ev rfl)) rfl ?_;intro f h
      refine aV h rfl rfl rfl ?_
      refine ao h (ag (h.ev rfl)) rfl ?_;intro f h
      refine aV h rfl rfl rfl ?_
      refine ao h (bo (h.ev rfl)) rfl ?_;intro f h
      refine aV h rfl rfl rfl ?_
      refine bk ((hO.1.keep s.ext).el (d9) (by omega) (by decide) (D:=aC (L.getD d9 z3).1.me (L.getD d9 z3).1.pr (L.getD d9 z3).2.1 (L.getD d9 z3).2.2) (df L d9 hdl9)) h aZ rfl (aq _ _ _ _) rfl ?_;intro f h
      refine aV h rfl rfl rfl ?_
      refine bB 4 h s a6 rfl rfl (rfl) rfl ?_;intro f h
      refine aV h rfl rfl rfl ?_
      refine cm h AT (fun w9 hE9=>aO (.bool true) (ol (L.getD d9 z3).1 (L.getD d9 z3).2.1 (L.getD d9 z3).2.2 L vo w9 ((hO.2 _ (bw hdl9)).1.keep (s.ext.trans hE9)) ((hO.2 _ (bw hdl9)).2.keep (s.ext.trans hE9)) (by omega) (by omega) (hO.keep (s.ext.trans hE9)) hL) (by rw [k1];rfl)) rfl rfl ?_;intro f h
      refine aV h rfl rfl rfl ?_
      refine ao h (av (.bool false) (bh (h.ev rfl)) rfl) rfl ?_;intro f h
      refine ao h (aG (h.ev rfl) (h.ev rfl)) rfl ?_;intro f h
      refine cq s fun w1 s=>?_
      refine ah ?_
      refine hK9 _ _ ?_
      refine wpIn_cond_false (h.ev rfl) ?_
      refine wpIn_skip ?_
      refine bF ?_
      refine ⟨((C9 k0).trans k1),_,rfl,s.pick _ ?_⟩
      exact List.Sublist.cons_cons _ (List.Sublist.refl _)
     ·skip
      refine bI 13 [[],[0],[0,1],[0,1,2],[0,1,2,3],[0,1,2,3,4],[0,1,2,3,4,5],[0,1,2,3,4,5,6],[0,1,2,3,4,5,6,7],[0,1,2,3,4,5],[0,1,2,3,4,5,6,7,8,9],[0,1,2,3,4,5,6,7,8,9,10],[0,1,2,3,4,5,6,7,8,9,10,11]] h (by kernel_rfl) (by kernel_rfl) (by kernel_rfl) ?_
      have hx9:=hb.each _ (bw hdl9)
      refine ao h (ag (h.ev rfl)) rfl ?_;intro f h
      refine ao h (bo (h.ev rfl)) rfl ?_;intro f h
      refine bk ((hO.1.keep s.ext).el (d9) (by omega) (by decide) (D:=aC (L.getD d9 z3).1.me (L.getD d9 z3).1.pr (L.getD d9 z3).2.1 (L.getD d9 z3).2.2) (df L d9 hdl9)) h aZ rfl (aq _ _ _ _) rfl ?_;intro f h
      refine cm h gA (fun w9 hE9=>aO (.bool true) (dd (L.getD d9 z3).1 (L.getD d9 z3).2.1 (L.getD d9 z3).2.2 w9 ((hO.2 _ (bw hdl9)).1.keep (s.ext.trans hE9)) ((hO.2 _ (bw hdl9)).2.keep (s.ext.trans hE9)) (by omega) (by omega)) (congrArg Value.bool k0)) rfl rfl ?_;intro f h
      refine ao h (av (.bool false) (bh (h.ev rfl)) rfl) rfl ?_;intro f h
      refine ao h (ag (h.ev rfl)) rfl ?_;intro f h
      refine aV h rfl rfl rfl ?_
      refine ao h (ag (h.ev rfl)) rfl ?_;intro f h
      refine aV h rfl rfl rfl ?_
      refine ao h (bo (h.ev rfl)) rfl ?_;intro f h
      refine aV h rfl rfl rfl ?_
      refine bk ((hO.1.keep s.ext).el (d9) (by omega) (by decide) (D:=aC (L.getD d9 z3).1.me (L.getD d9 z3).1.pr (L.getD d9 z3).2.1 (L.getD d9 z3).2.2) (df L d9 hdl9)) h aZ rfl (aq _ _ _ _) rfl ?_;intro f h
      refine aV h rfl rfl rfl ?_
      refine bB 4 h s a6 rfl rfl (rfl) rfl ?_;intro f h
      refine aV h rfl rfl rfl ?_
      refine cm h AT (fun w9 hE9=>aO (.bool false) (ol (L.getD d9 z3).1 (L.getD d9 z3).2.1 (L.getD d9 z3).2.2 L vo w9 ((hO.2 _ (bw hdl9)).1.keep (s.ext.trans hE9)) ((hO.2 _ (bw hdl9)).2.keep (s.ext.trans hE9)) (by omega) (by omega) (hO.keep (s.ext.trans hE9)) hL) (by rw [k1];rfl)) rfl rfl ?_;intro f h
      refine aV h rfl rfl rfl ?_
      refine ao h (av (.bool true) (bh (h.ev rfl)) rfl) rfl ?_;intro f h
      refine ao h (aG (h.ev rfl) (h.ev rfl)) rfl ?_;intro f h
      refine cq s fun w1 s=>?_
      refine ah ?_
      refine hK9 _ _ ?_
      refine wpIn_cond_true (h.ev rfl) ?_
      refine al fun K11 hK11=>?_
      refine ae ?_
      refine bg 3 h s fx rfl rfl rfl (by simp) (rfl) ?_;intro w1 s
      refine ah ?_
      refine hK11 _ _ ?_
      refine wpIn_ret ?_
      refine bU ?_
      refine ⟨((C9 k0).trans k1),_,rfl,s.pick _ ?_⟩
      exact List.Sublist.cons_cons _ (List.Sublist.refl _)
   ·intro D9 A9 w2 hJ9 hq9 s
    obtain rfl:=hJ9
    replace h:Sl _ {f with defers:={target:=.collected D9,args:=#[]}::f.defers} _ [{target:=.collected D9,args:=#[]}]:=⟨h.size,by rw [h.defers],h.holds⟩
    refine bF ?_
    refine hK7 _ _ ?_
    refine al fun K12 hK12=>?_
    refine ae ?_
    refine bg 3 h s fx rfl rfl rfl (by simp) (rfl) ?_;intro w1 s
    refine ah ?_
    refine hK12 _ _ ?_
    refine wpIn_ret ?_
    exact ft 3 0 rfl h s fx rfl rfl rfl rfl rfl (fun w9=>(congrArg Value.bool (yL r0 r1 hq9)).symm)
   ·intro D9 d9 A9 w2 hd9 hqd9 hq9 hJ9 s
    obtain rfl:=hJ9
    replace h:Sl _ {f with defers:={target:=.collected D9,args:=#[]}::f.defers} _ [{target:=.collected D9,args:=#[]}]:=⟨h.size,by rw [h.defers],h.holds⟩
    refine bU ?_
    refine aW ?_
    exact ft 3 0 rfl h s fx rfl rfl rfl rfl rfl (fun w9=>(congrArg Value.bool (zk r0 r1 hd9 hqd9)).symm)
end Go.Proofs.YthggibfkgofncaaGreat
