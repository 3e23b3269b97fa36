/- Which overlays are stable, by package chord, and who follows whom, by package ring. -/
import Derived.Test.YthggibfkgofncaaGreatWa
import Derived.Test.YthggibfkgofncaaGreatWz
import Derived.Test.YthggibfkgofncaaGreatSh
set_option linter.unusedVariables false
set_option linter.unusedSimpArgs false
set_option linter.unusedSectionVars false
namespace Go.Proofs.YthggibfkgofncaaGreat
open Go.RowKit
theorem qu (l:List Mb) (vh:Value) (no:Int) (w:World) (hR:bq w vh 33 l.length (ap l)) (hln:l.length≤1000):Calls Tryz.prog 115 [vh,.int .i64 no].toArray w (cU w (is (.tuple #[.agg (aw (eI l no)),.int .i64 (fM l no)]))):=by
 refine bp Tryz.func115 rfl Tryz.ntmps115 rfl [(0,vh),(1,.int .i64 no)] (by simp) fun f h=>?_
 have s:=St.start w
 refine al fun K1 hK1=>?_
 refine ae ?_
 refine bj (aw aT) h s cB rfl rfl ?_;intro f w1 b4 h s
 refine ac h (aj (h.ev rfl)) rfl ?_;intro f h
 refine ah ?_
 refine hK1 _ _ ?_
 refine al fun K2 hK2=>?_
 refine al fun K3 hK3=>?_
 cases hr:(dc l:Bool)
 ·skip
  refine ae ?_
  refine ac h (ag (h.ev rfl)) rfl ?_;intro f h
  refine aH h s qr (aO (.bool false) (gD l vh _ (hR.keep s.ext) hln) (congrArg Value.bool hr)) rfl rfl ?_;intro f w1 v9 hT hE h s;obtain rfl:=hT
  refine ac h (av (.bool true) (bh (h.ev rfl)) rfl) rfl ?_;intro f h
  refine ah ?_
  refine hK3 _ _ ?_
  refine wpIn_cond_true (h.ev rfl) ?_
  refine al fun K4 hK4=>?_
  refine ae ?_
  refine ac h (gV mO) rfl ?_;intro f h
  refine ax 0 h s aL rfl rfl rfl (ak _) (ak _) (aS _) ?_;intro w1 s
  refine ac h (aj (h.ev rfl)) rfl ?_;intro f h
  refine ah ?_
  refine hK4 _ _ ?_
  refine wpIn_ret ?_
  refine aW ?_
  exact ct 0 rfl h s aL rfl rfl (ak _) rfl (by show _=_;rw [(pn no hr).1,(pn no hr).2]<;>rfl)
 ·skip
  refine ae ?_
  refine ac h (ag (h.ev rfl)) rfl ?_;intro f h
  refine aH h s qr (aO (.bool true) (gD l vh _ (hR.keep s.ext) hln) (congrArg Value.bool hr)) rfl rfl ?_;intro f w1 v9 hT hE h s;obtain rfl:=hT
  refine ac h (av (.bool false) (bh (h.ev rfl)) rfl) rfl ?_;intro f h
  refine ah ?_
  refine hK3 _ _ ?_
  refine wpIn_cond_false (h.ev rfl) ?_
  refine wpIn_skip ?_
  refine hK2 _ _ ?_
  refine al fun K5 hK5=>?_
  refine al fun K6 hK6=>?_
  refine ae ?_
  refine ac h (ag (h.ev rfl)) rfl ?_;intro f h
  refine ac h (bc (hR.keep s.ext) Tryz.underlying36 (h.ev rfl)) rfl ?_;intro f h
  refine ac h (ag (h.ev rfl)) rfl ?_;intro f h
  refine ah ?_
  refine hK6 _ _ ?_
  refine wpIn_block ?_
  refine wpIn_loop_ghost (fun nn aa ww=>∃ k:Nat,Sl 25 aa [(0,vh),(1,.int .i64 no),(4,.pointer (some ⟨b4,0,none⟩)),(12,vh),(13,.int .i64 (l.length:Int)),(14,.int .i64 (k:Int))]∧St w [.blk b4 (.cells (aw aT) 28)] ww∧nn=l.length - k∧k≤l.length∧∀ j,j<k→decide ((l.getD j aT).1=no)=false) (l.length - (0)) ⟨0,h.only ⟨rfl,rfl,rfl,rfl,rfl,aQ rfl (by omega),trivial⟩,s.as ⟨rfl,trivial⟩,rfl,Nat.zero_le _,fun j hj=>absurd hj (Nat.not_lt_zero _)⟩ ?_
  rintro _ f w1 ⟨k,h,s,hnn,hp0,hp1⟩
  refine al fun K7 hK7=>?_
  refine ae ?_
  refine ac h (bN (h.ev rfl) (h.ev rfl)) rfl ?_;intro f h
  refine ah ?_
  refine hK7 _ _ ?_
  refine al fun K8 hK8=>?_
  refine bM h rfl (fun hc=>?_) (fun hc=>?_)
  ·replace hc:=of_decide_eq_true hc
   refine wpIn_skip ?_
   refine hK8 _ _ ?_
   refine al fun K9 hK9=>?_
   refine wpIn_block ?_
   refine al fun K10 hK10=>?_
   refine ae ?_
   have hkl:k<l.length:=by omega
   refine ac h (bZ (hR.keep s.ext) (k) Tryz.underlying36 cz (h.ev rfl) (h.ev rfl) (by omega) (by omega)) rfl ?_;intro f h
   refine aB ((hR.keep s.ext).el (k) (by omega) (by decide) (D:=aw (l.getD k aT)) (cL l k hkl)) h aL rfl (ak _) rfl ?_;intro f h
   refine bj (aw aT) h s cB rfl rfl ?_;intro f w1 b7 h s
   refine ax 0 h s aL rfl rfl rfl (ak _) (ak _) (aS _) ?_;intro w1 s
   refine ah ?_
   refine hK10 _ _ ?_
   refine al fun K11 hK11=>?_
   refine ae ?_
   refine ac h (ai aJ (h.ev rfl)) rfl ?_;intro f h
   refine au (am (aU.of_own s 0 rfl) 0 (aP _)) h bz rfl rfl ?_;intro f h
   refine ac h (ag (h.ev rfl)) rfl ?_;intro f h
   refine ac h (bX (h.ev rfl) (h.ev rfl)) rfl ?_;intro f h
   refine ah ?_
   refine hK11 _ _ ?_
   refine bM h rfl (fun hc=>?_) (fun hc=>?_)
   ·refine al fun K12 hK12=>?_
    refine ae ?_
    refine ar 0 h s aL rfl rfl (ak _) rfl ?_;intro f h
    refine ax 1 h s aL rfl rfl rfl (ak _) (ak _) (aS _) ?_;intro w1 s
    refine ac h (aj (h.ev rfl)) rfl ?_;intro f h
    refine ah ?_
    refine hK12 _ _ ?_
    refine wpIn_ret ?_
    refine bU ?_
    refine aW ?_
    refine aW ?_
    refine bU ?_
    refine aW ?_
    exact ct 1 rfl h s aL rfl rfl (ak _) rfl (by show _=_;rw [(j6 hr (mg hkl hp1 hc)).1,(j6 hr (mg hkl hp1 hc)).2]<;>rfl)
   ·refine wpIn_skip ?_
    refine bF ?_
    refine hK9 _ _ ?_
    refine ae ?_
    refine ac h (cf (h.ev rfl) (h.ev rfl) (by omega)) rfl ?_;intro f h
    refine ac h (ag (h.ev rfl)) rfl ?_;intro f h
    refine ah ?_
    refine bQ ?_
    exact ⟨_,by omega,⟨k+1,h.only ⟨rfl,rfl,rfl,rfl,rfl,aQ rfl (by omega),trivial⟩,St.as (s.pick _ (List.sublist_append_right [_] _)) ⟨rfl,trivial⟩,rfl,by omega,dm (q:=fun j=>decide ((l.getD j aT).1=no)) hp1 hc⟩⟩
  ·replace hc:=of_decide_eq_false hc
   refine wpIn_exit ?_
   refine bJ ?_
   refine bJ ?_
   refine cC ?_
   refine hK5 _ _ ?_
   refine al fun K13 hK13=>?_
   refine ae ?_
   refine ac h (gV mO) rfl ?_;intro f h
   refine ax 0 h s aL rfl rfl rfl (ak _) (ak _) (aS _) ?_;intro w1 s
   refine ac h (aj (h.ev rfl)) rfl ?_;intro f h
   refine ah ?_
   refine hK13 _ _ ?_
   refine wpIn_ret ?_
   exact ct 0 rfl h s aL rfl rfl (ak _) rfl (by show _=_;rw [(nx hr (l7 (by omega) hp1)).1,(nx hr (l7 (by omega) hp1)).2]<;>rfl)
theorem og (x9:Id) (w:World):Calls Tryz.prog 117 [fa x9].toArray w (cU w (fun v w9=>∃ bx,v=.func (.func 137) #[] #[.pointer (some ⟨bx,0,none⟩)]∧g7 w9 bx (bA x9))):=by
 refine bp Tryz.func117 rfl Tryz.ntmps117 rfl [(0,fa x9)] (by simp) fun f h=>?_
 have s:=St.start w
 refine al fun K1 hK1=>?_
 refine ae ?_
 refine bV (bA x9) h s rfl rfl rfl ?_;intro f w1 b1 h s
 refine ac h (aj (h.ev rfl)) rfl ?_;intro f h
 refine ah ?_
 refine hK1 _ _ ?_
 refine al fun K2 hK2=>?_
 refine ae ?_
 refine ac h (dY [.pointer (some ⟨b1,0,none⟩)] (lQ h rfl)) rfl ?_;intro f h
 refine ac h (aj (h.ev rfl)) rfl ?_;intro f h
 refine ah ?_
 refine hK2 _ _ ?_
 refine wpIn_ret ?_
 exact bf rfl h s rfl (⟨b1,rfl,g7.of_own s 0 rfl⟩)
theorem my (x y:Mb) (x9:Id) (bx:Nat) (w:World) (hb:g7 w bx (bA x9)):Calls Tryz.prog 137 [.agg (aw x),.agg (aw y),.pointer (some ⟨bx,0,none⟩)].toArray w (cU w (is (.int .i64 (fJ (x.2 - x9) (y.2 - x9))))):=by
 refine bp Tryz.func137 rfl Tryz.ntmps137 rfl [(0,.agg (aw x)),(1,.agg (aw y)),(2,.pointer (some ⟨bx,0,none⟩))] (by simp) fun f h=>?_
 have s:=St.start w
 refine al fun K1 hK1=>?_
 refine ae ?_
 refine bV ((aw x)) h s rfl rfl rfl ?_;intro f w1 b3 h s
 refine bV ((aw y)) h s rfl rfl rfl ?_;intro f w1 b4 h s
 refine ac h (aj (h.ev rfl)) rfl ?_;intro f h
 refine ah ?_
 refine hK1 _ _ ?_
 refine al fun K2 hK2=>?_
 refine bI 10 [[],[],[1],[0,1,2],[],[],[5],[0,1,2,3,4,5,6],[0,1,2,3,4,5,6,7],[0,1,2,3,4,5,6,7,8]] h (by kernel_rfl) (by kernel_rfl) (by kernel_rfl) ?_
 refine bk (aU.subL (aU.of_tab (hb.keep s.ext)) 0 32 (D:=bA x9) (oo _)) h bP rfl (by first|exact aK _|exact aF _ _) rfl ?_;intro f h
 refine ao h (ai bW (h.ev rfl)) rfl ?_;intro f h
 refine bk (aU.subL (aU.of_own s 1 rfl) 1 32 (D:=bA (_)) (cj _)) h bP rfl (by first|exact aK _|exact aF _ _) rfl ?_;intro f h
 refine cm h o4 (fun w9 hE9=>l6 _ _ w9) rfl rfl ?_;intro f h
 refine bk (aU.subL (aU.of_tab (hb.keep s.ext)) 0 32 (D:=bA x9) (oo _)) h bP rfl (by first|exact aK _|exact aF _ _) rfl ?_;intro f h
 refine ao h (ai bW (h.ev rfl)) rfl ?_;intro f h
 refine bk (aU.subL (aU.of_own s 0 rfl) 1 32 (D:=bA (_)) (cj _)) h bP rfl (by first|exact aK _|exact aF _ _) rfl ?_;intro f h
 refine cm h o4 (fun w9 hE9=>l6 _ _ w9) rfl rfl ?_;intro f h
 refine cm h xi (fun w9 hE9=>lh _ _ w9) rfl rfl ?_;intro f h
 refine ao h (aj (h.ev rfl)) rfl ?_;intro f h
 refine cq s fun w1 s=>?_
 refine ah ?_
 refine hK2 _ _ ?_
 refine wpIn_ret ?_
 exact bf rfl h s rfl (rfl)
theorem vN (l:List Mb) (vh:Value) (x9:Id) (bx:Nat) (w:World) (hR:bq w vh 33 l.length (ap l)) (hln:l.length≤1000) (hb:g7 w bx (bA x9)) (h0:0<l.length):Calls Tryz.prog 116 [vh,.func (.func 137) #[] #[.pointer (some ⟨bx,0,none⟩)]].toArray w (cU w (is (.agg (aw (lV (oI x9) l (l.length - 1)))))):=by
 refine bp Tryz.func116 rfl Tryz.ntmps116 rfl [(0,vh),(1,.func (.func 137) #[] #[.pointer (some ⟨bx,0,none⟩)])] (by simp) fun f h=>?_
 have s:=St.start w
 refine al fun K1 hK1=>?_
 refine ae ?_
 refine bj (aw aT) h s cB rfl rfl ?_;intro f w1 b4 h s
 refine ah ?_
 refine hK1 _ _ ?_
 refine al fun K2 hK2=>?_
 refine al fun K3 hK3=>?_
 refine ae ?_
 refine ac h (ag (h.ev rfl)) rfl ?_;intro f h
 refine ac h (bc (hR.keep s.ext) Tryz.underlying36 (h.ev rfl)) rfl ?_;intro f h
 refine ac h (bN (h.ev rfl) (h.ev rfl)) rfl ?_;intro f h
 refine ah ?_
 refine hK3 _ _ ?_
 refine bM h rfl (fun hc=>?_) (fun hc=>?_)
 ·replace hc:=of_decide_eq_true hc
  exfalso;omega
 ·refine wpIn_skip ?_
  refine hK2 _ _ ?_
  refine al fun K4 hK4=>?_
  refine ae ?_
  refine ac h (ag (h.ev rfl)) rfl ?_;intro f h
  refine ac h (bZ (hR.keep s.ext) (0) Tryz.underlying36 cz (h.ev rfl) (h.ev rfl) (by omega) (by omega)) rfl ?_;intro f h
  refine aB ((hR.keep s.ext).el (0) (by omega) (by decide) (D:=aw (l.getD 0 aT)) (cL l 0 h0)) h aL rfl (ak _) rfl ?_;intro f h
  refine bj (aw aT) h s cB rfl rfl ?_;intro f w1 b5 h s
  refine ax 0 h s aL rfl rfl rfl (ak _) (ak _) (aS _) ?_;intro w1 s
  refine ah ?_
  refine hK4 _ _ ?_
  refine al fun K5 hK5=>?_
  refine al fun K6 hK6=>?_
  refine ae ?_
  refine ac h (aj (h.ev rfl)) rfl ?_;intro f h
  refine ah ?_
  refine hK6 _ _ ?_
  refine wpIn_block ?_
  refine wpIn_loop_ghost (fun nn aa ww=>∃ k:Nat,Sl 33 aa [(0,vh),(4,.pointer (some ⟨b4,0,none⟩)),(5,.pointer (some ⟨b5,0,none⟩)),(1,.func (.func 137) #[] #[.pointer (some ⟨bx,0,none⟩)]),(6,.int .i64 ((k:Int)+1))]∧St w [.blk b5 (.cells (aw (lV (oI x9) l k)) 28),.blk b4 (.cells (aw aT) 28)] ww∧nn=l.length - k∧k+1≤l.length) (l.length - (0)) ⟨0,h.only ⟨rfl,rfl,rfl,rfl,rfl,trivial⟩,s.as ⟨rfl,rfl,trivial⟩,rfl,by omega⟩ ?_
  rintro _ f w1 ⟨k,h,s,hnn,hp0⟩
  refine al fun K7 hK7=>?_
  refine al fun K8 hK8=>?_
  refine ae ?_
  refine ac h (ag (h.ev rfl)) rfl ?_;intro f h
  refine ac h (ag (h.ev rfl)) rfl ?_;intro f h
  refine ac h (bc (hR.keep s.ext) Tryz.underlying36 (h.ev rfl)) rfl ?_;intro f h
  refine ac h (bN (h.ev rfl) (h.ev rfl)) rfl ?_;intro f h
  refine ah ?_
  refine hK8 _ _ ?_
  refine bM h rfl (fun hc=>?_) (fun hc=>?_)
  ·replace hc:=of_decide_eq_true hc
   refine wpIn_skip ?_
   refine hK7 _ _ ?_
   refine al fun K9 hK9=>?_
   refine wpIn_block ?_
   refine al fun K10 hK10=>?_
   refine bI 8 [[],[],[],[1,2],[1,2,3],[],[0,1,2,3,4,5],[0,1,2,3,4,5,6]] h (by kernel_rfl) (by kernel_rfl) (by kernel_rfl) ?_
   refine ao h (ag (h.ev rfl)) rfl ?_;intro f h
   refine ao h (ag (h.ev rfl)) rfl ?_;intro f h
   have hkl:k+1<l.length:=by omega
   refine ao h (ag (h.ev rfl)) rfl ?_;intro f h
   refine ao h (bZ (hR.keep s.ext) (k+1) Tryz.underlying36 cz (h.ev rfl) (h.ev rfl) (by omega) (by omega)) rfl ?_;intro f h
   refine bk ((hR.keep s.ext).el (k+1) (by omega) (by decide) (D:=aw (l.getD (k+1) aT)) (cL l (k+1) hkl)) h aL rfl (ak _) rfl ?_;intro f h
   refine bB 0 h s aL rfl rfl (ak _) rfl ?_;intro f h
   refine oM [.agg (aw (l.getD (k+1) aT)),.agg (aw (lV (oI x9) l k))] (caps:=[.pointer (some ⟨bx,0,none⟩)]) h Cl rfl (fun w9 h9=>my _ _ x9 bx w9 (hb.keep (s.ext.trans h9))) rfl rfl ?_;intro f h
   refine ao h (av (.bool (decide (fd x9 (lV (oI x9) l k).2<fd x9 (l.getD (k+1) aT).2))) (c6 (h.ev rfl) (h.ev rfl)) (congrArg Value.bool (ym _ _ _))) rfl ?_;intro f h
   refine cq s fun w1 s=>?_
   refine ah ?_
   refine hK10 _ _ ?_
   refine bM h rfl (fun hc=>?_) (fun hc=>?_)
   ·replace hc:=of_decide_eq_true hc
    refine ae ?_
    refine ac h (ag (h.ev rfl)) rfl ?_;intro f h
    refine ac h (ag (h.ev rfl)) rfl ?_;intro f h
    refine ac h (bZ (hR.keep s.ext) (k+1) Tryz.underlying36 cz (h.ev rfl) (h.ev rfl) (by omega) (by omega)) rfl ?_;intro f h
    refine aB ((hR.keep s.ext).el (k+1) (by omega) (by decide) (D:=aw (l.getD (k+1) aT)) (cL l (k+1) hkl)) h aL rfl (ak _) rfl ?_;intro f h
    refine ax 0 h s aL rfl rfl rfl (ak _) (ak _) (aS _) ?_;intro w1 s
    refine ah ?_
    refine bF ?_
    refine hK9 _ _ ?_
    refine ae ?_
    refine ac h (ag (h.ev rfl)) rfl ?_;intro f h
    refine ac h (cf (h.ev rfl) (h.ev rfl) (by omega)) rfl ?_;intro f h
    refine ac h (aj (h.ev rfl)) rfl ?_;intro f h
    refine ah ?_
    refine bQ ?_
    exact ⟨_,by omega,⟨k+1,h.only ⟨rfl,rfl,rfl,rfl,aQ rfl (by omega),trivial⟩,St.as s ⟨il (congrArg aw (zu (f:=oI x9) hc).symm),rfl,trivial⟩,rfl,by omega⟩⟩
   ·replace hc:=of_decide_eq_false hc
    refine wpIn_skip ?_
    refine bF ?_
    refine hK9 _ _ ?_
    refine ae ?_
    refine ac h (ag (h.ev rfl)) rfl ?_;intro f h
    refine ac h (cf (h.ev rfl) (h.ev rfl) (by omega)) rfl ?_;intro f h
    refine ac h (aj (h.ev rfl)) rfl ?_;intro f h
    refine ah ?_
    refine bQ ?_
    exact ⟨_,by omega,⟨k+1,h.only ⟨rfl,rfl,rfl,rfl,aQ rfl (by omega),trivial⟩,St.as s ⟨il (congrArg aw (BV (f:=oI x9) hc).symm),rfl,trivial⟩,rfl,by omega⟩⟩
  ·replace hc:=of_decide_eq_false hc
   refine wpIn_exit ?_
   refine bJ ?_
   refine bJ ?_
   refine cC ?_
   refine hK5 _ _ ?_
   refine al fun K11 hK11=>?_
   refine ae ?_
   refine ar 0 h s aL rfl rfl (ak _) rfl ?_;intro f h
   refine ax 1 h s aL rfl rfl rfl (ak _) (ak _) (aS _) ?_;intro w1 s
   refine ah ?_
   refine hK11 _ _ ?_
   refine wpIn_ret ?_
   exact c8 1 rfl h s aL rfl rfl (ak _) ((by obtain rfl:k=l.length - 1:=(by omega);exact rfl))
theorem rO (l:List Mb) (vh:Value) (no:Int) (w:World) (hR:bq w vh 33 l.length (ap l)) (hln:l.length≤1000):Calls Tryz.prog 84 [vh,.int .i64 no].toArray w (cU w (is (.tuple #[.agg (aw (t7 l no)),.int .i64 (fM l no)]))):=by
 refine bp Tryz.func84 rfl Tryz.ntmps84 rfl [(0,vh),(1,.int .i64 no)] (by simp) fun f h=>?_
 have s:=St.start w
 refine al fun K1 hK1=>?_
 refine ae ?_
 refine bj (aw aT) h s cB rfl rfl ?_;intro f w1 b4 h s
 refine ac h (aj (h.ev rfl)) rfl ?_;intro f h
 refine ah ?_
 refine hK1 _ _ ?_
 refine al fun K2 hK2=>?_
 refine ae ?_
 refine ac h (ag (h.ev rfl)) rfl ?_;intro f h
 refine ac h (ag (h.ev rfl)) rfl ?_;intro f h
 refine aH h s xO (qu l vh no _ (hR.keep s.ext) hln) rfl rfl ?_;intro f w1 v9 hT hE h s;obtain rfl:=hT
 refine ac h (ag (h.ev rfl)) rfl ?_;intro f h
 refine ac h (bK (h.ev rfl) rfl) rfl ?_;intro f h
 refine ac h (bK (h.ev rfl) rfl) rfl ?_;intro f h
 refine bj (aw aT) h s cB rfl rfl ?_;intro f w1 b6 h s
 refine ax 0 h s aL rfl rfl rfl (ak _) (ak _) (aS _) ?_;intro w1 s
 refine ac h (aj (h.ev rfl)) rfl ?_;intro f h
 refine ah ?_
 refine hK2 _ _ ?_
 refine al fun K3 hK3=>?_
 refine al fun K4 hK4=>?_
 refine ae ?_
 refine ac h (ag (h.ev rfl)) rfl ?_;intro f h
 refine ac h (c3 (h.ev rfl) (h.ev rfl)) rfl ?_;intro f h
 refine ah ?_
 refine hK4 _ _ ?_
 refine bM h rfl (fun hc=>?_) (fun hc=>?_)
 ·have h0:¬ fM l no=0:=by simpa using hc
  refine al fun K5 hK5=>?_
  refine ae ?_
  refine ac h (gV mO) rfl ?_;intro f h
  refine ac h (ag (h.ev rfl)) rfl ?_;intro f h
  refine ax 1 h s aL rfl rfl rfl (ak _) (ak _) (aS _) ?_;intro w1 s
  refine ac h (aj (h.ev rfl)) rfl ?_;intro f h
  refine ah ?_
  refine hK5 _ _ ?_
  refine wpIn_ret ?_
  refine aW ?_
  exact ct 1 rfl h s aL rfl rfl (ak _) rfl (by show _=_;rw [Cb h0]<;>rfl)
 ·have h0:fM l no=0:=by simpa using hc
  obtain ⟨hr,hg,hf,hm,hno⟩:=xq h0
  refine wpIn_skip ?_
  refine hK3 _ _ ?_
  refine al fun K6 hK6=>?_
  refine ae ?_
  refine ac h (ag (h.ev rfl)) rfl ?_;intro f h
  refine ac h (ai bW (h.ev rfl)) rfl ?_;intro f h
  refine aB (aU.subL (aU.of_own s 0 rfl) 1 32 (D:=bA (_)) (cj _)) h bP rfl (by first|exact aK _|exact aF _ _) rfl ?_;intro f h
  refine aH h s wj (og (eI l no).2 _) rfl rfl ?_;rintro f w1 v21 ⟨bx,rfl,hbx⟩ hE h s
  refine aH h s B6 (vN l vh (eI l no).2 bx _ (hR.keep s.ext) hln hbx (jS hm)) rfl rfl ?_;intro f w1 v9 hT hE h s;obtain rfl:=hT
  refine ax 1 h s aL rfl rfl rfl (ak _) (ak _) (aS _) ?_;intro w1 s
  refine ac h (aj (h.ev rfl)) rfl ?_;intro f h
  refine ah ?_
  refine hK6 _ _ ?_
  refine wpIn_ret ?_
  exact ct 1 rfl h s aL rfl rfl (ak _) rfl (by show _=_;rw [xZ h0,h0]<;>rfl)
theorem tZ (a9:Option Addr) (n9 c9:Nat) (w:World):Calls Tryz.prog 99 [.slice a9 n9 c9].toArray w (cU w (fun v w9=>∃ bx,v=.func (.func 130) #[] #[.pointer (some ⟨bx,0,none⟩)]∧g7 w9 bx #[.slice a9 n9 c9])):=by
 refine bp Tryz.func99 rfl Tryz.ntmps99 rfl [(0,.slice a9 n9 c9)] (by simp) fun f h=>?_
 have s:=St.start w
 refine al fun K1 hK1=>?_
 refine ae ?_
 refine bV (#[.slice a9 n9 c9]) h s rfl rfl rfl ?_;intro f w1 b1 h s
 refine ac h (aj (h.ev rfl)) rfl ?_;intro f h
 refine ah ?_
 refine hK1 _ _ ?_
 refine al fun K2 hK2=>?_
 refine ae ?_
 refine ac h (dY [.pointer (some ⟨b1,0,none⟩)] (lQ h rfl)) rfl ?_;intro f h
 refine ac h (aj (h.ev rfl)) rfl ?_;intro f h
 refine ah ?_
 refine hK2 _ _ ?_
 refine wpIn_ret ?_
 exact bf rfl h s rfl (⟨b1,rfl,g7.of_own s 0 rfl⟩)
theorem rL (l:List Mb) (vh:Value) (w:World) (hR:bq w vh 33 l.length (ap l)):Calls Tryz.prog 99 [vh].toArray w (cU w (fun v w9=>∃ bx,v=.func (.func 130) #[] #[.pointer (some ⟨bx,0,none⟩)]∧g7 w9 bx #[vh])):=by
 obtain ⟨a,c,rfl⟩:=hR.len
 exact tZ a _ c w
theorem t6 (l:List Mb) (hln:l.length≤1000) (vh:Value) (lp bx:Nat) (q:Nat→Bool) (GG:Nat→Own→Prop) (g0:Own) (w0 w:World) (s:St w0 [g0] w) (hb:g7 w0 bx #[vh]) (hg0:GG 0 g0) (hR:bq w0 vh 33 l.length (ap l)) (hY:∀ (d:Nat) (B9:List Own) (w9:World) (i:Nat) (g:Own),d<l.length→(∀ j,j<d→q j=false)→GG d g→St w0 B9 w9→B9[i]? = some g→ie Tryz.prog lp [Value.agg (aw (l.getD d aT))].toArray w9 (fun v w2=>v=.bool (!q d)∧∃ g',GG (d+1) g'∧St w0 (B9.set i g') w2)):Calls Tryz.prog 130 [.func (.yield lp) #[] #[],.pointer (some ⟨bx,0,none⟩)].toArray w (fun e w9=>(∃ v,e=.returned v)∧∃ d g,GG d g∧St w0 ([]++[g]) w9∧d≤l.length∧(∀ j,j+1<d→q j=false)∧(lq q d=false→d=l.length)):=by
 refine eJ Tryz.func130 rfl Tryz.ntmps130 rfl [(0,.func (.yield lp) #[] #[]),(1,.pointer (some ⟨bx,0,none⟩))] (by simp) fun f h=>?_
 refine al fun K1 hK1=>?_
 refine ae ?_
 refine au (V:=vh) (am (aU.of_tab (hb.keep s.ext)) 0 (rfl)) h bE rfl rfl ?_;intro f h
 refine ac h (bc (hR.keep s.ext) Tryz.underlying36 (h.ev rfl)) rfl ?_;intro f h
 refine ac h (ag (h.ev rfl)) rfl ?_;intro f h
 refine ah ?_
 refine hK1 _ _ ?_
 refine wpIn_block ?_
 refine wpIn_loop_ghost (fun nn aa ww=>∃ d:Nat,∃ gg:Own,Sl 16 aa [(0,.func (.yield lp) #[] #[]),(5,vh),(6,.int .i64 (l.length:Int)),(7,.int .i64 (d:Int))]∧St w0 [(gg)] ww∧nn=l.length - d∧d≤l.length∧GG d gg∧∀ j,j<d→q j=false) (l.length - (0)) ⟨0,g0,h.only ⟨rfl,rfl,rfl,aQ rfl (by omega),trivial⟩,s.as ⟨rfl,trivial⟩,rfl,Nat.zero_le _,hg0,fun j hj=>absurd hj (Nat.not_lt_zero _)⟩ ?_
 rintro _ f w1 ⟨d,gg,h,s,hnn,hp0,hp1,hp2⟩
 refine al fun K2 hK2=>?_
 refine ae ?_
 refine ac h (bN (h.ev rfl) (h.ev rfl)) rfl ?_;intro f h
 refine ah ?_
 refine hK2 _ _ ?_
 refine al fun K3 hK3=>?_
 refine bM h rfl (fun hc=>?_) (fun hc=>?_)
 ·replace hc:=of_decide_eq_true hc
  refine wpIn_skip ?_
  refine hK3 _ _ ?_
  refine al fun K4 hK4=>?_
  refine wpIn_block ?_
  refine al fun K5 hK5=>?_
  refine ae ?_
  have hdl:d<l.length:=by omega
  refine ac h (bZ (hR.keep s.ext) (d) Tryz.underlying36 cz (h.ev rfl) (h.ev rfl) (by omega) (by omega)) rfl ?_;intro f h
  refine aB ((hR.keep s.ext).el (d) (by omega) (by decide) (D:=aw (l.getD d aT)) (cL l d hdl)) h aL rfl (ak _) rfl ?_;intro f h
  refine bj (aw aT) h s cB rfl rfl ?_;intro f w1 b4 h s
  refine ax 0 h s aL rfl rfl rfl (ak _) (ak _) (aS _) ?_;intro w1 s
  refine ah ?_
  refine hK5 _ _ ?_
  refine al fun K6 hK6=>?_
  cases hq:(q d:Bool)
  ·skip
   refine ae ?_
   refine ac h (ag (h.ev rfl)) rfl ?_;intro f h
   refine ar 0 h s aL rfl rfl (ak _) rfl ?_;intro f h
   refine fD (V:=.bool true) (G:=GG (d+1)) [.agg (aw (l.getD d aT))] 1 h rfl rfl (by have h9:=hY d _ _ 1 gg hdl hp2 hp1 s rfl;rw [hq] at h9;exact h9) rfl ?_;intro f w1 g1 hg1 h s
   refine ac h (av (.bool false) (bh (h.ev rfl)) rfl) rfl ?_;intro f h
   refine ah ?_
   refine hK6 _ _ ?_
   refine wpIn_cond_false (h.ev rfl) ?_
   refine wpIn_skip ?_
   refine bF ?_
   refine hK4 _ _ ?_
   refine ae ?_
   refine ac h (cf (h.ev rfl) (h.ev rfl) (by omega)) rfl ?_;intro f h
   refine ac h (ag (h.ev rfl)) rfl ?_;intro f h
   refine ah ?_
   refine bQ ?_
   exact ⟨_,by omega,⟨d+1,g1,h.only ⟨rfl,rfl,rfl,aQ rfl (by omega),trivial⟩,St.as (s.pick _ (List.sublist_append_right [_] _)) ⟨rfl,trivial⟩,rfl,by omega,hg1,dm hp2 hq⟩⟩
  ·skip
   refine ae ?_
   refine ac h (ag (h.ev rfl)) rfl ?_;intro f h
   refine ar 0 h s aL rfl rfl (ak _) rfl ?_;intro f h
   refine fD (V:=.bool false) (G:=GG (d+1)) [.agg (aw (l.getD d aT))] 1 h rfl rfl (by have h9:=hY d _ _ 1 gg hdl hp2 hp1 s rfl;rw [hq] at h9;exact h9) rfl ?_;intro f w1 g1 hg1 h s
   refine ac h (av (.bool true) (bh (h.ev rfl)) rfl) rfl ?_;intro f h
   refine ah ?_
   refine hK6 _ _ ?_
   refine wpIn_cond_true (h.ev rfl) ?_
   refine wpIn_ret ?_
   refine bU ?_
   refine aW ?_
   refine aW ?_
   refine bU ?_
   exact j3 rfl h (⟨⟨_,rfl⟩,d+1,g1,hg1,s.pick _ (List.sublist_cons_self _ _),by omega,fun j hj=>hp2 j (by omega),fun h9=>absurd (hq.symm.trans h9) (by decide)⟩)
 ·replace hc:=of_decide_eq_false hc
  refine wpIn_exit ?_
  refine bJ ?_
  refine bJ ?_
  refine cC ?_
  exact dW rfl h (⟨⟨_,rfl⟩,d,gg,hp1,s,hp0,fun j hj=>hp2 j (by omega),fun _=>by omega⟩)
theorem ry (l:List Mb) (vh:Value) (bx:Nat) (w:World) (hR:bq w vh 33 l.length (ap l)) (hln:l.length≤1000) (hb:g7 w bx #[vh]):Calls Tryz.prog 151 [(.slice none 0 0),.func (.func 130) #[] #[.pointer (some ⟨bx,0,none⟩)]].toArray w (cU w (fun v w'=>cQ w' w.heap.size 28 33 v l.length (ap l))):=by
 refine ep Tryz.func151 rfl Tryz.ntmps151 rfl [(0,(.slice none 0 0)),(1,.func (.func 130) #[] #[.pointer (some ⟨bx,0,none⟩)])] (by simp) fun f h=>?_
 have s:=St.start w
 refine al fun K1 hK1=>?_
 refine ae ?_
 refine bV (#[(.slice none 0 0)]) h s rfl rfl rfl ?_;intro f w1 b2 h s
 replace s:=s.nilSl 28 33
 refine ac h (aj (h.ev rfl)) rfl ?_;intro f h
 refine ah ?_
 refine hK1 _ _ ?_
 refine al fun K2 hK2=>?_
 refine al fun K3 hK3=>?_
 refine ae ?_
 refine ac h (ag (h.ev rfl)) rfl ?_;intro f h
 refine ah ?_
 refine hK3 _ _ ?_
 refine wpIn_block ?_
 refine ed (fun d A9=>∃ v8:Value,A9=[.sl v8 28 33 (l.take d).length (ap (l.take d)),.blk b2 (.cells #[v8] 36)]) [.sl (.slice none 0 0) 28 33 0 [],.blk b2 (.cells #[(.slice none 0 0)] 36)] [] (l.length) (fun _=>false) (fun d=>[Value.agg (aw (l.getD d aT))]) h s rfl o5 (List.Perm.refl _) (⟨_,rfl⟩) (fun _=>rfl) ?_ ?_ ?_ ?_
 ·intro lp w2 GG g0 hg0 s2 hY;exact t6 l hln vh lp bx (fun _=>false) GG g0 w w2 s2 hb hg0 hR hY
 ·intro lp D9 d9 rc R9 A9 w2 hd9 hq9 hJ9 s
  obtain ⟨v8,rfl⟩:=hJ9
  have h:=Sl.round1 (p:=7) (V:=.agg (aw (l.getD d9 aT))) h rfl
  refine ae ?_
  refine bj (aw aT) h s cB rfl rfl ?_;intro f w1 b5 h s
  refine ax 0 h s aL rfl rfl rfl (ak _) (ak _) (aS _) ?_;intro w1 s
  refine ah ?_
  refine bQ ?_
  refine ⟨_,s.perm (List.perm_middle (l₁:=[_])),fun w3 s=>?_⟩
  refine wpIn_block ?_
  refine ae ?_
  refine cw 4 h s bE rfl rfl (rfl) rfl ?_;intro f h
  refine ar 1 h s aL rfl rfl (ak _) rfl ?_;intro f h
  refine cg (vs:=[.agg (aw (l.getD d9 aT))]) [.tmp 9] h s Tryz.underlying36 cP rfl rfl (eS _) rfl rfl rfl ?_;intro f w1 v10 h s
  refine cZ 4 0 h s Tryz.underlying36 cP rfl rfl rfl rfl (by decide) (by rw [c0];exact aS _) (by rw [List.length_take];unfold maxLen;omega) (by rw [List.length_take];omega) rfl ?_;intro f w1 v11 h s
  replace s:=s.pick _ (List.sublist_cons_self _ _)
  refine bg 4 h s bE rfl rfl rfl (by simp) (aX (s.getSl 3 rfl)) ?_;intro w1 s
  refine ah ?_
  refine bF ?_
  replace s:=s.resl (m:=(l.take (d9+1)).length) (ys:=ap (l.take (d9+1))) 3 rfl (by rw [j7 hd9,List.length_append];rfl) (by rw [j7 hd9,c0,gJ])
  refine ⟨rfl,_,⟨v11,rfl⟩,s.pick _ ?_⟩
  exact List.Sublist.cons_cons _ (List.Sublist.cons _ (List.Sublist.refl _))
 ·intro D9 A9 w2 hJ9 hq9 s
  obtain ⟨v8,rfl⟩:=hJ9
  replace h:Sl _ {f with defers:={target:=.collected D9,args:=#[]}::f.defers} _ [{target:=.collected D9,args:=#[]}]:=⟨h.size,by rw [h.defers],h.holds⟩
  rw [List.take_length] at s
  refine bF ?_
  refine hK2 _ _ ?_
  refine al fun K4 hK4=>?_
  refine ae ?_
  refine cw 2 h s bE rfl rfl (rfl) rfl ?_;intro f h
  replace s:=s.nilSl 28 33
  refine ac h (aj (h.ev rfl)) rfl ?_;intro f h
  refine ah ?_
  refine hK4 _ _ ?_
  refine wpIn_ret ?_
  exact mR 1 rfl h s rfl rfl (fun w9 s9=>s9.getSl 2 rfl)
 ·intro D9 d9 A9 w2 hd9 hqd9 hq9 hJ9 s
  cases hqd9
theorem qK (l:List Mb) (vh:Value) (bx:Nat) (w:World) (hR:bq w vh 33 l.length (ap l)) (hln:l.length≤1000) (hb:g7 w bx #[vh]):Calls Tryz.prog 147 [.func (.func 130) #[] #[.pointer (some ⟨bx,0,none⟩)]].toArray w (cU w (fun v w'=>cQ w' w.heap.size 28 33 v l.length (ap l))):=by
 refine bp Tryz.func147 rfl Tryz.ntmps147 rfl [(0,.func (.func 130) #[] #[.pointer (some ⟨bx,0,none⟩)])] (by simp) fun f h=>?_
 have s:=St.start w
 refine al fun K1 hK1=>?_
 refine ae ?_
 refine ac h (aj (h.ev rfl)) rfl ?_;intro f h
 refine ah ?_
 refine hK1 _ _ ?_
 refine al fun K2 hK2=>?_
 refine ae ?_
 refine ac h (ag (h.ev rfl)) rfl ?_;intro f h
 refine aH h s B1 (ry l vh bx _ (hR.keep s.ext) hln (hb.keep s.ext)) rfl rfl ?_;intro f w1 v4 hT hE h sq;replace s:=s.sl_new hE hT
 refine ac h (aj (h.ev rfl)) rfl ?_;intro f h
 refine ah ?_
 refine hK2 _ _ ?_
 refine wpIn_ret ?_
 exact bf rfl h s rfl ((s.getSl 0 rfl))
theorem wX (l:List Mb) (hg:Rg l) (x9:Id) (v:Value) (bx:Nat) (B9:List Own) (w0 w:World) (s:St w0 (.sl v 28 33 l.length (ap l)::B9) w) (hb:g7 w0 bx (bA x9)):
 Calls Tryz.prog 148 [v,.func (.func 137) #[] #[.pointer (some ⟨bx,0,none⟩)]].toArray w (fun e w'=>∃ r,e=.returned r∧St w0 (.sl v 28 33 l.length (ap (eM x9 l))::B9) w'):=by
 by_cases h0:l.length=0
 ·have hl:l=[]:=List.eq_nil_of_length_eq_zero h0
  subst hl
  obtain ⟨a,c,rfl⟩:=ef (s.getSl 0 rfl)
  refine(Go.Proofs.AnyF.slices_SortFunc_none (P:=Tryz.prog) (ρ:=Tryz.layG_ren) Tryz.layG a c (.func (.func 137) #[] #[.pointer (some ⟨bx,0,none⟩)]) w).mono ?_
  rintro e w' ⟨rfl,rfl⟩
  refine ⟨_,rfl,?_⟩
  rw [zL]
  exact s
 ·obtain ⟨g,cap,rfl,hlt,hgo,hH,hst⟩:=yW s rfl (by omega)
  have hT:∀ m os d,g7 (Go.Proofs.sortWorldK iV 33 w g 0 m d os) bx (bA x9):=fun m os d=>by
   obtain ⟨t,fr,h1⟩:=hb
   have h2:=(Array.getElem?_eq_some_iff.1 h1).1
   have h3:=s.ext.le
   refine ⟨t,fr,?_⟩
   rw [k7 w g m d os (by omega) (by omega),s.ext.block bx h2]
   exact h1
  have hcon:=Go.Proofs.AnyQ.slices_SortFunc (P:=Tryz.prog) (ρ:=Tryz.layG_ren) Tryz.layG 33 Tryz.isAgg28 Tryz.sizeOf28 iV cF iq (fun x y:Mb=>fJ (x.2 - x9) (y.2 - x9)) (yq x9) 137 #[.pointer (some ⟨bx,0,none⟩)] g 0 cap l.toArray w (enters_of Tryz.func137 (by kernel_rfl) rfl) (fun m os dk _ x y=>by
   have h9:=my x y x9 bx _ (hT m os dk)
   refine h9.mono ?_
   rintro e w' ⟨v,rfl,hv,hE⟩
   obtain rfl:=hv
   exact ⟨rfl,sJ hE⟩) hH hlt (by have:=hg.len;rw [List.size_toArray];omega)
  refine hcon.mono ?_
  rintro e w' ⟨rfl,d',n,os,hp,hs,rfl⟩
  have s2:=hst n os d' hp.1
  rw [r5 hg x9 hp hs] at s2
  exact ⟨_,rfl,s2⟩
theorem pW (l:List Mb) (vh:Value) (bv bx:Nat) (x9:Id) (w:World) (hR:bq w vh 33 l.length (ap l)) (hln:l.length≤1000) (hg:Rg l) (hv:g7 w bv #[vh]) (hb:g7 w bx (bA x9)):Calls Tryz.prog 140 [.func (.func 130) #[] #[.pointer (some ⟨bv,0,none⟩)],.func (.func 137) #[] #[.pointer (some ⟨bx,0,none⟩)]].toArray w (cU w (fun v w'=>cQ w' w.heap.size 28 33 v l.length (ap (eM x9 l)))):=by
 refine bp Tryz.func140 rfl Tryz.ntmps140 rfl [(0,.func (.func 130) #[] #[.pointer (some ⟨bv,0,none⟩)]),(1,.func (.func 137) #[] #[.pointer (some ⟨bx,0,none⟩)])] (by simp) fun f h=>?_
 have s:=St.start w
 refine al fun K1 hK1=>?_
 refine ae ?_
 refine ac h (aj (h.ev rfl)) rfl ?_;intro f h
 refine ah ?_
 refine hK1 _ _ ?_
 refine al fun K2 hK2=>?_
 refine ae ?_
 refine ac h (ag (h.ev rfl)) rfl ?_;intro f h
 refine aH h s Ck (qK l vh bv _ (hR.keep s.ext) hln (hv.keep s.ext)) rfl rfl ?_;intro f w1 v7 hT hE h sq;replace s:=s.sl_new hE hT
 refine ac h (aj (h.ev rfl)) rfl ?_;intro f h
 refine ah ?_
 refine hK2 _ _ ?_
 refine al fun K3 hK3=>?_
 refine ae ?_
 refine ac h (ag (h.ev rfl)) rfl ?_;intro f h
 refine ac h (ag (h.ev rfl)) rfl ?_;intro f h
 refine dq [v7,.func (.func 137) #[] #[.pointer (some ⟨bx,0,none⟩)]] h BH (wX l hg x9 v7 bx [] _ _ s hb) rfl rfl ?_;rintro f w1 v10 s h
 refine ah ?_
 refine hK3 _ _ ?_
 refine al fun K4 hK4=>?_
 refine ae ?_
 refine ac h (ag (h.ev rfl)) rfl ?_;intro f h
 refine ac h (aj (h.ev rfl)) rfl ?_;intro f h
 refine ah ?_
 refine hK4 _ _ ?_
 refine wpIn_ret ?_
 exact bf rfl h s rfl ((s.getSl 0 rfl))
theorem uK (x9:Id) (l:List Mb) (vh:Value) (w:World) (hR:bq w vh 33 l.length (ap l)) (hln:l.length≤1000) (hg:Rg l):Calls Tryz.prog 118 [fa x9,vh].toArray w (cU w (fun v w'=>cQ w' w.heap.size 28 33 v l.length (ap (eM x9 l)))):=by
 refine bp Tryz.func118 rfl Tryz.ntmps118 rfl [(0,fa x9),(1,vh)] (by simp) fun f h=>?_
 have s:=St.start w
 refine al fun K1 hK1=>?_
 refine ae ?_
 refine bV (bA x9) h s rfl rfl rfl ?_;intro f w1 b2 h s
 refine ac h (aj (h.ev rfl)) rfl ?_;intro f h
 refine ah ?_
 refine hK1 _ _ ?_
 refine al fun K2 hK2=>?_
 have hbs:=s.ext.le
 refine' jh 4 [0] [] [[],[0],[],[0,1,2],[0,1,2,3],[0,1,2,3,4]] (is _::(fun v w9=>∃ bx,v=.func (.func 130) #[] #[.pointer (some ⟨bx,0,none⟩)]∧g7 w9 bx #[vh])::is _::(fun v w9=>∃ bx,v=.func (.func 137) #[] #[.pointer (some ⟨bx,0,none⟩)]∧g7 w9 bx (bA x9))::is undef::is undef::[]) (fun _=>True) h s (by kernel_rfl) (by kernel_rfl) (by kernel_rfl) (by kernel_rfl) rfl (fun _ _ h _=>h) (trivial) ⟨⟨_,rfl⟩,trivial⟩ ⟨bu _,fun _ _ _ h9 hE=>by obtain ⟨b9,h1,h2⟩:=h9;exact ⟨b9,h1,h2.keep hE⟩,bu _,fun _ _ _ h9 hE=>by obtain ⟨b9,h1,h2⟩:=h9;exact ⟨b9,h1,h2.keep hE⟩,bu _,bu _,trivial⟩ (And.intro ?_ (And.intro ?_ (And.intro ?_ (And.intro ?_ (And.intro ?_ (And.intro ?_ (trivial))))))) ?_
 rotate_left 2
 ·refine dQ 5 rfl (by decide) ?_
  intro f9 w2 hE hs hl
  have e1:f9.tmps.getD 1 undef=_:=di hl 1 (by kernel_rfl) (by kernel_rfl) (h.holds 1 _ rfl)
  have h:=ay [(1,_)] hs rfl (holds_lk ⟨e1,trivial⟩)
  refine ac h (ag (h.ev rfl)) rfl ?_;intro f h
  refine ah ?_
  have e9:=h.holds 5 _ rfl
  refine ⟨?_,rfl⟩
  refine e9.trans ?_
  exact rfl
 ·refine cr 6 rfl (by decide) (by decide) ?_
  intro f9 w2 hE hs hd9 hl
  have e5:f9.tmps.getD 5 undef=_:=cc hl 5 0 (by kernel_rfl) (by kernel_rfl)
  have h:=ay [(5,_)] hs hd9 (holds_lk ⟨e5,trivial⟩)
  have s:=s.more hE
  have z:=St.start w2
  refine aH h s AU (rL l vh _ (hR.keep s.ext)) rfl rfl ?_;intro f w3 v3 hT9 hE3 h s
  refine ah ?_
  exact ⟨by rw [h.holds 6 _ rfl];exact hT9,hE3,fun h9=>absurd h9 (by decide)⟩
 ·refine cr 7 rfl (by decide) (by decide) ?_
  intro f9 w2 hE hs hd9 hl
  have e2:f9.tmps.getD 2 undef=_:=di hl 2 (by kernel_rfl) (by kernel_rfl) (h.holds 2 _ rfl)
  have h:=ay [(2,_)] hs hd9 (holds_lk ⟨e2,trivial⟩)
  have s:=s.more hE
  have z:=St.start w2
  refine ar 0 h s bP rfl rfl (by first|exact aK _|exact aF _ _) rfl ?_;intro f h
  refine ah ?_
  have e9:=h.holds 7 _ rfl
  refine ⟨?_,Ext.refl _,fun h9=>absurd h9 (by decide)⟩
  refine e9.trans ?_
  exact rfl
 ·refine cr 8 rfl (by decide) (by decide) ?_
  intro f9 w2 hE hs hd9 hl
  have e7:f9.tmps.getD 7 undef=_:=cc hl 7 2 (by kernel_rfl) (by kernel_rfl)
  have h:=ay [(7,_)] hs hd9 (holds_lk ⟨e7,trivial⟩)
  have s:=s.more hE
  have z:=St.start w2
  refine aH h s wj (og x9 _) rfl rfl ?_;intro f w3 v3 hT9 hE3 h s
  refine ah ?_
  exact ⟨by rw [h.holds 8 _ rfl];exact hT9,hE3,fun h9=>absurd h9 (by decide)⟩
 ·exact fG (by decide) (by decide)
 ·exact fG (by decide) (by decide)
 ·intro f9 w2 hE hs hd9 hWp hT hR hFr hDj
  obtain ⟨u6,hu6⟩:∃ v,f9.tmps.getD 6 undef=v:=⟨_,rfl⟩
  have e6:(fun v w9=>∃ bx,v=.func (.func 130) #[] #[.pointer (some ⟨bx,0,none⟩)]∧g7 w9 bx #[vh]) u6 w2:=by rw [← hu6];exact hT 1 6 (by decide) rfl
  obtain ⟨u8,hu8⟩:∃ v,f9.tmps.getD 8 undef=v:=⟨_,rfl⟩
  have e8:(fun v w9=>∃ bx,v=.func (.func 137) #[] #[.pointer (some ⟨bx,0,none⟩)]∧g7 w9 bx (bA x9)) u8 w2:=by rw [← hu8];exact hT 3 8 (by decide) rfl
  replace h:=sl_new (ops:=_) [(5,_),(6,u6),(7,_),(8,u8)] h hs hd9 hR ⟨hT 0 5 (by decide) rfl,hu6,hT 2 7 (by decide) rfl,hu8,trivial⟩ (by kernel_rfl)
  replace s:=s.more hE
  clear hT hR hFr hDj
  refine fZ.of ?_
  obtain ⟨bv,hbv0,hbv⟩:=e6;subst hbv0;obtain ⟨bx,hbx0,hbx⟩:=e8;subst hbx0
  refine aH h s Bq (pW l vh bv bx x9 _ (hR.keep s.ext) hln hg hbv hbx) rfl rfl ?_;intro f w1 vr hT hE h sq;replace s:=s.sl_new hE hT
  refine ac h (aj (h.ev rfl)) rfl ?_;intro f h
  refine ah ?_
  refine hK2 _ _ ?_
  refine wpIn_ret ?_
  exact bf rfl h s rfl ((s.getSl 0 rfl))
theorem uq (l:List Mb) (vh:Value) (no many:Int) (w:World) (hR:bq w vh 33 l.length (ap l)) (hln:l.length≤1000):Calls Tryz.prog 85 [vh,.int .i64 no,.int .i64 many].toArray w (cU w (fun v w'=>∃ v8,v=.tuple #[v8,.int .i64 (lS l no many)]∧cQ w' w.heap.size 28 33 v8 (nD l no many).length (ap (nD l no many)))):=by
 refine bp Tryz.func85 rfl Tryz.ntmps85 rfl [(0,vh),(1,.int .i64 no),(2,.int .i64 many)] (by simp) fun f h=>?_
 have s:=St.start w
 refine al fun K1 hK1=>?_
 refine ae ?_
 refine ac h (aj (h.ev rfl)) rfl ?_;intro f h
 refine ac h (aj (h.ev rfl)) rfl ?_;intro f h
 refine ah ?_
 refine hK1 _ _ ?_
 refine al fun K2 hK2=>?_
 refine al fun K3 hK3=>?_
 cases m0:(decide (many<0):Bool)
 ·skip
  cases m1:(decide (16<many):Bool)
  ·skip
   refine ae ?_
   refine ac h (ag (h.ev rfl)) rfl ?_;intro f h
   refine ac h (av (.bool false) (bN (h.ev rfl) (h.ev rfl)) (congrArg Value.bool m0)) rfl ?_;intro f h
   refine ac h (ag (h.ev rfl)) rfl ?_;intro f h
   refine az h rfl rfl rfl ?_
   refine ac h (ag (h.ev rfl)) rfl ?_;intro f h
   refine az h rfl rfl rfl ?_
   refine ac h (av (.bool false) (c6 (h.ev rfl) (h.ev rfl)) (congrArg Value.bool m1)) rfl ?_;intro f h
   refine ac h (aG (h.ev rfl) (h.ev rfl)) rfl ?_;intro f h
   refine ah ?_
   refine hK3 _ _ ?_
   refine wpIn_cond_false (h.ev rfl) ?_
   refine wpIn_skip ?_
   refine hK2 _ _ ?_
   refine al fun K4 hK4=>?_
   refine ae ?_
   have hm0:=of_decide_eq_false m0
   have hm1:=of_decide_eq_false m1
   obtain ⟨m9,hm9⟩:∃ m9:Nat,many=(m9:Int):=⟨many.toNat,by omega⟩
   have hae:=qg (l:=l) (no:=no) (show 0≤many by omega) (show many≤16 by omega)
   refine ac h (ag (h.ev rfl)) rfl ?_;intro f h
   refine ac h (ag (h.ev rfl)) rfl ?_;intro f h
   refine aH h s xO (qu l vh no _ (hR.keep s.ext) hln) rfl rfl ?_;intro f w1 v9 hT hE h s;obtain rfl:=hT
   refine ac h (ag (h.ev rfl)) rfl ?_;intro f h
   refine ac h (bK (h.ev rfl) rfl) rfl ?_;intro f h
   refine ac h (bK (h.ev rfl) rfl) rfl ?_;intro f h
   refine bj (aw aT) h s cB rfl rfl ?_;intro f w1 b8 h s
   refine ax 0 h s aL rfl rfl rfl (ak _) (ak _) (aS _) ?_;intro w1 s
   refine ac h (aj (h.ev rfl)) rfl ?_;intro f h
   refine ah ?_
   refine hK4 _ _ ?_
   refine al fun K5 hK5=>?_
   refine al fun K6 hK6=>?_
   refine ae ?_
   refine ac h (ag (h.ev rfl)) rfl ?_;intro f h
   refine ac h (c3 (h.ev rfl) (h.ev rfl)) rfl ?_;intro f h
   refine ah ?_
   refine hK6 _ _ ?_
   refine bM h rfl (fun hc=>?_) (fun hc=>?_)
   ·have h0:¬ fM l no=0:=by simpa using hc
    refine al fun K7 hK7=>?_
    refine ae ?_
    refine ac h (ag (h.ev rfl)) rfl ?_;intro f h
    refine ac h (aj (h.ev rfl)) rfl ?_;intro f h
    refine ac h (aj (h.ev rfl)) rfl ?_;intro f h
    refine ah ?_
    refine hK7 _ _ ?_
    refine wpIn_ret ?_
    refine aW ?_
    exact ph rfl h s rfl rfl (mb (zM (fun h9=>h0 (hae▸h9))) hae (gB _ _ _ _))
   ·have h0:fM l no=0:=by simpa using hc
    obtain ⟨hr,hg,hf,hm,hno⟩:=xq h0
    refine wpIn_skip ?_
    refine hK5 _ _ ?_
    refine al fun K8 hK8=>?_
    refine ae ?_
    refine ac h (ai bW (h.ev rfl)) rfl ?_;intro f h
    refine aB (aU.subL (aU.of_own s 0 rfl) 1 32 (D:=bA (_)) (cj _)) h bP rfl (by first|exact aK _|exact aF _ _) rfl ?_;intro f h
    refine ac h (ag (h.ev rfl)) rfl ?_;intro f h
    refine aH h s Bi (uK (eI l no).2 l vh _ (hR.keep s.ext) hln hg) rfl rfl ?_;intro f w1 vr hT hE h sq;replace s:=s.sl_new hE (hT.seq (gF (eI l no).2 l).symm rfl)
    refine ac h (aj (h.ev rfl)) rfl ?_;intro f h
    refine ah ?_
    refine hK8 _ _ ?_
    refine al fun K9 hK9=>?_
    refine ae ?_
    refine ac h (ag (h.ev rfl)) rfl ?_;intro f h
    refine un (n:=m9) (xs:=ap (mE l (eI l no) m9 0)) h s Tryz.underlying36 cP cB rfl rfl (hm9) (by omega) (by unfold maxLen;omega) ((zw _).trans (by rw [ub])) (by rw [eu,m5 _ _ (Nat.zero_le _)]) rfl ?_;intro f w1 v33 h s
    refine ac h (aj (h.ev rfl)) rfl ?_;intro f h
    refine ah ?_
    refine hK9 _ _ ?_
    refine al fun K10 hK10=>?_
    refine al fun K11 hK11=>?_
    refine ae ?_
    refine ac h (ag (h.ev rfl)) rfl ?_;intro f h
    refine cK 0 h s Tryz.underlying36 rfl rfl rfl ?_;intro f h
    refine ac h (ag (h.ev rfl)) rfl ?_;intro f h
    refine ah ?_
    refine hK11 _ _ ?_
    refine wpIn_block ?_
    refine wpIn_loop_ghost (fun nn aa ww=>∃ k:Nat,Sl 52 aa [(0,vh),(1,.int .i64 no),(2,.int .i64 many),(8,.pointer (some ⟨b8,0,none⟩)),(31,vr),(33,v33),(10,vr),(11,v33),(34,v33),(35,.int .i64 (m9:Int)),(36,.int .i64 (k:Int))]∧St w [.sl v33 28 33 m9 (ap (mE l (eI l no) m9 k)),.sl vr 28 33 (eM (eI l no).2 l).length (ap (eM (eI l no).2 l)),.blk b8 (.cells (aw (eI l no)) 28)] ww∧nn=m9 - k∧k≤m9) (m9 - (0)) ⟨0,h.only ⟨rfl,rfl,rfl,rfl,rfl,rfl,rfl,rfl,rfl,rfl,rfl,trivial⟩,s.as ⟨rfl,rfl,rfl,trivial⟩,rfl,Nat.zero_le _⟩ ?_
    rintro _ f w1 ⟨k,h,s,hnn,hp0⟩
    refine al fun K12 hK12=>?_
    refine ae ?_
    refine ac h (bN (h.ev rfl) (h.ev rfl)) rfl ?_;intro f h
    refine ah ?_
    refine hK12 _ _ ?_
    refine al fun K13 hK13=>?_
    refine bM h rfl (fun hc=>?_) (fun hc=>?_)
    ·replace hc:=of_decide_eq_true hc
     refine wpIn_skip ?_
     refine hK13 _ _ ?_
     refine al fun K14 hK14=>?_
     refine wpIn_block ?_
     refine al fun K15 hK15=>?_
     refine ae ?_
     refine ac h (ag (h.ev rfl)) rfl ?_;intro f h
     refine ac h (aj (h.ev rfl)) rfl ?_;intro f h
     refine ah ?_
     refine hK15 _ _ ?_
     refine ae ?_
     refine ac h (ag (h.ev rfl)) rfl ?_;intro f h
     refine ac h (ag (h.ev rfl)) rfl ?_;intro f h
     refine ac h (ag (h.ev rfl)) rfl ?_;intro f h
     refine ac h (ag (h.ev rfl)) rfl ?_;intro f h
     have hkl:k<m9:=by omega
     have hpos:=jS hm
     have hml:=Nat.mod_lt (k+1) hpos
     have hrl:=gF (eI l no).2 l
     refine ac h (av (.int .i64 ((k+1:Nat):Int)) (cf (h.ev rfl) (h.ev rfl) (by omega)) (congrArg (Value.int .i64) (by omega))) rfl ?_;intro f h
     refine ac h (ag (h.ev rfl)) rfl ?_;intro f h
     refine cK 1 h s Tryz.underlying36 rfl rfl rfl ?_;intro f h
     refine ac h (av (.int .i64 (((k+1) % l.length:Nat):Int)) (sf (h.ev rfl) (h.ev rfl) (by omega)) (congrArg (Value.int .i64) (by rw [gF];exact(Int.natCast_emod _ _).symm))) rfl ?_;intro f h
     refine ac h (bZ (bq.of_own (s.getSl 1 rfl)) ((k+1) % l.length) Tryz.underlying36 cz (h.ev rfl) (h.ev rfl) (rfl) (by omega)) rfl ?_;intro f h
     refine aB ((bq.of_own (s.getSl 1 rfl)).el ((k+1) % l.length) (by omega) (by decide) (D:=aw (rW l (eI l no) (k+1))) ((cL _ _ (by omega)).trans (by rw [qE hg hm]))) h aL rfl (ak _) rfl ?_;intro f h
     refine ac h (bZ (bq.of_own (s.getSl 0 rfl)) (k) Tryz.underlying36 cz (h.ev rfl) (h.ev rfl) (rfl) (by omega)) rfl ?_;intro f h
     refine er 0 (k) h s aL rfl rfl rfl (ak _) (by omega) (aS _) ((q8 (l:=(mE l (eI l no) m9 k)) _ (by rw [m5 _ _ (by omega)];exact hkl)).trans (by rw [uL _ _ hkl])) ?_;intro w1 s
     refine ah ?_
     refine bF ?_
     refine hK14 _ _ ?_
     refine ae ?_
     refine ac h (cf (h.ev rfl) (h.ev rfl) (by omega)) rfl ?_;intro f h
     refine ac h (ag (h.ev rfl)) rfl ?_;intro f h
     refine ah ?_
     refine bQ ?_
     exact ⟨_,by omega,⟨k+1,h.only ⟨rfl,rfl,rfl,rfl,rfl,rfl,rfl,rfl,rfl,rfl,aQ rfl (by omega),trivial⟩,St.as s ⟨rfl,rfl,rfl,trivial⟩,rfl,by omega⟩⟩
    ·replace hc:=of_decide_eq_false hc
     refine wpIn_exit ?_
     refine bJ ?_
     refine bJ ?_
     refine cC ?_
     refine hK10 _ _ ?_
     refine al fun K16 hK16=>?_
     refine ae ?_
     refine ac h (ag (h.ev rfl)) rfl ?_;intro f h
     refine ac h (aj (h.ev rfl)) rfl ?_;intro f h
     refine ac h (aj (h.ev rfl)) rfl ?_;intro f h
     refine ah ?_
     refine hK16 _ _ ?_
     refine wpIn_ret ?_
     exact ph rfl h s rfl rfl (mb (yJ hm9 hae h0) (hae.trans h0) (by obtain rfl:k=m9:=(by omega);rw [← xx,m5 _ _ (Nat.le_refl _)];exact(s.getSl 0 rfl)))
  ·skip
   refine ae ?_
   refine ac h (ag (h.ev rfl)) rfl ?_;intro f h
   refine ac h (av (.bool false) (bN (h.ev rfl) (h.ev rfl)) (congrArg Value.bool m0)) rfl ?_;intro f h
   refine ac h (ag (h.ev rfl)) rfl ?_;intro f h
   refine az h rfl rfl rfl ?_
   refine ac h (ag (h.ev rfl)) rfl ?_;intro f h
   refine az h rfl rfl rfl ?_
   refine ac h (av (.bool true) (c6 (h.ev rfl) (h.ev rfl)) (congrArg Value.bool m1)) rfl ?_;intro f h
   refine ac h (aG (h.ev rfl) (h.ev rfl)) rfl ?_;intro f h
   refine ah ?_
   refine hK3 _ _ ?_
   refine wpIn_cond_true (h.ev rfl) ?_
   refine al fun K17 hK17=>?_
   refine ae ?_
   refine ac h (aj (h.ev rfl)) rfl ?_;intro f h
   refine ac h (aj (h.ev rfl)) rfl ?_;intro f h
   refine ah ?_
   refine hK17 _ _ ?_
   refine wpIn_ret ?_
   refine aW ?_
   exact ph rfl h s rfl rfl (mb (l9 (.inr (of_decide_eq_true m1))).2 (l9 (.inr (of_decide_eq_true m1))).1 (gB _ _ _ _))
 ·skip
  refine ae ?_
  refine ac h (ag (h.ev rfl)) rfl ?_;intro f h
  refine ac h (av (.bool true) (bN (h.ev rfl) (h.ev rfl)) (congrArg Value.bool m0)) rfl ?_;intro f h
  refine ac h (ag (h.ev rfl)) rfl ?_;intro f h
  refine aA (b:=false) h rfl rfl rfl rfl ?_;intro f h
  refine aA (b:=false) h rfl rfl rfl rfl ?_;intro f h
  refine ac h (aI (h.ev rfl) (h.ev rfl)) rfl ?_;intro f h
  refine ah ?_
  refine hK3 _ _ ?_
  refine wpIn_cond_true (h.ev rfl) ?_
  refine al fun K18 hK18=>?_
  refine ae ?_
  refine ac h (aj (h.ev rfl)) rfl ?_;intro f h
  refine ac h (aj (h.ev rfl)) rfl ?_;intro f h
  refine ah ?_
  refine hK18 _ _ ?_
  refine wpIn_ret ?_
  refine aW ?_
  exact ph rfl h s rfl rfl (mb (l9 (.inl (of_decide_eq_true m0))).2 (l9 (.inl (of_decide_eq_true m0))).1 (gB _ _ _ _))
theorem Cg (l:List Mb) (vh:Value) (m:Mb) (w:World) (hR:bq w vh 33 l.length (ap l)) (hln:l.length≤1000) (hg:Rg l) (hm:m∈l):Calls Tryz.prog 50 [vh,.agg (aw m)].toArray w (cU w (D3 w 28 l m)):=by
 refine bp Tryz.func50 rfl Tryz.ntmps50 rfl [(0,vh),(1,.agg (aw m))] (by simp) fun f h=>?_
 have s:=St.start w
 refine al fun K1 hK1=>?_
 refine ae ?_
 refine bV ((aw m)) h s rfl rfl rfl ?_;intro f w1 b3 h s
 refine bj (aw aT) h s cB rfl rfl ?_;intro f w1 b4 h s
 refine ac h (aj (h.ev rfl)) rfl ?_;intro f h
 refine ah ?_
 refine hK1 _ _ ?_
 refine al fun K2 hK2=>?_
 refine ae ?_
 refine ac h (ag (h.ev rfl)) rfl ?_;intro f h
 refine ac h (bc (hR.keep s.ext) Tryz.underlying36 (h.ev rfl)) rfl ?_;intro f h
 refine ac h (eU (h.ev rfl) (h.ev rfl) (by omega)) rfl ?_;intro f h
 refine ac h (aj (h.ev rfl)) rfl ?_;intro f h
 refine ah ?_
 refine hK2 _ _ ?_
 refine al fun K3 hK3=>?_
 refine al fun K4 hK4=>?_
 refine ae ?_
 refine ac h (ag (h.ev rfl)) rfl ?_;intro f h
 refine ac h (bX (h.ev rfl) (h.ev rfl)) rfl ?_;intro f h
 refine ah ?_
 refine hK4 _ _ ?_
 refine bM h rfl (fun hc=>?_) (fun hc=>?_)
 ·have h1:l.length=1:=by have:=of_decide_eq_true hc;omega
  refine al fun K5 hK5=>?_
  refine mq 1 [[],[],[1],[0],[0,1,2,3]] [[],[],[],[5],[]] [fun _=>[],fun _=>[],fun v=>[.sl (v 2) 28 33 [m].length (ap [m])],fun v=>[.blk b4 (.cells (aw de) 28)],fun _=>[]] [[.blk b4 (.cells (aw aT) 28)]] [fun v=>v 0=.agg (aw de),fun v=>v 1=.agg (aw m),fun _=>True,fun _=>True,fun v=>v 4=(v 2)] [.blk b3 (.cells ((aw m)) 28)] h s rfl (by kernel_rfl) (by kernel_rfl) (by kernel_rfl) (And.intro ?_ (And.intro ?_ (And.intro ?_ (And.intro ?_ (And.intro ?_ (trivial)))))) [0,1,2,3,4] (by kernel_rfl) ?_
  ·intro f9 w2 vl3 E9 hs9 hd9 hl hF s
   have h:=ay [] (hs9.trans h.size) (hd9.trans h.defers) (holds_lk trivial)
   replace s:St w (.blk b3 (.cells ((aw m)) 28)::E9) _:=s
   refine aH h s AK (n8 _) rfl rfl ?_;intro f w1 v9 hT hE h s;obtain rfl:=hT
   exact ah ⟨_,bi 16 rfl (h.holds 16 _ rfl),rfl,s⟩
  ·intro f9 w2 vl3 E9 hs9 hd9 hl hF s
   have e3:f9.tmps.getD 3 undef=_:=cI hl 3 (by kernel_rfl) (by kernel_rfl) (h.holds 3 _ rfl)
   have h:=ay [(3,_)] (hs9.trans h.size) (hd9.trans h.defers) (holds_lk ⟨e3,trivial⟩)
   replace s:St w (.blk b3 (.cells ((aw m)) 28)::E9) _:=s
   refine ar 0 h s aL rfl rfl (ak _) rfl ?_;intro f h
   exact ah ⟨_,bi 17 rfl (h.holds 17 _ rfl),rfl,s⟩
  ·intro f9 w2 vl3 E9 hs9 hd9 hl hF s
   have e17:f9.tmps.getD 17 undef=.agg (aw m):=(br hl 17 1 (by kernel_rfl) (by kernel_rfl)).trans (hF 1 (by decide))
   have h:=ay [(17,.agg (aw m))] (hs9.trans h.size) (hd9.trans h.defers) (holds_lk ⟨e17,trivial⟩)
   replace s:St w (.blk b3 (.cells ((aw m)) 28)::E9) _:=s
   refine cg (vs:=[.agg (aw m)]) [.tmp 17] h s Tryz.underlying36 cP rfl rfl (eS _) rfl rfl rfl ?_;intro f w1 v18 h s
   replace s:=s.resl (m:=[m].length) (ys:=ap [m]) 0 rfl rfl (by rw [c0,cM])
   exact ah ⟨_,bi 18 rfl (h.holds 18 _ rfl),trivial,s⟩
  ·intro f9 w2 vl3 E9 hs9 hd9 hl hF s
   have e4:f9.tmps.getD 4 undef=_:=cI hl 4 (by kernel_rfl) (by kernel_rfl) (h.holds 4 _ rfl)
   have e16:f9.tmps.getD 16 undef=.agg (aw de):=(br hl 16 0 (by kernel_rfl) (by kernel_rfl)).trans (hF 0 (by decide))
   have h:=ay [(4,_),(16,.agg (aw de))] (hs9.trans h.size) (hd9.trans h.defers) (holds_lk ⟨e4,e16,trivial⟩)
   replace s:St w (.blk b4 (.cells (aw aT) 28)::.blk b3 (.cells ((aw m)) 28)::E9) _:=s
   refine ax 0 h s aL rfl rfl rfl (ak _) (ak _) (aS _) ?_;intro w1 s
   exact ah ⟨undef,gL rfl,trivial,s⟩
  ·intro f9 w2 vl3 E9 hs9 hd9 hl hF s
   have e18:f9.tmps.getD 18 undef=(vl3 2):=br hl 18 2 (by kernel_rfl) (by kernel_rfl)
   have h:=ay [(18,(vl3 2))] (hs9.trans h.size) (hd9.trans h.defers) (holds_lk ⟨e18,trivial⟩)
   replace s:St w (.blk b3 (.cells ((aw m)) 28)::E9) _:=s
   refine ac h (aj (h.ev rfl)) rfl ?_;intro f h
   exact ah ⟨_,bi 5 rfl (h.holds 5 _ rfl),rfl,s⟩
  intro f w1 vl3 hs9 hd9 hv hr hF s
  replace h:=m3 (ops:=_) [(16,.agg (aw de)),(17,.agg (aw m)),(18,(vl3 2)),(5,(vl3 2))] h hs9 hd9 hr ⟨(hv 0 16 rfl).trans (hF 0 (by kernel_rfl)),(hv 1 17 rfl).trans (hF 1 (by kernel_rfl)),hv 2 18 rfl,(hv 4 5 rfl).trans (hF 4 (by kernel_rfl)),trivial⟩ (by kernel_rfl)
  replace s:St w [.sl (vl3 2) 28 33 [m].length (ap [m]),.blk b4 (.cells (aw de) 28),.blk b3 (.cells ((aw m)) 28)] _:=s
  refine hK5 _ _ ?_
  refine wpIn_ret ?_
  refine aW ?_
  exact ct 1 rfl h s aL rfl rfl (ak _) rfl (y8 h1 (s.getSl 0 rfl))
 ·have h1:¬ l.length=1:=by have:=of_decide_eq_false hc;omega
  have hpos:=jS hm
  refine wpIn_skip ?_
  refine hK3 _ _ ?_
  refine al fun K6 hK6=>?_
  refine ae ?_
  refine ac h (ag (h.ev rfl)) rfl ?_;intro f h
  refine ac h (ai aJ (h.ev rfl)) rfl ?_;intro f h
  refine au (am (aU.of_own s 1 rfl) 0 (aP _)) h bz rfl rfl ?_;intro f h
  refine aH h s Ds (rO l vh m.1 _ (hR.keep s.ext) hln) rfl rfl ?_;intro f w1 v9 hT hE h s;obtain rfl:=hT
  refine ac h (ag (h.ev rfl)) rfl ?_;intro f h
  refine ac h (bK (h.ev rfl) rfl) rfl ?_;intro f h
  refine ac h (bK (h.ev rfl) rfl) rfl ?_;intro f h
  refine bj (aw aT) h s cB rfl rfl ?_;intro f w1 b7 h s
  refine ax 0 h s aL rfl rfl rfl (ak _) (ak _) (aS _) ?_;intro w1 s
  refine ac h (aj (h.ev rfl)) rfl ?_;intro f h
  refine ah ?_
  refine hK6 _ _ ?_
  refine al fun K7 hK7=>?_
  refine ae ?_
  refine ac h (ag (h.ev rfl)) rfl ?_;intro f h
  refine ac h (ai aJ (h.ev rfl)) rfl ?_;intro f h
  refine au (am (aU.of_own s 2 rfl) 0 (aP _)) h bz rfl rfl ?_;intro f h
  refine ac h (ag (h.ev rfl)) rfl ?_;intro f h
  refine ac h (av (.int .i64 ((min (l.length - 1) 4:Nat):Int)) (oz (h.ev rfl) (h.ev rfl)) (congrArg (Value.int .i64) (by omega))) rfl ?_;intro f h
  have haf:=Cf hg hm (n:=min (l.length - 1) 4) (by omega)
  refine aH h s C5 (uq l vh m.1 ((min (l.length - 1) 4:Nat):Int) _ (hR.keep s.ext) hln) rfl rfl ?_;rintro f w1 v9 ⟨va,rfl,hT⟩ hE h sq;rw [haf.2] at hT;replace s:=s.sl_new hE hT
  refine ac h (ag (h.ev rfl)) rfl ?_;intro f h
  refine ac h (bK (h.ev rfl) rfl) rfl ?_;intro f h
  refine ac h (bK (h.ev rfl) rfl) rfl ?_;intro f h
  refine ac h (aj (h.ev rfl)) rfl ?_;intro f h
  refine ac h (aj (h.ev rfl)) rfl ?_;intro f h
  refine ah ?_
  refine hK7 _ _ ?_
  refine al fun K8 hK8=>?_
  refine ae ?_
  refine ar 1 h s aL rfl rfl (ak _) rfl ?_;intro f h
  refine ac h (ag (h.ev rfl)) rfl ?_;intro f h
  refine ax 2 h s aL rfl rfl rfl (ak _) (ak _) (aS _) ?_;intro w1 s
  refine ac h (aj (h.ev rfl)) rfl ?_;intro f h
  refine ah ?_
  refine hK8 _ _ ?_
  refine wpIn_ret ?_
  exact ct 2 rfl h s aL rfl rfl (ak _) rfl ((by rw [BI hg hm];exact y5 h1 (s.getSl 0 rfl)))
theorem qa (L:List N3) (vo:Value) (w:World) (hO:dN w vo L) (hL:L.length≤40) (hb:RwB L):Calls Tryz.prog 12 [.agg #[vo]].toArray w (cU w (is (.bool (hQ L)))):=by
 have hml:(aM L).length≤1000:=by rw [List.length_map];omega
 refine ep Tryz.func12 rfl Tryz.ntmps12 rfl [(0,.agg #[vo])] (by simp) fun f h=>?_
 have s:=St.start w
 refine al fun K1 hK1=>?_
 refine ae ?_
 refine bV (#[vo]) h s rfl rfl rfl ?_;intro f w1 b1 h s
 refine bj (#[.bool false]) h s sU rfl rfl ?_;intro f w1 b2 h s
 refine ah ?_
 refine hK1 _ _ ?_
 refine al fun K2 hK2=>?_
 refine al fun K3 hK3=>?_
 cases r0:(gm L:Bool)
 ·skip
  refine ae ?_
  refine ar 1 h s a6 rfl rfl (rfl) rfl ?_;intro f h
  refine aH h s jV (aO (.bool false) (d4 L vo _ (hO.keep s.ext) hL hb) (congrArg Value.bool r0)) rfl rfl ?_;intro f w1 v9 hT hE h s;obtain rfl:=hT
  refine ac h (av (.bool true) (bh (h.ev rfl)) rfl) rfl ?_;intro f h
  refine ah ?_
  refine hK3 _ _ ?_
  refine wpIn_cond_true (h.ev rfl) ?_
  refine al fun K4 hK4=>?_
  refine ae ?_
  refine bg 0 h s fx rfl rfl rfl (by simp) (rfl) ?_;intro w1 s
  refine ah ?_
  refine hK4 _ _ ?_
  refine wpIn_ret ?_
  refine aW ?_
  exact mv 0 rfl h s fx rfl rfl rfl (fun w9=>by show _=_;rw [Dm r0];rfl)
 ·skip
  refine ae ?_
  refine ar 1 h s a6 rfl rfl (rfl) rfl ?_;intro f h
  refine aH h s jV (aO (.bool true) (d4 L vo _ (hO.keep s.ext) hL hb) (congrArg Value.bool r0)) rfl rfl ?_;intro f w1 v9 hT hE h s;obtain rfl:=hT
  refine ac h (av (.bool false) (bh (h.ev rfl)) rfl) rfl ?_;intro f h
  refine ah ?_
  refine hK3 _ _ ?_
  refine wpIn_cond_false (h.ev rfl) ?_
  refine wpIn_skip ?_
  refine hK2 _ _ ?_
  refine al fun K5 hK5=>?_
  refine ae ?_
  have hrg:=(eT r0).rs.ring
  refine ar 1 h s a6 rfl rfl (rfl) rfl ?_;intro f h
  refine aH h s AH (jT L vo _ (hO.keep s.ext) hL) rfl rfl ?_;intro f w1 v11 hT hE h sq;replace s:=s.sl_new hE hT
  refine bj (#[.slice none 0 0]) h s rJ rfl rfl ?_;intro f w1 b3 h s
  refine bg 0 h s bE rfl rfl rfl (by simp) (aX (s.getSl 1 rfl)) ?_;intro w1 s
  refine ah ?_
  refine hK5 _ _ ?_
  refine al fun K6 hK6=>?_
  refine al fun K7 hK7=>?_
  refine ae ?_
  refine ar 3 h s a6 rfl rfl (rfl) rfl ?_;intro f h
  refine dq [.agg #[vo]] h lA (fy vo _ _ _ s) rfl rfl ?_;rintro f w1 r ⟨bn,rfl,s⟩ h
  refine ah ?_
  refine hK7 _ _ ?_
  refine wpIn_block ?_
  refine ed (fun d A9=>A9=[.blk b3 (.cells #[v11] 36),.sl v11 28 33 (aM L).length (ap (aM L)),.blk b2 (.cells #[.bool false] 4),.blk b1 (.cells #[vo] 24)]) [.blk b3 (.cells #[v11] 36),.sl v11 28 33 (aM L).length (ap (aM L)),.blk b2 (.cells #[.bool false] 4),.blk b1 (.cells #[vo] 24)] [.blk bn (.cells #[vo] 24)] (L.length) (u4 L) (fun d=>[Value.pointer (some (aN vo (d*68)))]) h s rfl lm (List.Perm.refl _) (rfl) (fun _=>rfl) ?_ ?_ ?_ ?_
  ·intro lp w2 GG g0 hg0 s2 hY;exact eR L.length (by omega) vo _ _ hO.1 lp bn (u4 L) GG g0 w w2 s2 hg0 hY
  ·intro lp D9 d9 rc R9 A9 w2 hd9 hq9 hJ9 s
   obtain rfl:=hJ9
   have h:=Sl.round1 (p:=14) (V:=.pointer (some (aN vo (d9*68)))) h rfl
   have hdl9:=hd9
   refine ae ?_
   refine ac h (aj (h.ev rfl)) rfl ?_;intro f h
   refine ah ?_
   refine bQ ?_
   refine ⟨_,s,fun w3 s=>?_⟩
   refine wpIn_block ?_
   refine al fun K8 hK8=>?_
   refine mq 0 [[],[],[1],[1,2],[1,2,3],[0,1,2,3,4],[0,1,2,3,4,5],[0,1,2,3,4,5,6],[0,1,2,3,4,5,6],[],[0,1,2,3,4,5,6,7,9],[0,1,2,3,4,5,6,7,8,9,10]] [[],[],[],[],[],[],[],[],[],[],[9],[]] [fun _=>[],fun _=>[],fun _=>[],fun _=>[],fun _=>[],fun v=>[.sl (f2 (v 5)) 28 33 (pL (aM L) (L.getD d9 z3).1.me).length (ap (pL (aM L) (L.getD d9 z3).1.me))],fun _=>[],fun _=>[],fun _=>[],fun v=>[.blk (DA (v 9)) (.cells (aw aT) 28)],fun v=>[.blk (DA (v 9)) (.cells (aw (ki (aM L) (L.getD d9 z3).1.me)) 28)],fun _=>[]] [] [fun v=>v 0=v11,fun v=>v 1=.pointer (some (aN vo (d9*68))),fun v=>v 2=.pointer (some (aN vo (d9*68))),fun v=>v 3=.pointer (some (aN vo (d9*68+0))),fun v=>v 4=.agg (aw (L.getD d9 z3).1.me),fun v=>v 5=.tuple #[.agg (aw (ki (aM L) (L.getD d9 z3).1.me)),(f2 (v 5))],fun v=>v 6=.tuple #[.agg (aw (ki (aM L) (L.getD d9 z3).1.me)),(f2 (v 5))],fun v=>v 7=.agg (aw (ki (aM L) (L.getD d9 z3).1.me)),fun v=>v 8=(f2 (v 5)),fun v=>∃ b,v 9=.pointer (some ⟨b,0,none⟩),fun _=>True,fun v=>v 11=(f2 (v 5))] (.blk lp (.loop (rc .busy))::.blk D9 (.deferred (some []))::.blk b3 (.cells (#[v11]) 36)::.sl v11 28 33 (aM L).length (ap (aM L))::.blk b2 (.cells (#[.bool false]) 4)::.blk b1 (.cells (#[vo]) 24)::R9) h s rfl (by kernel_rfl) (by kernel_rfl) (by kernel_rfl) (And.intro ?_ (And.intro ?_ (And.intro ?_ (And.intro ?_ (And.intro ?_ (And.intro ?_ (And.intro ?_ (And.intro ?_ (And.intro ?_ (And.intro ?_ (And.intro ?_ (And.intro ?_ (trivial))))))))))))) [0,1,2,3,4,5,6,7,8,10,11] (by kernel_rfl) ?_
   ·intro f9 w2 vl6 E9 hs9 hd9 hl hF s
    have e3:f9.tmps.getD 3 undef=_:=cI hl 3 (by kernel_rfl) (by kernel_rfl) (h.holds 3 _ rfl)
    have h:=ay [(3,_)] (hs9.trans h.size) (hd9.trans h.defers) (holds_lk ⟨e3,trivial⟩)
    replace s:St w (.blk lp (.loop (rc .busy))::.blk D9 (.deferred (some []))::.blk b3 (.cells (#[v11]) 36)::.sl v11 28 33 (aM L).length (ap (aM L))::.blk b2 (.cells (#[.bool false]) 4)::.blk b1 (.cells (#[vo]) 24)::(R9++E9)) _:=s
    refine cw 2 h s bE rfl rfl (rfl) rfl ?_;intro f h
    exact ah ⟨_,bi 16 rfl (h.holds 16 _ rfl),rfl,s⟩
   ·intro f9 w2 vl6 E9 hs9 hd9 hl hF s
    have e4:f9.tmps.getD 4 undef=_:=cI hl 4 (by kernel_rfl) (by kernel_rfl) (h.holds 4 _ rfl)
    have h:=ay [(4,_)] (hs9.trans h.size) (hd9.trans h.defers) (holds_lk ⟨e4,trivial⟩)
    replace s:St w (.blk lp (.loop (rc .busy))::.blk D9 (.deferred (some []))::.blk b3 (.cells (#[v11]) 36)::.sl v11 28 33 (aM L).length (ap (aM L))::.blk b2 (.cells (#[.bool false]) 4)::.blk b1 (.cells (#[vo]) 24)::(R9++E9)) _:=s
    refine ac h (ag (h.ev rfl)) rfl ?_;intro f h
    exact ah ⟨_,bi 17 rfl (h.holds 17 _ rfl),rfl,s⟩
   ·intro f9 w2 vl6 E9 hs9 hd9 hl hF s
    have e17:f9.tmps.getD 17 undef=.pointer (some (aN vo (d9*68))):=(br hl 17 1 (by kernel_rfl) (by kernel_rfl)).trans (hF 1 (by decide))
    have h:=ay [(17,.pointer (some (aN vo (d9*68))))] (hs9.trans h.size) (hd9.trans h.defers) (holds_lk ⟨e17,trivial⟩)
    replace s:St w (.blk lp (.loop (rc .busy))::.blk D9 (.deferred (some []))::.blk b3 (.cells (#[v11]) 36)::.sl v11 28 33 (aM L).length (ap (aM L))::.blk b2 (.cells (#[.bool false]) 4)::.blk b1 (.cells (#[vo]) 24)::(R9++E9)) _:=s
    refine ac h (bo (h.ev rfl)) rfl ?_;intro f h
    exact ah ⟨_,bi 18 rfl (h.holds 18 _ rfl),rfl,s⟩
   ·intro f9 w2 vl6 E9 hs9 hd9 hl hF s
    have e18:f9.tmps.getD 18 undef=.pointer (some (aN vo (d9*68))):=(br hl 18 2 (by kernel_rfl) (by kernel_rfl)).trans (hF 2 (by decide))
    have h:=ay [(18,.pointer (some (aN vo (d9*68))))] (hs9.trans h.size) (hd9.trans h.defers) (holds_lk ⟨e18,trivial⟩)
    replace s:St w (.blk lp (.loop (rc .busy))::.blk D9 (.deferred (some []))::.blk b3 (.cells (#[v11]) 36)::.sl v11 28 33 (aM L).length (ap (aM L))::.blk b2 (.cells (#[.bool false]) 4)::.blk b1 (.cells (#[vo]) 24)::(R9++E9)) _:=s
    refine ac h (bG aR (h.ev rfl) ((hO.1.keep s.ext).some (by omega))) rfl ?_;intro f h
    exact ah ⟨_,bi 19 rfl (h.holds 19 _ rfl),rfl,s⟩
   ·intro f9 w2 vl6 E9 hs9 hd9 hl hF s
    have e19:f9.tmps.getD 19 undef=.pointer (some (aN vo (d9*68+0))):=(br hl 19 3 (by kernel_rfl) (by kernel_rfl)).trans (hF 3 (by decide))
    have h:=ay [(19,.pointer (some (aN vo (d9*68+0))))] (hs9.trans h.size) (hd9.trans h.defers) (holds_lk ⟨e19,trivial⟩)
    replace s:St w (.blk lp (.loop (rc .busy))::.blk D9 (.deferred (some []))::.blk b3 (.cells (#[v11]) 36)::.sl v11 28 33 (aM L).length (ap (aM L))::.blk b2 (.cells (#[.bool false]) 4)::.blk b1 (.cells (#[vo]) 24)::(R9++E9)) _:=s
    refine aB (bq.elF (hO.1.keep s.ext) (d9) 0 33 (by omega) (by decide) (C:=aC (L.getD d9 z3).1.me (L.getD d9 z3).1.pr (L.getD d9 z3).2.1 (L.getD d9 z3).2.2) (df L d9 hdl9) (D:=aw (L.getD d9 z3).1.me) (bT _ _ _ _)) h aL rfl (ak _) rfl ?_;intro f h
    exact ah ⟨_,bi 20 rfl (h.holds 20 _ rfl),rfl,s⟩
   ·intro f9 w2 vl6 E9 hs9 hd9 hl hF s
    have e16:f9.tmps.getD 16 undef=v11:=(br hl 16 0 (by kernel_rfl) (by kernel_rfl)).trans (hF 0 (by decide))
    have e20:f9.tmps.getD 20 undef=.agg (aw (L.getD d9 z3).1.me):=(br hl 20 4 (by kernel_rfl) (by kernel_rfl)).trans (hF 4 (by decide))
    have h:=ay [(16,v11),(20,.agg (aw (L.getD d9 z3).1.me))] (hs9.trans h.size) (hd9.trans h.defers) (holds_lk ⟨e16,e20,trivial⟩)
    replace s:St w (.blk lp (.loop (rc .busy))::.blk D9 (.deferred (some []))::.blk b3 (.cells (#[v11]) 36)::.sl v11 28 33 (aM L).length (ap (aM L))::.blk b2 (.cells (#[.bool false]) 4)::.blk b1 (.cells (#[vo]) 24)::(R9++E9)) _:=s
    refine aH h s CW (Cg (aM L) v11 (L.getD d9 z3).1.me _ (bq.of_own (s.getSl 3 rfl)) hml hrg (List.mem_map.2 ⟨_,bw hdl9,rfl⟩)) rfl rfl ?_;rintro f w1 v21 ⟨u9,hv9,hO9⟩ hE h sq;replace s:=s.sl_new hE hO9
    have h1v:u9=f2 v21:=by rw [hv9];rfl
    clear hO9
    subst h1v
    exact ah ⟨_,bi 21 rfl (h.holds 21 _ rfl),hv9,s⟩
   ·intro f9 w2 vl6 E9 hs9 hd9 hl hF s
    have e21:f9.tmps.getD 21 undef=.tuple #[.agg (aw (ki (aM L) (L.getD d9 z3).1.me)),(f2 (vl6 5))]:=(br hl 21 5 (by kernel_rfl) (by kernel_rfl)).trans (hF 5 (by decide))
    have h:=ay [(21,.tuple #[.agg (aw (ki (aM L) (L.getD d9 z3).1.me)),(f2 (vl6 5))])] (hs9.trans h.size) (hd9.trans h.defers) (holds_lk ⟨e21,trivial⟩)
    replace s:St w (.blk lp (.loop (rc .busy))::.blk D9 (.deferred (some []))::.blk b3 (.cells (#[v11]) 36)::.sl v11 28 33 (aM L).length (ap (aM L))::.blk b2 (.cells (#[.bool false]) 4)::.blk b1 (.cells (#[vo]) 24)::(R9++E9)) _:=s
    refine ac h (ag (h.ev rfl)) rfl ?_;intro f h
    exact ah ⟨_,bi 15 rfl (h.holds 15 _ rfl),rfl,s⟩
   ·intro f9 w2 vl6 E9 hs9 hd9 hl hF s
    have e15:f9.tmps.getD 15 undef=.tuple #[.agg (aw (ki (aM L) (L.getD d9 z3).1.me)),(f2 (vl6 5))]:=(br hl 15 6 (by kernel_rfl) (by kernel_rfl)).trans (hF 6 (by decide))
    have h:=ay [(15,.tuple #[.agg (aw (ki (aM L) (L.getD d9 z3).1.me)),(f2 (vl6 5))])] (hs9.trans h.size) (hd9.trans h.defers) (holds_lk ⟨e15,trivial⟩)
    replace s:St w (.blk lp (.loop (rc .busy))::.blk D9 (.deferred (some []))::.blk b3 (.cells (#[v11]) 36)::.sl v11 28 33 (aM L).length (ap (aM L))::.blk b2 (.cells (#[.bool false]) 4)::.blk b1 (.cells (#[vo]) 24)::(R9++E9)) _:=s
    refine ac h (bK (h.ev rfl) rfl) rfl ?_;intro f h
    exact ah ⟨_,bi 22 rfl (h.holds 22 _ rfl),rfl,s⟩
   ·intro f9 w2 vl6 E9 hs9 hd9 hl hF s
    have e15:f9.tmps.getD 15 undef=.tuple #[.agg (aw (ki (aM L) (L.getD d9 z3).1.me)),(f2 (vl6 5))]:=(br hl 15 6 (by kernel_rfl) (by kernel_rfl)).trans (hF 6 (by decide))
    have h:=ay [(15,.tuple #[.agg (aw (ki (aM L) (L.getD d9 z3).1.me)),(f2 (vl6 5))])] (hs9.trans h.size) (hd9.trans h.defers) (holds_lk ⟨e15,trivial⟩)
    replace s:St w (.blk lp (.loop (rc .busy))::.blk D9 (.deferred (some []))::.blk b3 (.cells (#[v11]) 36)::.sl v11 28 33 (aM L).length (ap (aM L))::.blk b2 (.cells (#[.bool false]) 4)::.blk b1 (.cells (#[vo]) 24)::(R9++E9)) _:=s
    refine ac h (bK (h.ev rfl) rfl) rfl ?_;intro f h
    exact ah ⟨_,bi 23 rfl (h.holds 23 _ rfl),rfl,s⟩
   ·intro f9 w2 vl6 E9 hs9 hd9 hl hF s
    have h:=ay [] (hs9.trans h.size) (hd9.trans h.defers) (holds_lk trivial)
    replace s:St w (.blk lp (.loop (rc .busy))::.blk D9 (.deferred (some []))::.blk b3 (.cells (#[v11]) 36)::.sl v11 28 33 (aM L).length (ap (aM L))::.blk b2 (.cells (#[.bool false]) 4)::.blk b1 (.cells (#[vo]) 24)::(R9++E9)) _:=s
    refine bj (aw aT) h s cB rfl rfl ?_;intro f w1 b5 h s
    exact ah ⟨_,bi 5 rfl (h.holds 5 _ rfl),⟨_,rfl⟩,s⟩
   ·intro f9 w2 vl6 E9 hs9 hd9 hl hF s
    obtain ⟨b5,hb5⟩:∃ b,vl6 9=.pointer (some ⟨b,0,none⟩):=hF 9 (by decide)
    have e5:f9.tmps.getD 5 undef=.pointer (some ⟨b5,0,none⟩):=(br hl 5 9 (by kernel_rfl) (by kernel_rfl)).trans hb5
    have e22:f9.tmps.getD 22 undef=.agg (aw (ki (aM L) (L.getD d9 z3).1.me)):=(br hl 22 7 (by kernel_rfl) (by kernel_rfl)).trans (hF 7 (by decide))
    have h:=ay [(5,.pointer (some ⟨b5,0,none⟩)),(22,.agg (aw (ki (aM L) (L.getD d9 z3).1.me)))] (hs9.trans h.size) (hd9.trans h.defers) (holds_lk ⟨e5,e22,trivial⟩)
    replace s:St w (.blk (DA (vl6 9)) (.cells (aw aT) 28)::.blk lp (.loop (rc .busy))::.blk D9 (.deferred (some []))::.blk b3 (.cells (#[v11]) 36)::.sl v11 28 33 (aM L).length (ap (aM L))::.blk b2 (.cells (#[.bool false]) 4)::.blk b1 (.cells (#[vo]) 24)::(R9++E9)) _:=s
    rw [hb5] at s
    replace s:St w (.blk b5 (.cells (aw aT) 28)::.blk lp (.loop (rc .busy))::.blk D9 (.deferred (some []))::.blk b3 (.cells (#[v11]) 36)::.sl v11 28 33 (aM L).length (ap (aM L))::.blk b2 (.cells (#[.bool false]) 4)::.blk b1 (.cells (#[vo]) 24)::(R9++E9)) _:=s
    refine ax 0 h s aL rfl rfl rfl (ak _) (ak _) (aS _) ?_;intro w1 s
    refine ah ⟨undef,gL rfl,trivial,?_⟩
    have z:=s
    rw [← show DA (vl6 9)=b5 from by rw [hb5];rfl] at z
    exact z
   ·intro f9 w2 vl6 E9 hs9 hd9 hl hF s
    have e23:f9.tmps.getD 23 undef=(f2 (vl6 5)):=(br hl 23 8 (by kernel_rfl) (by kernel_rfl)).trans (hF 8 (by decide))
    have h:=ay [(23,(f2 (vl6 5)))] (hs9.trans h.size) (hd9.trans h.defers) (holds_lk ⟨e23,trivial⟩)
    replace s:St w (.blk lp (.loop (rc .busy))::.blk D9 (.deferred (some []))::.blk b3 (.cells (#[v11]) 36)::.sl v11 28 33 (aM L).length (ap (aM L))::.blk b2 (.cells (#[.bool false]) 4)::.blk b1 (.cells (#[vo]) 24)::(R9++E9)) _:=s
    refine ac h (aj (h.ev rfl)) rfl ?_;intro f h
    exact ah ⟨_,bi 6 rfl (h.holds 6 _ rfl),rfl,s⟩
   intro f w1 vl6 hs9 hd9 hv hr hF s
   obtain ⟨b5,hb5⟩:∃ b,vl6 9=.pointer (some ⟨b,0,none⟩):=hF 9 (by kernel_rfl)
   replace h:=m3 (ops:=_) [(16,v11),(17,.pointer (some (aN vo (d9*68)))),(18,.pointer (some (aN vo (d9*68)))),(19,.pointer (some (aN vo (d9*68+0)))),(20,.agg (aw (L.getD d9 z3).1.me)),(21,.tuple #[.agg (aw (ki (aM L) (L.getD d9 z3).1.me)),(f2 (vl6 5))]),(15,.tuple #[.agg (aw (ki (aM L) (L.getD d9 z3).1.me)),(f2 (vl6 5))]),(22,.agg (aw (ki (aM L) (L.getD d9 z3).1.me))),(23,(f2 (vl6 5))),(5,.pointer (some ⟨b5,0,none⟩)),(6,(f2 (vl6 5)))] h hs9 hd9 hr ⟨(hv 0 16 rfl).trans (hF 0 (by kernel_rfl)),(hv 1 17 rfl).trans (hF 1 (by kernel_rfl)),(hv 2 18 rfl).trans (hF 2 (by kernel_rfl)),(hv 3 19 rfl).trans (hF 3 (by kernel_rfl)),(hv 4 20 rfl).trans (hF 4 (by kernel_rfl)),(hv 5 21 rfl).trans (hF 5 (by kernel_rfl)),(hv 6 15 rfl).trans (hF 6 (by kernel_rfl)),(hv 7 22 rfl).trans (hF 7 (by kernel_rfl)),(hv 8 23 rfl).trans (hF 8 (by kernel_rfl)),(hv 9 5 rfl).trans hb5,(hv 11 6 rfl).trans (hF 11 (by kernel_rfl)),trivial⟩ (by kernel_rfl)
   replace s:St w (.sl (f2 (vl6 5)) 28 33 (pL (aM L) (L.getD d9 z3).1.me).length (ap (pL (aM L) (L.getD d9 z3).1.me))::.blk (DA (vl6 9)) (.cells (aw (ki (aM L) (L.getD d9 z3).1.me)) 28)::.blk lp (.loop (rc .busy))::.blk D9 (.deferred (some []))::.blk b3 (.cells (#[v11]) 36)::.sl v11 28 33 (aM L).length (ap (aM L))::.blk b2 (.cells (#[.bool false]) 4)::.blk b1 (.cells (#[vo]) 24)::R9) _:=s
   rw [hb5] at s
   replace s:St w (.sl (f2 (vl6 5)) 28 33 (pL (aM L) (L.getD d9 z3).1.me).length (ap (pL (aM L) (L.getD d9 z3).1.me))::.blk b5 (.cells (aw (ki (aM L) (L.getD d9 z3).1.me)) 28)::.blk lp (.loop (rc .busy))::.blk D9 (.deferred (some []))::.blk b3 (.cells (#[v11]) 36)::.sl v11 28 33 (aM L).length (ap (aM L))::.blk b2 (.cells (#[.bool false]) 4)::.blk b1 (.cells (#[vo]) 24)::R9) _:=s
   refine hK8 _ _ ?_
   refine al fun K9 hK9=>?_
   cases q0:(decide ((L.getD d9 z3).1.pr=(ki (aM L) (L.getD d9 z3).1.me)):Bool)
   ·skip
    refine bI 15 [[],[0],[0,1],[0,1,2],[],[0,1,2,3,4],[0,1,2,3,4,5],[0,1,2,3,4,5,6],[0,1,2,3,4,5,6,7],[0,1,2,3,4,5,6,7,8],[0,1,2,3,4,5,6,7,8,9],[0,1,2,3,4,5,6],[0,1,2,3,4,5,6,7,8,9,10,11],[0,1,2,3,4,5,6,7,8,9,10,11,12],[0,1,2,3,4,5,6,7,8,9,10,11,12,13]] h (by kernel_rfl) (by kernel_rfl) (by kernel_rfl) ?_
    have hx9:=hb.each _ (bw hdl9)
    refine ao h (ag (h.ev rfl)) rfl ?_;intro f h
    refine ao h (bo (h.ev rfl)) rfl ?_;intro f h
    refine ao h (bG bR (h.ev rfl) ((hO.1.keep s.ext).some (by omega))) rfl ?_;intro f h
    refine bk (bq.elF (hO.1.keep s.ext) (d9) 33 33 (by omega) (by decide) (C:=aC (L.getD d9 z3).1.me (L.getD d9 z3).1.pr (L.getD d9 z3).2.1 (L.getD d9 z3).2.2) (df L d9 hdl9) (D:=aw (L.getD d9 z3).1.pr) (cb _ _ _ _)) h aL rfl (ak _) rfl ?_;intro f h
    refine bB 1 h s aL rfl rfl (ak _) rfl ?_;intro f h
    refine ao h (av (.bool true) (eE (g4 _ _) (by kernel_rfl) (by decide) (h.ev rfl) (h.ev rfl) (decide ((L.getD d9 z3).1.pr=(ki (aM L) (L.getD d9 z3).1.me))) (ee _ _)) (by rw [q0];rfl)) rfl ?_;intro f h
    refine ao h (ag (h.ev rfl)) rfl ?_;intro f h
    refine aY (b:=false) h rfl rfl rfl rfl ?_;intro f h
    refine aY (b:=false) h rfl rfl rfl rfl ?_;intro f h
    refine aY (b:=false) h rfl rfl rfl rfl ?_;intro f h
    refine aY (b:=false) h rfl rfl rfl rfl ?_;intro f h
    refine aY (b:=false) h rfl rfl rfl rfl ?_;intro f h
    refine aY (b:=false) h rfl rfl rfl rfl ?_;intro f h
    refine aY (b:=false) h rfl rfl rfl rfl ?_;intro f h
    refine ao h (aI (h.ev rfl) (h.ev rfl)) rfl ?_;intro f h
    refine cq s fun w1 s=>?_
    refine ah ?_
    refine hK9 _ _ ?_
    refine wpIn_cond_true (h.ev rfl) ?_
    refine al fun K10 hK10=>?_
    refine ae ?_
    refine bg 6 h s fx rfl rfl rfl (by simp) (rfl) ?_;intro w1 s
    refine ah ?_
    refine hK10 _ _ ?_
    refine wpIn_ret ?_
    refine bU ?_
    refine ⟨(Dk q0),_,rfl,s.pick _ ?_⟩
    exact List.Sublist.cons _ (List.Sublist.cons _ (List.Sublist.cons_cons _ (List.Sublist.refl _)))
   ·skip
    cases q1:(decide ((L.getD d9 z3).1.sc=(pL (aM L) (L.getD d9 z3).1.me)):Bool)
    ·skip
     refine bI 15 [[],[0],[0,1],[0,1,2],[],[0,1,2,3,4],[0,1,2,3,4,5],[0,1,2,3,4,5,6],[0,1,2,3,4,5,6,7],[0,1,2,3,4,5,6,7,8],[0,1,2,3,4,5,6,7,8,9],[0,1,2,3,4,5,6],[0,1,2,3,4,5,6,7,8,9,10,11],[0,1,2,3,4,5,6,7,8,9,10,11,12],[0,1,2,3,4,5,6,7,8,9,10,11,12,13]] h (by kernel_rfl) (by kernel_rfl) (by kernel_rfl) ?_
     have hx9:=hb.each _ (bw hdl9)
     refine ao h (ag (h.ev rfl)) rfl ?_;intro f h
     refine ao h (bo (h.ev rfl)) rfl ?_;intro f h
     refine ao h (bG bR (h.ev rfl) ((hO.1.keep s.ext).some (by omega))) rfl ?_;intro f h
     refine bk (bq.elF (hO.1.keep s.ext) (d9) 33 33 (by omega) (by decide) (C:=aC (L.getD d9 z3).1.me (L.getD d9 z3).1.pr (L.getD d9 z3).2.1 (L.getD d9 z3).2.2) (df L d9 hdl9) (D:=aw (L.getD d9 z3).1.pr) (cb _ _ _ _)) h aL rfl (ak _) rfl ?_;intro f h
     refine bB 1 h s aL rfl rfl (ak _) rfl ?_;intro f h
     refine ao h (av (.bool false) (eE (g4 _ _) (by kernel_rfl) (by decide) (h.ev rfl) (h.ev rfl) (decide ((L.getD d9 z3).1.pr=(ki (aM L) (L.getD d9 z3).1.me))) (ee _ _)) (by rw [q0];rfl)) rfl ?_;intro f h
     refine ao h (ag (h.ev rfl)) rfl ?_;intro f h
     refine aV h rfl rfl rfl ?_
     refine ao h (ag (h.ev rfl)) rfl ?_;intro f h
     refine aV h rfl rfl rfl ?_
     refine ao h (bo (h.ev rfl)) rfl ?_;intro f h
     refine aV h rfl rfl rfl ?_
     refine ao h (bG bD (h.ev rfl) ((hO.1.keep s.ext).some (by omega))) rfl ?_;intro f h
     refine aV h rfl rfl rfl ?_
     refine a2 (V:=(L.getD d9 z3).2.1) (dt (hO.1.keep s.ext) (d9*68+66) (iy L d9 hdl9)) h bE rfl rfl ?_;intro f h
     refine aV h rfl rfl rfl ?_
     refine ao h (ag (h.ev rfl)) rfl ?_;intro f h
     refine aV h rfl rfl rfl ?_
     refine cm h AJ (fun w9 hE9=>aO (.bool false) (nO (L.getD d9 z3).1.sc (pL (aM L) (L.getD d9 z3).1.me) (L.getD d9 z3).2.1 (f2 (vl6 5)) w9 ((hO.2 _ (bw hdl9)).1.keep (s.ext.trans hE9)) ((bq.of_own (s.getSl 0 rfl)).keep hE9) (by omega) (by have:=AW (aM L) (L.getD d9 z3).1.me;omega)) (congrArg Value.bool q1)) rfl rfl ?_;intro f h
     refine aV h rfl rfl rfl ?_
     refine ao h (av (.bool true) (bh (h.ev rfl)) rfl) rfl ?_;intro f h
     refine ao h (aG (h.ev rfl) (h.ev rfl)) rfl ?_;intro f h
     refine cq s fun w1 s=>?_
     refine ah ?_
     refine hK9 _ _ ?_
     refine wpIn_cond_true (h.ev rfl) ?_
     refine al fun K11 hK11=>?_
     refine ae ?_
     refine bg 6 h s fx rfl rfl rfl (by simp) (rfl) ?_;intro w1 s
     refine ah ?_
     refine hK11 _ _ ?_
     refine wpIn_ret ?_
     refine bU ?_
     refine ⟨((AM q0).trans (by rw [q1];rfl)),_,rfl,s.pick _ ?_⟩
     exact List.Sublist.cons _ (List.Sublist.cons _ (List.Sublist.cons_cons _ (List.Sublist.refl _)))
    ·skip
     refine bI 15 [[],[0],[0,1],[0,1,2],[],[0,1,2,3,4],[0,1,2,3,4,5],[0,1,2,3,4,5,6],[0,1,2,3,4,5,6,7],[0,1,2,3,4,5,6,7,8],[0,1,2,3,4,5,6,7,8,9],[0,1,2,3,4,5,6],[0,1,2,3,4,5,6,7,8,9,10,11],[0,1,2,3,4,5,6,7,8,9,10,11,12],[0,1,2,3,4,5,6,7,8,9,10,11,12,13]] h (by kernel_rfl) (by kernel_rfl) (by kernel_rfl) ?_
     have hx9:=hb.each _ (bw hdl9)
     refine ao h (ag (h.ev rfl)) rfl ?_;intro f h
     refine ao h (bo (h.ev rfl)) rfl ?_;intro f h
     refine ao h (bG bR (h.ev rfl) ((hO.1.keep s.ext).some (by omega))) rfl ?_;intro f h
     refine bk (bq.elF (hO.1.keep s.ext) (d9) 33 33 (by omega) (by decide) (C:=aC (L.getD d9 z3).1.me (L.getD d9 z3).1.pr (L.getD d9 z3).2.1 (L.getD d9 z3).2.2) (df L d9 hdl9) (D:=aw (L.getD d9 z3).1.pr) (cb _ _ _ _)) h aL rfl (ak _) rfl ?_;intro f h
     refine bB 1 h s aL rfl rfl (ak _) rfl ?_;intro f h
     refine ao h (av (.bool false) (eE (g4 _ _) (by kernel_rfl) (by decide) (h.ev rfl) (h.ev rfl) (decide ((L.getD d9 z3).1.pr=(ki (aM L) (L.getD d9 z3).1.me))) (ee _ _)) (by rw [q0];rfl)) rfl ?_;intro f h
     refine ao h (ag (h.ev rfl)) rfl ?_;intro f h
     refine aV h rfl rfl rfl ?_
     refine ao h (ag (h.ev rfl)) rfl ?_;intro f h
     refine aV h rfl rfl rfl ?_
     refine ao h (bo (h.ev rfl)) rfl ?_;intro f h
     refine aV h rfl rfl rfl ?_
     refine ao h (bG bD (h.ev rfl) ((hO.1.keep s.ext).some (by omega))) rfl ?_;intro f h
     refine aV h rfl rfl rfl ?_
     refine a2 (V:=(L.getD d9 z3).2.1) (dt (hO.1.keep s.ext) (d9*68+66) (iy L d9 hdl9)) h bE rfl rfl ?_;intro f h
     refine aV h rfl rfl rfl ?_
     refine ao h (ag (h.ev rfl)) rfl ?_;intro f h
     refine aV h rfl rfl rfl ?_
     refine cm h AJ (fun w9 hE9=>aO (.bool true) (nO (L.getD d9 z3).1.sc (pL (aM L) (L.getD d9 z3).1.me) (L.getD d9 z3).2.1 (f2 (vl6 5)) w9 ((hO.2 _ (bw hdl9)).1.keep (s.ext.trans hE9)) ((bq.of_own (s.getSl 0 rfl)).keep hE9) (by omega) (by have:=AW (aM L) (L.getD d9 z3).1.me;omega)) (congrArg Value.bool q1)) rfl rfl ?_;intro f h
     refine aV h rfl rfl rfl ?_
     refine ao h (av (.bool false) (bh (h.ev rfl)) rfl) rfl ?_;intro f h
     refine ao h (aG (h.ev rfl) (h.ev rfl)) rfl ?_;intro f h
     refine cq s fun w1 s=>?_
     refine ah ?_
     refine hK9 _ _ ?_
     refine wpIn_cond_false (h.ev rfl) ?_
     refine wpIn_skip ?_
     refine bF ?_
     refine ⟨((AM q0).trans (by rw [q1];rfl)),_,rfl,s.pick _ ?_⟩
     exact List.Sublist.cons _ (List.Sublist.cons _ (List.Sublist.cons_cons _ (List.Sublist.refl _)))
  ·intro D9 A9 w2 hJ9 hq9 s
   obtain rfl:=hJ9
   replace h:Sl _ {f with defers:={target:=.collected D9,args:=#[]}::f.defers} _ [{target:=.collected D9,args:=#[]}]:=⟨h.size,by rw [h.defers],h.holds⟩
   refine bF ?_
   refine hK6 _ _ ?_
   refine al fun K12 hK12=>?_
   refine ae ?_
   refine bg 4 h s fx rfl rfl rfl (by simp) (rfl) ?_;intro w1 s
   refine ah ?_
   refine hK12 _ _ ?_
   refine wpIn_ret ?_
   exact ft 4 0 rfl h s fx rfl rfl rfl rfl rfl (fun w9=>(congrArg Value.bool (zV r0 hq9)).symm)
  ·intro D9 d9 A9 w2 hd9 hqd9 hq9 hJ9 s
   obtain rfl:=hJ9
   replace h:Sl _ {f with defers:={target:=.collected D9,args:=#[]}::f.defers} _ [{target:=.collected D9,args:=#[]}]:=⟨h.size,by rw [h.defers],h.holds⟩
   refine bU ?_
   refine aW ?_
   exact ft 4 0 rfl h s fx rfl rfl rfl rfl rfl (fun w9=>(congrArg Value.bool (zH r0 hd9 hqd9)).symm)
end Go.Proofs.YthggibfkgofncaaGreat
