/- Which overlays are stable, by package chord, and who follows whom, by package ring. -/
import Derived.Test.YthggibfkgofncaaGreatWa
import Derived.Test.YthggibfkgofncaaGreatWz
import Derived.Test.YthggibfkgofncaaGreatSh
set_option linter.unusedVariables false
set_option linter.unusedSimpArgs false
set_option linter.unusedSectionVars false
namespace Go.Proofs.YthggibfkgofncaaGreat
open Go.RowKit
theorem oS (l:List Mb) (vh:Value) (no:Int) (w:World) (hR:bK w vh 33 l.length (av l)) (hln:l.length≤1000):Calls Tryz.prog 115 [vh,.int .i64 no].toArray w (cT w (is (.tuple #[.agg (au (dX l no)),.int .i64 (fl l no)]))):=by
 refine bj Tryz.func115 rfl Tryz.ntmps115 rfl [(0,vh),(1,.int .i64 no)] (by simp) fun f h=>?_
 have s:=St.start w
 refine aj fun K1 hK1=>?_
 refine ae ?_
 refine ba (au a8) h s cz rfl rfl ?_;intro f w1 b4 h s
 refine ac h (ai (h.ev rfl)) rfl ?_;intro f h
 refine ah ?_
 refine hK1 _ _ ?_
 refine aj fun K2 hK2=>?_
 refine aj fun K3 hK3=>?_
 cases hr:(cY l:Bool)
 ·skip
  refine ae ?_
  refine ac h (ag (h.ev rfl)) rfl ?_;intro f h
  refine aF h s oE (aO (.bool false) (gh l vh _ (hR.keep s.ext) hln) (congrArg Value.bool hr)) rfl rfl ?_;intro f w1 v9 hT hE h s;obtain rfl:=hT
  refine ac h (aw (.bool true) (bg (h.ev rfl)) rfl) rfl ?_;intro f h
  refine ah ?_
  refine hK3 _ _ ?_
  refine wpIn_cond_true (h.ev rfl) ?_
  refine aj fun K4 hK4=>?_
  refine ae ?_
  refine ac h (gp my) rfl ?_;intro f h
  refine ay 0 h s aL rfl rfl rfl (ak _) (ak _) (bf _) ?_;intro w1 s
  refine ac h (ai (h.ev rfl)) rfl ?_;intro f h
  refine ah ?_
  refine hK4 _ _ ?_
  refine wpIn_ret ?_
  refine aQ ?_
  exact cd 0 rfl h s aL rfl rfl (ak _) rfl (by show _=_;rw [(ob no hr).1,(ob no hr).2]<;>rfl)
 ·skip
  refine ae ?_
  refine ac h (ag (h.ev rfl)) rfl ?_;intro f h
  refine aF h s oE (aO (.bool true) (gh l vh _ (hR.keep s.ext) hln) (congrArg Value.bool hr)) rfl rfl ?_;intro f w1 v9 hT hE h s;obtain rfl:=hT
  refine ac h (aw (.bool false) (bg (h.ev rfl)) rfl) rfl ?_;intro f h
  refine ah ?_
  refine hK3 _ _ ?_
  refine wpIn_cond_false (h.ev rfl) ?_
  refine wpIn_skip ?_
  refine hK2 _ _ ?_
  refine aj fun K5 hK5=>?_
  refine aj fun K6 hK6=>?_
  refine ae ?_
  refine ac h (ag (h.ev rfl)) rfl ?_;intro f h
  refine ac h (aY (hR.keep s.ext) Tryz.underlying36 (h.ev rfl)) rfl ?_;intro f h
  refine ac h (ag (h.ev rfl)) rfl ?_;intro f h
  refine ah ?_
  refine hK6 _ _ ?_
  refine wpIn_block ?_
  refine wpIn_loop_ghost (fun nn aa ww=>∃ k:Nat,Sl 25 aa [(0,vh),(1,.int .i64 no),(4,.pointer (some ⟨b4,0,none⟩)),(12,vh),(13,.int .i64 (l.length:Int)),(14,.int .i64 (k:Int))]∧St w [.blk b4 (.cells (au a8) 28)] ww∧nn=l.length - k∧k≤l.length∧∀ j,j<k→decide ((l.getD j a8).1=no)=false) (l.length - (0)) ⟨0,h.only ⟨rfl,rfl,rfl,rfl,rfl,aR rfl (by omega),trivial⟩,s.as ⟨rfl,trivial⟩,rfl,Nat.zero_le _,fun j hj=>absurd hj (Nat.not_lt_zero _)⟩ ?_
  rintro _ f w1 ⟨k,h,s,hnn,hp0,hp1⟩
  refine aj fun K7 hK7=>?_
  refine ae ?_
  refine ac h (bD (h.ev rfl) (h.ev rfl)) rfl ?_;intro f h
  refine ah ?_
  refine hK7 _ _ ?_
  refine aj fun K8 hK8=>?_
  refine bA h rfl (fun hc=>?_) (fun hc=>?_)
  ·replace hc:=of_decide_eq_true hc
   refine wpIn_skip ?_
   refine hK8 _ _ ?_
   refine aj fun K9 hK9=>?_
   refine wpIn_block ?_
   refine aj fun K10 hK10=>?_
   refine ae ?_
   have hkl:k<l.length:=by omega
   refine ac h (ce (hR.keep s.ext) (k) Tryz.underlying36 cG (h.ev rfl) (h.ev rfl) (by omega) (by omega)) rfl ?_;intro f h
   refine aM ((hR.keep s.ext).el (k) (by omega) (by decide) (D:=au (l.getD k a8)) (cK l k hkl)) h aL rfl (ak _) rfl ?_;intro f h
   refine ba (au a8) h s cz rfl rfl ?_;intro f w1 b7 h s
   refine ay 0 h s aL rfl rfl rfl (ak _) (ak _) (bf _) ?_;intro w1 s
   refine ah ?_
   refine hK10 _ _ ?_
   refine aj fun K11 hK11=>?_
   refine ae ?_
   refine ac h (al aP (h.ev rfl)) rfl ?_;intro f h
   refine ar (am (bc.of_own s 0 rfl) 0 (aV _)) h bO rfl rfl ?_;intro f h
   refine ac h (ag (h.ev rfl)) rfl ?_;intro f h
   refine ac h (cc (h.ev rfl) (h.ev rfl)) rfl ?_;intro f h
   refine ah ?_
   refine hK11 _ _ ?_
   refine bA h rfl (fun hc=>?_) (fun hc=>?_)
   ·refine aj fun K12 hK12=>?_
    refine ae ?_
    refine ao 0 h s aL rfl rfl (ak _) rfl ?_;intro f h
    refine ay 1 h s aL rfl rfl rfl (ak _) (ak _) (bf _) ?_;intro w1 s
    refine ac h (ai (h.ev rfl)) rfl ?_;intro f h
    refine ah ?_
    refine hK12 _ _ ?_
    refine wpIn_ret ?_
    refine bu ?_
    refine aQ ?_
    refine aQ ?_
    refine bu ?_
    refine aQ ?_
    exact cd 1 rfl h s aL rfl rfl (ak _) rfl (by show _=_;rw [(jN hr (ld hkl hp1 hc)).1,(jN hr (ld hkl hp1 hc)).2]<;>rfl)
   ·refine wpIn_skip ?_
    refine bF ?_
    refine hK9 _ _ ?_
    refine ae ?_
    refine ac h (cg (h.ev rfl) (h.ev rfl) (by omega)) rfl ?_;intro f h
    refine ac h (ag (h.ev rfl)) rfl ?_;intro f h
    refine ah ?_
    refine bQ ?_
    exact ⟨_,by omega,⟨k+1,h.only ⟨rfl,rfl,rfl,rfl,rfl,aR rfl (by omega),trivial⟩,St.as (s.pick _ (List.sublist_append_right [_] _)) ⟨rfl,trivial⟩,rfl,by omega,cV (q:=fun j=>decide ((l.getD j a8).1=no)) hp1 hc⟩⟩
  ·replace hc:=of_decide_eq_false hc
   refine wpIn_exit ?_
   refine bw ?_
   refine bw ?_
   refine cq ?_
   refine hK5 _ _ ?_
   refine aj fun K13 hK13=>?_
   refine ae ?_
   refine ac h (gp my) rfl ?_;intro f h
   refine ay 0 h s aL rfl rfl rfl (ak _) (ak _) (bf _) ?_;intro w1 s
   refine ac h (ai (h.ev rfl)) rfl ?_;intro f h
   refine ah ?_
   refine hK13 _ _ ?_
   refine wpIn_ret ?_
   exact cd 0 rfl h s aL rfl rfl (ak _) rfl (by show _=_;rw [(lx hr (k4 (by omega) hp1)).1,(lx hr (k4 (by omega) hp1)).2]<;>rfl)
theorem mP (x9:Id) (w:World):Calls Tryz.prog 117 [dC x9].toArray w (cT w (fun v w9=>∃ bx,v=.func (.func 137) #[] #[.pointer (some ⟨bx,0,none⟩)]∧jd w9 bx (bq x9))):=by
 refine bj Tryz.func117 rfl Tryz.ntmps117 rfl [(0,dC x9)] (by simp) fun f h=>?_
 have s:=St.start w
 refine aj fun K1 hK1=>?_
 refine ae ?_
 refine bT (bq x9) h s rfl rfl rfl ?_;intro f w1 b1 h s
 refine ac h (ai (h.ev rfl)) rfl ?_;intro f h
 refine ah ?_
 refine hK1 _ _ ?_
 refine aj fun K2 hK2=>?_
 refine ae ?_
 refine ac h (ek [.pointer (some ⟨b1,0,none⟩)] (mx h rfl)) rfl ?_;intro f h
 refine ac h (ai (h.ev rfl)) rfl ?_;intro f h
 refine ah ?_
 refine hK2 _ _ ?_
 refine wpIn_ret ?_
 exact aX rfl h s rfl (⟨b1,rfl,jd.of_own s 0 rfl⟩)
theorem lL (x y:Mb) (x9:Id) (bx:Nat) (w:World) (hb:jd w bx (bq x9)):Calls Tryz.prog 137 [.agg (au x),.agg (au y),.pointer (some ⟨bx,0,none⟩)].toArray w (cT w (is (.int .i64 (fk (x.2 - x9) (y.2 - x9))))):=by
 refine bj Tryz.func137 rfl Tryz.ntmps137 rfl [(0,.agg (au x)),(1,.agg (au y)),(2,.pointer (some ⟨bx,0,none⟩))] (by simp) fun f h=>?_
 have s:=St.start w
 refine aj fun K1 hK1=>?_
 refine ae ?_
 refine bT ((au x)) h s rfl rfl rfl ?_;intro f w1 b3 h s
 refine bT ((au y)) h s rfl rfl rfl ?_;intro f w1 b4 h s
 refine ac h (ai (h.ev rfl)) rfl ?_;intro f h
 refine ah ?_
 refine hK1 _ _ ?_
 refine aj fun K2 hK2=>?_
 refine bJ 10 [[],[],[1],[0,1,2],[],[],[5],[0,1,2,3,4,5,6],[0,1,2,3,4,5,6,7],[0,1,2,3,4,5,6,7,8]] h (by kernel_rfl) (by kernel_rfl) (by kernel_rfl) ?_
 refine bz (bc.subL (bc.of_tab (hb.keep s.ext)) 0 32 (D:=bq x9) (mV _)) h bV rfl (by first|exact aI _|exact aG _ _) rfl ?_;intro f h
 refine ap h (al c3 (h.ev rfl)) rfl ?_;intro f h
 refine bz (bc.subL (bc.of_own s 1 rfl) 1 32 (D:=bq (_)) (cW _)) h bV rfl (by first|exact aI _|exact aG _ _) rfl ?_;intro f h
 refine cm h nA (fun w9 hE9=>k7 _ _ w9) rfl rfl ?_;intro f h
 refine bz (bc.subL (bc.of_tab (hb.keep s.ext)) 0 32 (D:=bq x9) (mV _)) h bV rfl (by first|exact aI _|exact aG _ _) rfl ?_;intro f h
 refine ap h (al c3 (h.ev rfl)) rfl ?_;intro f h
 refine bz (bc.subL (bc.of_own s 0 rfl) 1 32 (D:=bq (_)) (cW _)) h bV rfl (by first|exact aI _|exact aG _ _) rfl ?_;intro f h
 refine cm h nA (fun w9 hE9=>k7 _ _ w9) rfl rfl ?_;intro f h
 refine cm h uS (fun w9 hE9=>kC _ _ w9) rfl rfl ?_;intro f h
 refine ap h (ai (h.ev rfl)) rfl ?_;intro f h
 refine cn s fun w1 s=>?_
 refine ah ?_
 refine hK2 _ _ ?_
 refine wpIn_ret ?_
 exact aX rfl h s rfl (rfl)
theorem uA (l:List Mb) (vh:Value) (x9:Id) (bx:Nat) (w:World) (hR:bK w vh 33 l.length (av l)) (hln:l.length≤1000) (hb:jd w bx (bq x9)) (h0:0<l.length):Calls Tryz.prog 116 [vh,.func (.func 137) #[] #[.pointer (some ⟨bx,0,none⟩)]].toArray w (cT w (is (.agg (au (gr (je x9) l (l.length - 1)))))):=by
 refine bj Tryz.func116 rfl Tryz.ntmps116 rfl [(0,vh),(1,.func (.func 137) #[] #[.pointer (some ⟨bx,0,none⟩)])] (by simp) fun f h=>?_
 have s:=St.start w
 refine aj fun K1 hK1=>?_
 refine ae ?_
 refine ba (au a8) h s cz rfl rfl ?_;intro f w1 b4 h s
 refine ah ?_
 refine hK1 _ _ ?_
 refine aj fun K2 hK2=>?_
 refine aj fun K3 hK3=>?_
 refine ae ?_
 refine ac h (ag (h.ev rfl)) rfl ?_;intro f h
 refine ac h (aY (hR.keep s.ext) Tryz.underlying36 (h.ev rfl)) rfl ?_;intro f h
 refine ac h (bD (h.ev rfl) (h.ev rfl)) rfl ?_;intro f h
 refine ah ?_
 refine hK3 _ _ ?_
 refine bA h rfl (fun hc=>?_) (fun hc=>?_)
 ·replace hc:=of_decide_eq_true hc
  exfalso;omega
 ·refine wpIn_skip ?_
  refine hK2 _ _ ?_
  refine aj fun K4 hK4=>?_
  refine ae ?_
  refine ac h (ag (h.ev rfl)) rfl ?_;intro f h
  refine ac h (ce (hR.keep s.ext) (0) Tryz.underlying36 cG (h.ev rfl) (h.ev rfl) (by omega) (by omega)) rfl ?_;intro f h
  refine aM ((hR.keep s.ext).el (0) (by omega) (by decide) (D:=au (l.getD 0 a8)) (cK l 0 h0)) h aL rfl (ak _) rfl ?_;intro f h
  refine ba (au a8) h s cz rfl rfl ?_;intro f w1 b5 h s
  refine ay 0 h s aL rfl rfl rfl (ak _) (ak _) (bf _) ?_;intro w1 s
  refine ah ?_
  refine hK4 _ _ ?_
  refine aj fun K5 hK5=>?_
  refine aj fun K6 hK6=>?_
  refine ae ?_
  refine ac h (ai (h.ev rfl)) rfl ?_;intro f h
  refine ah ?_
  refine hK6 _ _ ?_
  refine wpIn_block ?_
  refine wpIn_loop_ghost (fun nn aa ww=>∃ k:Nat,Sl 33 aa [(0,vh),(4,.pointer (some ⟨b4,0,none⟩)),(5,.pointer (some ⟨b5,0,none⟩)),(1,.func (.func 137) #[] #[.pointer (some ⟨bx,0,none⟩)]),(6,.int .i64 ((k:Int)+1))]∧St w [.blk b5 (.cells (au (gr (je x9) l k)) 28),.blk b4 (.cells (au a8) 28)] ww∧nn=l.length - k∧k+1≤l.length) (l.length - (0)) ⟨0,h.only ⟨rfl,rfl,rfl,rfl,rfl,trivial⟩,s.as ⟨rfl,rfl,trivial⟩,rfl,by omega⟩ ?_
  rintro _ f w1 ⟨k,h,s,hnn,hp0⟩
  refine aj fun K7 hK7=>?_
  refine aj fun K8 hK8=>?_
  refine ae ?_
  refine ac h (ag (h.ev rfl)) rfl ?_;intro f h
  refine ac h (ag (h.ev rfl)) rfl ?_;intro f h
  refine ac h (aY (hR.keep s.ext) Tryz.underlying36 (h.ev rfl)) rfl ?_;intro f h
  refine ac h (bD (h.ev rfl) (h.ev rfl)) rfl ?_;intro f h
  refine ah ?_
  refine hK8 _ _ ?_
  refine bA h rfl (fun hc=>?_) (fun hc=>?_)
  ·replace hc:=of_decide_eq_true hc
   refine wpIn_skip ?_
   refine hK7 _ _ ?_
   refine aj fun K9 hK9=>?_
   refine wpIn_block ?_
   refine aj fun K10 hK10=>?_
   refine bJ 8 [[],[],[],[1,2],[1,2,3],[],[0,1,2,3,4,5],[0,1,2,3,4,5,6]] h (by kernel_rfl) (by kernel_rfl) (by kernel_rfl) ?_
   refine ap h (ag (h.ev rfl)) rfl ?_;intro f h
   refine ap h (ag (h.ev rfl)) rfl ?_;intro f h
   have hkl:k+1<l.length:=by omega
   refine ap h (ag (h.ev rfl)) rfl ?_;intro f h
   refine ap h (ce (hR.keep s.ext) (k+1) Tryz.underlying36 cG (h.ev rfl) (h.ev rfl) (by omega) (by omega)) rfl ?_;intro f h
   refine bz ((hR.keep s.ext).el (k+1) (by omega) (by decide) (D:=au (l.getD (k+1) a8)) (cK l (k+1) hkl)) h aL rfl (ak _) rfl ?_;intro f h
   refine br 0 h s aL rfl rfl (ak _) rfl ?_;intro f h
   refine nF [.agg (au (l.getD (k+1) a8)),.agg (au (gr (je x9) l k))] (caps:=[.pointer (some ⟨bx,0,none⟩)]) h zg rfl (fun w9 h9=>lL _ _ x9 bx w9 (hb.keep (s.ext.trans h9))) rfl rfl ?_;intro f h
   refine ap h (aw (.bool (decide (fd x9 (gr (je x9) l k).2<fd x9 (l.getD (k+1) a8).2))) (cL (h.ev rfl) (h.ev rfl)) (congrArg Value.bool (wQ _ _ _))) rfl ?_;intro f h
   refine cn s fun w1 s=>?_
   refine ah ?_
   refine hK10 _ _ ?_
   refine bA h rfl (fun hc=>?_) (fun hc=>?_)
   ·replace hc:=of_decide_eq_true hc
    refine ae ?_
    refine ac h (ag (h.ev rfl)) rfl ?_;intro f h
    refine ac h (ag (h.ev rfl)) rfl ?_;intro f h
    refine ac h (ce (hR.keep s.ext) (k+1) Tryz.underlying36 cG (h.ev rfl) (h.ev rfl) (by omega) (by omega)) rfl ?_;intro f h
    refine aM ((hR.keep s.ext).el (k+1) (by omega) (by decide) (D:=au (l.getD (k+1) a8)) (cK l (k+1) hkl)) h aL rfl (ak _) rfl ?_;intro f h
    refine ay 0 h s aL rfl rfl rfl (ak _) (ak _) (bf _) ?_;intro w1 s
    refine ah ?_
    refine bF ?_
    refine hK9 _ _ ?_
    refine ae ?_
    refine ac h (ag (h.ev rfl)) rfl ?_;intro f h
    refine ac h (cg (h.ev rfl) (h.ev rfl) (by omega)) rfl ?_;intro f h
    refine ac h (ai (h.ev rfl)) rfl ?_;intro f h
    refine ah ?_
    refine bQ ?_
    exact ⟨_,by omega,⟨k+1,h.only ⟨rfl,rfl,rfl,rfl,aR rfl (by omega),trivial⟩,St.as s ⟨dv (congrArg au (xx (f:=je x9) hc).symm),rfl,trivial⟩,rfl,by omega⟩⟩
   ·replace hc:=of_decide_eq_false hc
    refine wpIn_skip ?_
    refine bF ?_
    refine hK9 _ _ ?_
    refine ae ?_
    refine ac h (ag (h.ev rfl)) rfl ?_;intro f h
    refine ac h (cg (h.ev rfl) (h.ev rfl) (by omega)) rfl ?_;intro f h
    refine ac h (ai (h.ev rfl)) rfl ?_;intro f h
    refine ah ?_
    refine bQ ?_
    exact ⟨_,by omega,⟨k+1,h.only ⟨rfl,rfl,rfl,rfl,aR rfl (by omega),trivial⟩,St.as s ⟨dv (congrArg au (zo (f:=je x9) hc).symm),rfl,trivial⟩,rfl,by omega⟩⟩
  ·replace hc:=of_decide_eq_false hc
   refine wpIn_exit ?_
   refine bw ?_
   refine bw ?_
   refine cq ?_
   refine hK5 _ _ ?_
   refine aj fun K11 hK11=>?_
   refine ae ?_
   refine ao 0 h s aL rfl rfl (ak _) rfl ?_;intro f h
   refine ay 1 h s aL rfl rfl rfl (ak _) (ak _) (bf _) ?_;intro w1 s
   refine ah ?_
   refine hK11 _ _ ?_
   refine wpIn_ret ?_
   exact d7 1 rfl h s aL rfl rfl (ak _) ((by obtain rfl:k=l.length - 1:=(by omega);exact rfl))
theorem qk (l:List Mb) (vh:Value) (no:Int) (w:World) (hR:bK w vh 33 l.length (av l)) (hln:l.length≤1000):Calls Tryz.prog 84 [vh,.int .i64 no].toArray w (cT w (is (.tuple #[.agg (au (rW l no)),.int .i64 (fl l no)]))):=by
 refine bj Tryz.func84 rfl Tryz.ntmps84 rfl [(0,vh),(1,.int .i64 no)] (by simp) fun f h=>?_
 have s:=St.start w
 refine aj fun K1 hK1=>?_
 refine ae ?_
 refine ba (au a8) h s cz rfl rfl ?_;intro f w1 b4 h s
 refine ac h (ai (h.ev rfl)) rfl ?_;intro f h
 refine ah ?_
 refine hK1 _ _ ?_
 refine aj fun K2 hK2=>?_
 refine ae ?_
 refine ac h (ag (h.ev rfl)) rfl ?_;intro f h
 refine ac h (ag (h.ev rfl)) rfl ?_;intro f h
 refine aF h s tb (oS l vh no _ (hR.keep s.ext) hln) rfl rfl ?_;intro f w1 v9 hT hE h s;obtain rfl:=hT
 refine ac h (ag (h.ev rfl)) rfl ?_;intro f h
 refine ac h (bB (h.ev rfl) rfl) rfl ?_;intro f h
 refine ac h (bB (h.ev rfl) rfl) rfl ?_;intro f h
 refine ba (au a8) h s cz rfl rfl ?_;intro f w1 b6 h s
 refine ay 0 h s aL rfl rfl rfl (ak _) (ak _) (bf _) ?_;intro w1 s
 refine ac h (ai (h.ev rfl)) rfl ?_;intro f h
 refine ah ?_
 refine hK2 _ _ ?_
 refine aj fun K3 hK3=>?_
 refine aj fun K4 hK4=>?_
 refine ae ?_
 refine ac h (ag (h.ev rfl)) rfl ?_;intro f h
 refine ac h (cO (h.ev rfl) (h.ev rfl)) rfl ?_;intro f h
 refine ah ?_
 refine hK4 _ _ ?_
 refine bA h rfl (fun hc=>?_) (fun hc=>?_)
 ·have h0:¬ fl l no=0:=by simpa using hc
  refine aj fun K5 hK5=>?_
  refine ae ?_
  refine ac h (gp my) rfl ?_;intro f h
  refine ac h (ag (h.ev rfl)) rfl ?_;intro f h
  refine ay 1 h s aL rfl rfl rfl (ak _) (ak _) (bf _) ?_;intro w1 s
  refine ac h (ai (h.ev rfl)) rfl ?_;intro f h
  refine ah ?_
  refine hK5 _ _ ?_
  refine wpIn_ret ?_
  refine aQ ?_
  exact cd 1 rfl h s aL rfl rfl (ak _) rfl (by show _=_;rw [zj h0]<;>rfl)
 ·have h0:fl l no=0:=by simpa using hc
  obtain ⟨hr,hg,hf,hm,hno⟩:=sT h0
  refine wpIn_skip ?_
  refine hK3 _ _ ?_
  refine aj fun K6 hK6=>?_
  refine ae ?_
  refine ac h (ag (h.ev rfl)) rfl ?_;intro f h
  refine ac h (al c3 (h.ev rfl)) rfl ?_;intro f h
  refine aM (bc.subL (bc.of_own s 0 rfl) 1 32 (D:=bq (_)) (cW _)) h bV rfl (by first|exact aI _|exact aG _ _) rfl ?_;intro f h
  refine aF h s ua (mP (dX l no).2 _) rfl rfl ?_;rintro f w1 v21 ⟨bx,rfl,hbx⟩ hE h s
  refine aF h s yK (uA l vh (dX l no).2 bx _ (hR.keep s.ext) hln hbx (eN hm)) rfl rfl ?_;intro f w1 v9 hT hE h s;obtain rfl:=hT
  refine ay 1 h s aL rfl rfl rfl (ak _) (ak _) (bf _) ?_;intro w1 s
  refine ac h (ai (h.ev rfl)) rfl ?_;intro f h
  refine ah ?_
  refine hK6 _ _ ?_
  refine wpIn_ret ?_
  exact cd 1 rfl h s aL rfl rfl (ak _) rfl (by show _=_;rw [tt h0,h0]<;>rfl)
theorem r8 (a9:Option Addr) (n9 c9:Nat) (w:World):Calls Tryz.prog 99 [.slice a9 n9 c9].toArray w (cT w (fun v w9=>∃ bx,v=.func (.func 130) #[] #[.pointer (some ⟨bx,0,none⟩)]∧jd w9 bx #[.slice a9 n9 c9])):=by
 refine bj Tryz.func99 rfl Tryz.ntmps99 rfl [(0,.slice a9 n9 c9)] (by simp) fun f h=>?_
 have s:=St.start w
 refine aj fun K1 hK1=>?_
 refine ae ?_
 refine bT (#[.slice a9 n9 c9]) h s rfl rfl rfl ?_;intro f w1 b1 h s
 refine ac h (ai (h.ev rfl)) rfl ?_;intro f h
 refine ah ?_
 refine hK1 _ _ ?_
 refine aj fun K2 hK2=>?_
 refine ae ?_
 refine ac h (ek [.pointer (some ⟨b1,0,none⟩)] (mx h rfl)) rfl ?_;intro f h
 refine ac h (ai (h.ev rfl)) rfl ?_;intro f h
 refine ah ?_
 refine hK2 _ _ ?_
 refine wpIn_ret ?_
 exact aX rfl h s rfl (⟨b1,rfl,jd.of_own s 0 rfl⟩)
theorem qA (l:List Mb) (vh:Value) (w:World) (hR:bK w vh 33 l.length (av l)):Calls Tryz.prog 99 [vh].toArray w (cT w (fun v w9=>∃ bx,v=.func (.func 130) #[] #[.pointer (some ⟨bx,0,none⟩)]∧jd w9 bx #[vh])):=by
 obtain ⟨a,c,rfl⟩:=hR.len
 exact r8 a _ c w
theorem so (l:List Mb) (hln:l.length≤1000) (vh:Value) (lp bx:Nat) (q:Nat→Bool) (GG:Nat→Own→Prop) (g0:Own) (w0 w:World) (s:St w0 [g0] w) (hb:jd w0 bx #[vh]) (hg0:GG 0 g0) (hR:bK w0 vh 33 l.length (av l)) (hY:∀ (d:Nat) (B9:List Own) (w9:World) (i:Nat) (g:Own),d<l.length→(∀ j,j<d→q j=false)→GG d g→St w0 B9 w9→B9[i]? = some g→i4 Tryz.prog lp [Value.agg (au (l.getD d a8))].toArray w9 (fun v w2=>v=.bool (!q d)∧∃ g',GG (d+1) g'∧St w0 (B9.set i g') w2)):Calls Tryz.prog 130 [.func (.yield lp) #[] #[],.pointer (some ⟨bx,0,none⟩)].toArray w (fun e w9=>(∃ v,e=.returned v)∧∃ d g,GG d g∧St w0 ([]++[g]) w9∧d≤l.length∧(∀ j,j+1<d→q j=false)∧(lq q d=false→d=l.length)):=by
 refine gV Tryz.func130 rfl Tryz.ntmps130 rfl [(0,.func (.yield lp) #[] #[]),(1,.pointer (some ⟨bx,0,none⟩))] (by simp) fun f h=>?_
 refine aj fun K1 hK1=>?_
 refine ae ?_
 refine ar (V:=vh) (am (bc.of_tab (hb.keep s.ext)) 0 (rfl)) h bH rfl rfl ?_;intro f h
 refine ac h (aY (hR.keep s.ext) Tryz.underlying36 (h.ev rfl)) rfl ?_;intro f h
 refine ac h (ag (h.ev rfl)) rfl ?_;intro f h
 refine ah ?_
 refine hK1 _ _ ?_
 refine wpIn_block ?_
 refine wpIn_loop_ghost (fun nn aa ww=>∃ d:Nat,∃ gg:Own,Sl 16 aa [(0,.func (.yield lp) #[] #[]),(5,vh),(6,.int .i64 (l.length:Int)),(7,.int .i64 (d:Int))]∧St w0 [(gg)] ww∧nn=l.length - d∧d≤l.length∧GG d gg∧∀ j,j<d→q j=false) (l.length - (0)) ⟨0,g0,h.only ⟨rfl,rfl,rfl,aR rfl (by omega),trivial⟩,s.as ⟨rfl,trivial⟩,rfl,Nat.zero_le _,hg0,fun j hj=>absurd hj (Nat.not_lt_zero _)⟩ ?_
 rintro _ f w1 ⟨d,gg,h,s,hnn,hp0,hp1,hp2⟩
 refine aj fun K2 hK2=>?_
 refine ae ?_
 refine ac h (bD (h.ev rfl) (h.ev rfl)) rfl ?_;intro f h
 refine ah ?_
 refine hK2 _ _ ?_
 refine aj fun K3 hK3=>?_
 refine bA h rfl (fun hc=>?_) (fun hc=>?_)
 ·replace hc:=of_decide_eq_true hc
  refine wpIn_skip ?_
  refine hK3 _ _ ?_
  refine aj fun K4 hK4=>?_
  refine wpIn_block ?_
  refine aj fun K5 hK5=>?_
  refine ae ?_
  have hdl:d<l.length:=by omega
  refine ac h (ce (hR.keep s.ext) (d) Tryz.underlying36 cG (h.ev rfl) (h.ev rfl) (by omega) (by omega)) rfl ?_;intro f h
  refine aM ((hR.keep s.ext).el (d) (by omega) (by decide) (D:=au (l.getD d a8)) (cK l d hdl)) h aL rfl (ak _) rfl ?_;intro f h
  refine ba (au a8) h s cz rfl rfl ?_;intro f w1 b4 h s
  refine ay 0 h s aL rfl rfl rfl (ak _) (ak _) (bf _) ?_;intro w1 s
  refine ah ?_
  refine hK5 _ _ ?_
  refine aj fun K6 hK6=>?_
  cases hq:(q d:Bool)
  ·skip
   refine ae ?_
   refine ac h (ag (h.ev rfl)) rfl ?_;intro f h
   refine ao 0 h s aL rfl rfl (ak _) rfl ?_;intro f h
   refine ga (V:=.bool true) (G:=GG (d+1)) [.agg (au (l.getD d a8))] 1 h rfl rfl (by have h9:=hY d _ _ 1 gg hdl hp2 hp1 s rfl;rw [hq] at h9;exact h9) rfl ?_;intro f w1 g1 hg1 h s
   refine ac h (aw (.bool false) (bg (h.ev rfl)) rfl) rfl ?_;intro f h
   refine ah ?_
   refine hK6 _ _ ?_
   refine wpIn_cond_false (h.ev rfl) ?_
   refine wpIn_skip ?_
   refine bF ?_
   refine hK4 _ _ ?_
   refine ae ?_
   refine ac h (cg (h.ev rfl) (h.ev rfl) (by omega)) rfl ?_;intro f h
   refine ac h (ag (h.ev rfl)) rfl ?_;intro f h
   refine ah ?_
   refine bQ ?_
   exact ⟨_,by omega,⟨d+1,g1,h.only ⟨rfl,rfl,rfl,aR rfl (by omega),trivial⟩,St.as (s.pick _ (List.sublist_append_right [_] _)) ⟨rfl,trivial⟩,rfl,by omega,hg1,cV hp2 hq⟩⟩
  ·skip
   refine ae ?_
   refine ac h (ag (h.ev rfl)) rfl ?_;intro f h
   refine ao 0 h s aL rfl rfl (ak _) rfl ?_;intro f h
   refine ga (V:=.bool false) (G:=GG (d+1)) [.agg (au (l.getD d a8))] 1 h rfl rfl (by have h9:=hY d _ _ 1 gg hdl hp2 hp1 s rfl;rw [hq] at h9;exact h9) rfl ?_;intro f w1 g1 hg1 h s
   refine ac h (aw (.bool true) (bg (h.ev rfl)) rfl) rfl ?_;intro f h
   refine ah ?_
   refine hK6 _ _ ?_
   refine wpIn_cond_true (h.ev rfl) ?_
   refine wpIn_ret ?_
   refine bu ?_
   refine aQ ?_
   refine aQ ?_
   refine bu ?_
   exact oe rfl h (⟨⟨_,rfl⟩,d+1,g1,hg1,s.pick _ (List.sublist_cons_self _ _),by omega,fun j hj=>hp2 j (by omega),fun h9=>absurd (hq.symm.trans h9) (by decide)⟩)
 ·replace hc:=of_decide_eq_false hc
  refine wpIn_exit ?_
  refine bw ?_
  refine bw ?_
  refine cq ?_
  exact gR rfl h (⟨⟨_,rfl⟩,d,gg,hp1,s,hp0,fun j hj=>hp2 j (by omega),fun _=>by omega⟩)
theorem p7 (l:List Mb) (vh:Value) (bx:Nat) (w:World) (hR:bK w vh 33 l.length (av l)) (hln:l.length≤1000) (hb:jd w bx #[vh]):Calls Tryz.prog 151 [(.slice none 0 0),.func (.func 130) #[] #[.pointer (some ⟨bx,0,none⟩)]].toArray w (cT w (fun v w'=>cN w' w.heap.size 28 33 v l.length (av l))):=by
 refine eU Tryz.func151 rfl Tryz.ntmps151 rfl [(0,(.slice none 0 0)),(1,.func (.func 130) #[] #[.pointer (some ⟨bx,0,none⟩)])] (by simp) fun f h=>?_
 have s:=St.start w
 refine aj fun K1 hK1=>?_
 refine ae ?_
 refine bT (#[(.slice none 0 0)]) h s rfl rfl rfl ?_;intro f w1 b2 h s
 replace s:=s.nilSl 28 33
 refine ac h (ai (h.ev rfl)) rfl ?_;intro f h
 refine ah ?_
 refine hK1 _ _ ?_
 refine aj fun K2 hK2=>?_
 refine aj fun K3 hK3=>?_
 refine ae ?_
 refine ac h (ag (h.ev rfl)) rfl ?_;intro f h
 refine ah ?_
 refine hK3 _ _ ?_
 refine wpIn_block ?_
 refine eV (fun d A9=>∃ v8:Value,A9=[.sl v8 28 33 (l.take d).length (av (l.take d)),.blk b2 (.cells #[v8] 36)]) [.sl (.slice none 0 0) 28 33 0 [],.blk b2 (.cells #[(.slice none 0 0)] 36)] [] (l.length) (fun _=>false) (fun d=>[Value.agg (au (l.getD d a8))]) h s rfl pQ (List.Perm.refl _) (⟨_,rfl⟩) (fun _=>rfl) ?_ ?_ ?_ ?_
 ·intro lp w2 GG g0 hg0 s2 hY;exact so l hln vh lp bx (fun _=>false) GG g0 w w2 s2 hb hg0 hR hY
 ·intro lp D9 d9 rc R9 A9 w2 hd9 hq9 hJ9 s
  obtain ⟨v8,rfl⟩:=hJ9
  have h:=Sl.round1 (p:=7) (V:=.agg (au (l.getD d9 a8))) h rfl
  refine ae ?_
  refine ba (au a8) h s cz rfl rfl ?_;intro f w1 b5 h s
  refine ay 0 h s aL rfl rfl rfl (ak _) (ak _) (bf _) ?_;intro w1 s
  refine ah ?_
  refine bQ ?_
  refine ⟨_,s.perm (List.perm_middle (l₁:=[_])),fun w3 s=>?_⟩
  refine wpIn_block ?_
  refine ae ?_
  refine dO 4 h s bH rfl rfl (rfl) rfl ?_;intro f h
  refine ao 1 h s aL rfl rfl (ak _) rfl ?_;intro f h
  refine cF (vs:=[.agg (au (l.getD d9 a8))]) [.tmp 9] h s Tryz.underlying36 dD rfl rfl (gU _) rfl rfl rfl ?_;intro f w1 v10 h s
  refine dt 4 0 h s Tryz.underlying36 dD rfl rfl rfl rfl (by decide) (by rw [eh];exact bf _) (by rw [List.length_take];unfold maxLen;omega) (by rw [List.length_take];omega) rfl ?_;intro f w1 v11 h s
  replace s:=s.pick _ (List.sublist_cons_self _ _)
  refine bp 4 h s bH rfl rfl rfl (by simp) (bP (s.getSl 3 rfl)) ?_;intro w1 s
  refine ah ?_
  refine bF ?_
  replace s:=s.resl (m:=(l.take (d9+1)).length) (ys:=av (l.take (d9+1))) 3 rfl (by rw [yh hd9,List.length_append];rfl) (by rw [yh hd9,eh,jD])
  refine ⟨rfl,_,⟨v11,rfl⟩,s.pick _ ?_⟩
  exact List.Sublist.cons_cons _ (List.Sublist.cons _ (List.Sublist.refl _))
 ·intro D9 A9 w2 hJ9 hq9 s
  obtain ⟨v8,rfl⟩:=hJ9
  replace h:Sl _ {f with defers:={target:=.collected D9,args:=#[]}::f.defers} _ [{target:=.collected D9,args:=#[]}]:=⟨h.size,by rw [h.defers],h.holds⟩
  rw [List.take_length] at s
  refine bF ?_
  refine hK2 _ _ ?_
  refine aj fun K4 hK4=>?_
  refine ae ?_
  refine dO 2 h s bH rfl rfl (rfl) rfl ?_;intro f h
  replace s:=s.nilSl 28 33
  refine ac h (ai (h.ev rfl)) rfl ?_;intro f h
  refine ah ?_
  refine hK4 _ _ ?_
  refine wpIn_ret ?_
  exact ph 1 rfl h s rfl rfl (fun w9 s9=>s9.getSl 2 rfl)
 ·intro D9 d9 A9 w2 hd9 hqd9 hq9 hJ9 s
  cases hqd9
theorem pK (l:List Mb) (vh:Value) (bx:Nat) (w:World) (hR:bK w vh 33 l.length (av l)) (hln:l.length≤1000) (hb:jd w bx #[vh]):Calls Tryz.prog 147 [.func (.func 130) #[] #[.pointer (some ⟨bx,0,none⟩)]].toArray w (cT w (fun v w'=>cN w' w.heap.size 28 33 v l.length (av l))):=by
 refine bj Tryz.func147 rfl Tryz.ntmps147 rfl [(0,.func (.func 130) #[] #[.pointer (some ⟨bx,0,none⟩)])] (by simp) fun f h=>?_
 have s:=St.start w
 refine aj fun K1 hK1=>?_
 refine ae ?_
 refine ac h (ai (h.ev rfl)) rfl ?_;intro f h
 refine ah ?_
 refine hK1 _ _ ?_
 refine aj fun K2 hK2=>?_
 refine ae ?_
 refine ac h (ag (h.ev rfl)) rfl ?_;intro f h
 refine aF h s yR (p7 l vh bx _ (hR.keep s.ext) hln (hb.keep s.ext)) rfl rfl ?_;intro f w1 v4 hT hE h sq;replace s:=s.sl_new hE hT
 refine ac h (ai (h.ev rfl)) rfl ?_;intro f h
 refine ah ?_
 refine hK2 _ _ ?_
 refine wpIn_ret ?_
 exact aX rfl h s rfl ((s.getSl 0 rfl))
theorem uP (l:List Mb) (hg:Rg l) (x9:Id) (v:Value) (bx:Nat) (B9:List Own) (w0 w:World) (s:St w0 (.sl v 28 33 l.length (av l)::B9) w) (hb:jd w0 bx (bq x9)):
 Calls Tryz.prog 148 [v,.func (.func 137) #[] #[.pointer (some ⟨bx,0,none⟩)]].toArray w (fun e w'=>∃ r,e=.returned r∧St w0 (.sl v 28 33 l.length (av (ei x9 l))::B9) w'):=by
 by_cases h0:l.length=0
 ·have hl:l=[]:=List.eq_nil_of_length_eq_zero h0
  subst hl
  obtain ⟨a,c,rfl⟩:=dF (s.getSl 0 rfl)
  refine(Go.Proofs.AnyF.slices_SortFunc_none (P:=Tryz.prog) (ρ:=Tryz.layG_ren) Tryz.layG a c (.func (.func 137) #[] #[.pointer (some ⟨bx,0,none⟩)]) w).mono ?_
  rintro e w' ⟨rfl,rfl⟩
  refine ⟨_,rfl,?_⟩
  rw [vM]
  exact s
 ·obtain ⟨g,cap,rfl,hlt,hgo,hH,hst⟩:=xG s rfl (by omega)
  have hT:∀ m os d,jd (Go.Proofs.sortWorldK iG 33 w g 0 m d os) bx (bq x9):=fun m os d=>by
   obtain ⟨t,fr,h1⟩:=hb
   have h2:=(Array.getElem?_eq_some_iff.1 h1).1
   have h3:=s.ext.le
   refine ⟨t,fr,?_⟩
   rw [kx w g m d os (by omega) (by omega),s.ext.block bx h2]
   exact h1
  have hcon:=Go.Proofs.AnyQ.slices_SortFunc (P:=Tryz.prog) (ρ:=Tryz.layG_ren) Tryz.layG 33 Tryz.isAgg28 Tryz.sizeOf28 iG ct gW (fun x y:Mb=>fk (x.2 - x9) (y.2 - x9)) (wD x9) 137 #[.pointer (some ⟨bx,0,none⟩)] g 0 cap l.toArray w (enters_of Tryz.func137 (by kernel_rfl) rfl) (fun m os dk _ x y=>by
   have h9:=lL x y x9 bx _ (hT m os dk)
   refine h9.mono ?_
   rintro e w' ⟨v,rfl,hv,hE⟩
   obtain rfl:=hv
   exact ⟨rfl,rv hE⟩) hH hlt (by have:=hg.len;rw [List.size_toArray];omega)
  refine hcon.mono ?_
  rintro e w' ⟨rfl,d',n,os,hp,hs,rfl⟩
  have s2:=hst n os d' hp.1
  rw [qE hg x9 hp hs] at s2
  exact ⟨_,rfl,s2⟩
theorem oG (l:List Mb) (vh:Value) (bv bx:Nat) (x9:Id) (w:World) (hR:bK w vh 33 l.length (av l)) (hln:l.length≤1000) (hg:Rg l) (hv:jd w bv #[vh]) (hb:jd w bx (bq x9)):Calls Tryz.prog 140 [.func (.func 130) #[] #[.pointer (some ⟨bv,0,none⟩)],.func (.func 137) #[] #[.pointer (some ⟨bx,0,none⟩)]].toArray w (cT w (fun v w'=>cN w' w.heap.size 28 33 v l.length (av (ei x9 l)))):=by
 refine bj Tryz.func140 rfl Tryz.ntmps140 rfl [(0,.func (.func 130) #[] #[.pointer (some ⟨bv,0,none⟩)]),(1,.func (.func 137) #[] #[.pointer (some ⟨bx,0,none⟩)])] (by simp) fun f h=>?_
 have s:=St.start w
 refine aj fun K1 hK1=>?_
 refine ae ?_
 refine ac h (ai (h.ev rfl)) rfl ?_;intro f h
 refine ah ?_
 refine hK1 _ _ ?_
 refine aj fun K2 hK2=>?_
 refine ae ?_
 refine ac h (ag (h.ev rfl)) rfl ?_;intro f h
 refine aF h s zi (pK l vh bv _ (hR.keep s.ext) hln (hv.keep s.ext)) rfl rfl ?_;intro f w1 v7 hT hE h sq;replace s:=s.sl_new hE hT
 refine ac h (ai (h.ev rfl)) rfl ?_;intro f h
 refine ah ?_
 refine hK2 _ _ ?_
 refine aj fun K3 hK3=>?_
 refine ae ?_
 refine ac h (ag (h.ev rfl)) rfl ?_;intro f h
 refine ac h (ag (h.ev rfl)) rfl ?_;intro f h
 refine eP [v7,.func (.func 137) #[] #[.pointer (some ⟨bx,0,none⟩)]] h zG (uP l hg x9 v7 bx [] _ _ s hb) rfl rfl ?_;rintro f w1 v10 s h
 refine ah ?_
 refine hK3 _ _ ?_
 refine aj fun K4 hK4=>?_
 refine ae ?_
 refine ac h (ag (h.ev rfl)) rfl ?_;intro f h
 refine ac h (ai (h.ev rfl)) rfl ?_;intro f h
 refine ah ?_
 refine hK4 _ _ ?_
 refine wpIn_ret ?_
 exact aX rfl h s rfl ((s.getSl 0 rfl))
theorem sd (x9:Id) (l:List Mb) (vh:Value) (w:World) (hR:bK w vh 33 l.length (av l)) (hln:l.length≤1000) (hg:Rg l):Calls Tryz.prog 118 [dC x9,vh].toArray w (cT w (fun v w'=>cN w' w.heap.size 28 33 v l.length (av (ei x9 l)))):=by
 refine bj Tryz.func118 rfl Tryz.ntmps118 rfl [(0,dC x9),(1,vh)] (by simp) fun f h=>?_
 have s:=St.start w
 refine aj fun K1 hK1=>?_
 refine ae ?_
 refine bT (bq x9) h s rfl rfl rfl ?_;intro f w1 b2 h s
 refine ac h (ai (h.ev rfl)) rfl ?_;intro f h
 refine ah ?_
 refine hK1 _ _ ?_
 refine aj fun K2 hK2=>?_
 have hbs:=s.ext.le
 refine' eL 4 [0] [] [[],[0],[],[0,1,2],[0,1,2,3],[0,1,2,3,4]] (is _::(fun v w9=>∃ bx,v=.func (.func 130) #[] #[.pointer (some ⟨bx,0,none⟩)]∧jd w9 bx #[vh])::is _::(fun v w9=>∃ bx,v=.func (.func 137) #[] #[.pointer (some ⟨bx,0,none⟩)]∧jd w9 bx (bq x9))::is undef::is undef::[]) (fun _=>True) h s (by kernel_rfl) (by kernel_rfl) (by kernel_rfl) (by kernel_rfl) rfl (fun _ _ h _=>h) (trivial) ⟨⟨_,rfl⟩,trivial⟩ ⟨az _,fun _ _ _ h9 hE=>by obtain ⟨b9,h1,h2⟩:=h9;exact ⟨b9,h1,h2.keep hE⟩,az _,fun _ _ _ h9 hE=>by obtain ⟨b9,h1,h2⟩:=h9;exact ⟨b9,h1,h2.keep hE⟩,az _,az _,trivial⟩ (And.intro ?_ (And.intro ?_ (And.intro ?_ (And.intro ?_ (And.intro ?_ (And.intro ?_ (trivial))))))) ?_
 rotate_left 2
 ·refine cZ 5 rfl (by decide) ?_
  intro f9 w2 hE hs hl
  have e1:f9.tmps.getD 1 undef=_:=bX hl 1 (by kernel_rfl) (by kernel_rfl) (h.holds 1 _ rfl)
  have h:=aq [(1,_)] hs rfl (holds_lk ⟨e1,trivial⟩)
  refine ac h (ag (h.ev rfl)) rfl ?_;intro f h
  refine ah ?_
  have e9:=h.holds 5 _ rfl
  refine ⟨?_,rfl⟩
  refine e9.trans ?_
  exact rfl
 ·refine aT 6 rfl (by decide) (by decide) ?_
  intro f9 w2 hE hs hd9 hl
  have e5:f9.tmps.getD 5 undef=_:=aH hl 5 0 (by kernel_rfl) (by kernel_rfl)
  have h:=aq [(5,_)] hs hd9 (holds_lk ⟨e5,trivial⟩)
  have s:=s.more hE
  have z:=St.start w2
  refine aF h s yv (qA l vh _ (hR.keep s.ext)) rfl rfl ?_;intro f w3 v3 hT9 hE3 h s
  refine ah ?_
  exact ⟨by rw [h.holds 6 _ rfl];exact hT9,hE3,fun h9=>absurd h9 (by decide)⟩
 ·refine aT 7 rfl (by decide) (by decide) ?_
  intro f9 w2 hE hs hd9 hl
  have e2:f9.tmps.getD 2 undef=_:=bX hl 2 (by kernel_rfl) (by kernel_rfl) (h.holds 2 _ rfl)
  have h:=aq [(2,_)] hs hd9 (holds_lk ⟨e2,trivial⟩)
  have s:=s.more hE
  have z:=St.start w2
  refine ao 0 h s bV rfl rfl (by first|exact aI _|exact aG _ _) rfl ?_;intro f h
  refine ah ?_
  have e9:=h.holds 7 _ rfl
  refine ⟨?_,Ext.refl _,fun h9=>absurd h9 (by decide)⟩
  refine e9.trans ?_
  exact rfl
 ·refine aT 8 rfl (by decide) (by decide) ?_
  intro f9 w2 hE hs hd9 hl
  have e7:f9.tmps.getD 7 undef=_:=aH hl 7 2 (by kernel_rfl) (by kernel_rfl)
  have h:=aq [(7,_)] hs hd9 (holds_lk ⟨e7,trivial⟩)
  have s:=s.more hE
  have z:=St.start w2
  refine aF h s ua (mP x9 _) rfl rfl ?_;intro f w3 v3 hT9 hE3 h s
  refine ah ?_
  exact ⟨by rw [h.holds 8 _ rfl];exact hT9,hE3,fun h9=>absurd h9 (by decide)⟩
 ·exact cr (by decide) (by decide)
 ·exact cr (by decide) (by decide)
 ·intro f9 w2 hE hs hd9 hWp hT hR hFr hDj
  obtain ⟨u6,hu6⟩:∃ v,f9.tmps.getD 6 undef=v:=⟨_,rfl⟩
  have e6:(fun v w9=>∃ bx,v=.func (.func 130) #[] #[.pointer (some ⟨bx,0,none⟩)]∧jd w9 bx #[vh]) u6 w2:=by rw [← hu6];exact hT 1 6 (by decide) rfl
  obtain ⟨u8,hu8⟩:∃ v,f9.tmps.getD 8 undef=v:=⟨_,rfl⟩
  have e8:(fun v w9=>∃ bx,v=.func (.func 137) #[] #[.pointer (some ⟨bx,0,none⟩)]∧jd w9 bx (bq x9)) u8 w2:=by rw [← hu8];exact hT 3 8 (by decide) rfl
  replace h:=sl_new (ops:=_) [(5,_),(6,u6),(7,_),(8,u8)] h hs hd9 hR ⟨hT 0 5 (by decide) rfl,hu6,hT 2 7 (by decide) rfl,hu8,trivial⟩ (by kernel_rfl)
  replace s:=s.more hE
  clear hT hR hFr hDj
  refine eD.of ?_
  obtain ⟨bv,hbv0,hbv⟩:=e6;subst hbv0;obtain ⟨bx,hbx0,hbx⟩:=e8;subst hbx0
  refine aF h s zH (oG l vh bv bx x9 _ (hR.keep s.ext) hln hg hbv hbx) rfl rfl ?_;intro f w1 vr hT hE h sq;replace s:=s.sl_new hE hT
  refine ac h (ai (h.ev rfl)) rfl ?_;intro f h
  refine ah ?_
  refine hK2 _ _ ?_
  refine wpIn_ret ?_
  exact aX rfl h s rfl ((s.getSl 0 rfl))
theorem sr (l:List Mb) (vh:Value) (no many:Int) (w:World) (hR:bK w vh 33 l.length (av l)) (hln:l.length≤1000):Calls Tryz.prog 85 [vh,.int .i64 no,.int .i64 many].toArray w (cT w (fun v w'=>∃ v8,v=.tuple #[v8,.int .i64 (kU l no many)]∧cN w' w.heap.size 28 33 v8 (mB l no many).length (av (mB l no many)))):=by
 refine bj Tryz.func85 rfl Tryz.ntmps85 rfl [(0,vh),(1,.int .i64 no),(2,.int .i64 many)] (by simp) fun f h=>?_
 have s:=St.start w
 refine aj fun K1 hK1=>?_
 refine ae ?_
 refine ac h (ai (h.ev rfl)) rfl ?_;intro f h
 refine ac h (ai (h.ev rfl)) rfl ?_;intro f h
 refine ah ?_
 refine hK1 _ _ ?_
 refine aj fun K2 hK2=>?_
 refine aj fun K3 hK3=>?_
 cases m0:(decide (many<0):Bool)
 ·skip
  cases m1:(decide (16<many):Bool)
  ·skip
   refine ae ?_
   refine ac h (ag (h.ev rfl)) rfl ?_;intro f h
   refine ac h (aw (.bool false) (bD (h.ev rfl) (h.ev rfl)) (congrArg Value.bool m0)) rfl ?_;intro f h
   refine ac h (ag (h.ev rfl)) rfl ?_;intro f h
   refine aB h rfl rfl rfl ?_
   refine ac h (ag (h.ev rfl)) rfl ?_;intro f h
   refine aB h rfl rfl rfl ?_
   refine ac h (aw (.bool false) (cL (h.ev rfl) (h.ev rfl)) (congrArg Value.bool m1)) rfl ?_;intro f h
   refine ac h (aE (h.ev rfl) (h.ev rfl)) rfl ?_;intro f h
   refine ah ?_
   refine hK3 _ _ ?_
   refine wpIn_cond_false (h.ev rfl) ?_
   refine wpIn_skip ?_
   refine hK2 _ _ ?_
   refine aj fun K4 hK4=>?_
   refine ae ?_
   have hm0:=of_decide_eq_false m0
   have hm1:=of_decide_eq_false m1
   obtain ⟨m9,hm9⟩:∃ m9:Nat,many=(m9:Int):=⟨many.toNat,by omega⟩
   have hae:=pD (l:=l) (no:=no) (show 0≤many by omega) (show many≤16 by omega)
   refine ac h (ag (h.ev rfl)) rfl ?_;intro f h
   refine ac h (ag (h.ev rfl)) rfl ?_;intro f h
   refine aF h s tb (oS l vh no _ (hR.keep s.ext) hln) rfl rfl ?_;intro f w1 v9 hT hE h s;obtain rfl:=hT
   refine ac h (ag (h.ev rfl)) rfl ?_;intro f h
   refine ac h (bB (h.ev rfl) rfl) rfl ?_;intro f h
   refine ac h (bB (h.ev rfl) rfl) rfl ?_;intro f h
   refine ba (au a8) h s cz rfl rfl ?_;intro f w1 b8 h s
   refine ay 0 h s aL rfl rfl rfl (ak _) (ak _) (bf _) ?_;intro w1 s
   refine ac h (ai (h.ev rfl)) rfl ?_;intro f h
   refine ah ?_
   refine hK4 _ _ ?_
   refine aj fun K5 hK5=>?_
   refine aj fun K6 hK6=>?_
   refine ae ?_
   refine ac h (ag (h.ev rfl)) rfl ?_;intro f h
   refine ac h (cO (h.ev rfl) (h.ev rfl)) rfl ?_;intro f h
   refine ah ?_
   refine hK6 _ _ ?_
   refine bA h rfl (fun hc=>?_) (fun hc=>?_)
   ·have h0:¬ fl l no=0:=by simpa using hc
    refine aj fun K7 hK7=>?_
    refine ae ?_
    refine ac h (ag (h.ev rfl)) rfl ?_;intro f h
    refine ac h (ai (h.ev rfl)) rfl ?_;intro f h
    refine ac h (ai (h.ev rfl)) rfl ?_;intro f h
    refine ah ?_
    refine hK7 _ _ ?_
    refine wpIn_ret ?_
    refine aQ ?_
    exact nR rfl h s rfl rfl (li (wd (fun h9=>h0 (hae▸h9))) hae (gf _ _ _ _))
   ·have h0:fl l no=0:=by simpa using hc
    obtain ⟨hr,hg,hf,hm,hno⟩:=sT h0
    refine wpIn_skip ?_
    refine hK5 _ _ ?_
    refine aj fun K8 hK8=>?_
    refine ae ?_
    refine ac h (al c3 (h.ev rfl)) rfl ?_;intro f h
    refine aM (bc.subL (bc.of_own s 0 rfl) 1 32 (D:=bq (_)) (cW _)) h bV rfl (by first|exact aI _|exact aG _ _) rfl ?_;intro f h
    refine ac h (ag (h.ev rfl)) rfl ?_;intro f h
    refine aF h s yF (sd (dX l no).2 l vh _ (hR.keep s.ext) hln hg) rfl rfl ?_;intro f w1 vr hT hE h sq;replace s:=s.sl_new hE (hT.seq (gC (dX l no).2 l).symm rfl)
    refine ac h (ai (h.ev rfl)) rfl ?_;intro f h
    refine ah ?_
    refine hK8 _ _ ?_
    refine aj fun K9 hK9=>?_
    refine ae ?_
    refine ac h (ag (h.ev rfl)) rfl ?_;intro f h
    refine rS (n:=m9) (xs:=av (lZ l (dX l no) m9 0)) h s Tryz.underlying36 dD cz rfl rfl (hm9) (by omega) (by unfold maxLen;omega) ((xg _).trans (by rw [sE])) (by rw [es,mc _ _ (Nat.zero_le _)]) rfl ?_;intro f w1 v33 h s
    refine ac h (ai (h.ev rfl)) rfl ?_;intro f h
    refine ah ?_
    refine hK9 _ _ ?_
    refine aj fun K10 hK10=>?_
    refine aj fun K11 hK11=>?_
    refine ae ?_
    refine ac h (ag (h.ev rfl)) rfl ?_;intro f h
    refine ey 0 h s Tryz.underlying36 rfl rfl rfl ?_;intro f h
    refine ac h (ag (h.ev rfl)) rfl ?_;intro f h
    refine ah ?_
    refine hK11 _ _ ?_
    refine wpIn_block ?_
    refine wpIn_loop_ghost (fun nn aa ww=>∃ k:Nat,Sl 52 aa [(0,vh),(1,.int .i64 no),(2,.int .i64 many),(8,.pointer (some ⟨b8,0,none⟩)),(31,vr),(33,v33),(10,vr),(11,v33),(34,v33),(35,.int .i64 (m9:Int)),(36,.int .i64 (k:Int))]∧St w [.sl v33 28 33 m9 (av (lZ l (dX l no) m9 k)),.sl vr 28 33 (ei (dX l no).2 l).length (av (ei (dX l no).2 l)),.blk b8 (.cells (au (dX l no)) 28)] ww∧nn=m9 - k∧k≤m9) (m9 - (0)) ⟨0,h.only ⟨rfl,rfl,rfl,rfl,rfl,rfl,rfl,rfl,rfl,rfl,rfl,trivial⟩,s.as ⟨rfl,rfl,rfl,trivial⟩,rfl,Nat.zero_le _⟩ ?_
    rintro _ f w1 ⟨k,h,s,hnn,hp0⟩
    refine aj fun K12 hK12=>?_
    refine ae ?_
    refine ac h (bD (h.ev rfl) (h.ev rfl)) rfl ?_;intro f h
    refine ah ?_
    refine hK12 _ _ ?_
    refine aj fun K13 hK13=>?_
    refine bA h rfl (fun hc=>?_) (fun hc=>?_)
    ·replace hc:=of_decide_eq_true hc
     refine wpIn_skip ?_
     refine hK13 _ _ ?_
     refine aj fun K14 hK14=>?_
     refine wpIn_block ?_
     refine aj fun K15 hK15=>?_
     refine ae ?_
     refine ac h (ag (h.ev rfl)) rfl ?_;intro f h
     refine ac h (ai (h.ev rfl)) rfl ?_;intro f h
     refine ah ?_
     refine hK15 _ _ ?_
     refine ae ?_
     refine ac h (ag (h.ev rfl)) rfl ?_;intro f h
     refine ac h (ag (h.ev rfl)) rfl ?_;intro f h
     refine ac h (ag (h.ev rfl)) rfl ?_;intro f h
     refine ac h (ag (h.ev rfl)) rfl ?_;intro f h
     have hkl:k<m9:=by omega
     have hpos:=eN hm
     have hml:=Nat.mod_lt (k+1) hpos
     have hrl:=gC (dX l no).2 l
     refine ac h (aw (.int .i64 ((k+1:Nat):Int)) (cg (h.ev rfl) (h.ev rfl) (by omega)) (congrArg (Value.int .i64) (by omega))) rfl ?_;intro f h
     refine ac h (ag (h.ev rfl)) rfl ?_;intro f h
     refine ey 1 h s Tryz.underlying36 rfl rfl rfl ?_;intro f h
     refine ac h (aw (.int .i64 (((k+1) % l.length:Nat):Int)) (lO (h.ev rfl) (h.ev rfl) (by omega)) (congrArg (Value.int .i64) (by rw [gC];exact(Int.natCast_emod _ _).symm))) rfl ?_;intro f h
     refine ac h (ce (bK.of_own (s.getSl 1 rfl)) ((k+1) % l.length) Tryz.underlying36 cG (h.ev rfl) (h.ev rfl) (rfl) (by omega)) rfl ?_;intro f h
     refine aM ((bK.of_own (s.getSl 1 rfl)).el ((k+1) % l.length) (by omega) (by decide) (D:=au (mt l (dX l no) (k+1))) ((cK _ _ (by omega)).trans (by rw [pI hg hm]))) h aL rfl (ak _) rfl ?_;intro f h
     refine ac h (ce (bK.of_own (s.getSl 0 rfl)) (k) Tryz.underlying36 cG (h.ev rfl) (h.ev rfl) (rfl) (by omega)) rfl ?_;intro f h
     refine jo 0 (k) h s aL rfl rfl rfl (ak _) (by omega) (bf _) ((ut (l:=(lZ l (dX l no) m9 k)) _ (by rw [mc _ _ (by omega)];exact hkl)).trans (by rw [sA _ _ hkl])) ?_;intro w1 s
     refine ah ?_
     refine bF ?_
     refine hK14 _ _ ?_
     refine ae ?_
     refine ac h (cg (h.ev rfl) (h.ev rfl) (by omega)) rfl ?_;intro f h
     refine ac h (ag (h.ev rfl)) rfl ?_;intro f h
     refine ah ?_
     refine bQ ?_
     exact ⟨_,by omega,⟨k+1,h.only ⟨rfl,rfl,rfl,rfl,rfl,rfl,rfl,rfl,rfl,rfl,aR rfl (by omega),trivial⟩,St.as s ⟨rfl,rfl,rfl,trivial⟩,rfl,by omega⟩⟩
    ·replace hc:=of_decide_eq_false hc
     refine wpIn_exit ?_
     refine bw ?_
     refine bw ?_
     refine cq ?_
     refine hK10 _ _ ?_
     refine aj fun K16 hK16=>?_
     refine ae ?_
     refine ac h (ag (h.ev rfl)) rfl ?_;intro f h
     refine ac h (ai (h.ev rfl)) rfl ?_;intro f h
     refine ac h (ai (h.ev rfl)) rfl ?_;intro f h
     refine ah ?_
     refine hK16 _ _ ?_
     refine wpIn_ret ?_
     exact nR rfl h s rfl rfl (li (xb hm9 hae h0) (hae.trans h0) (by obtain rfl:k=m9:=(by omega);rw [← ul,mc _ _ (Nat.le_refl _)];exact(s.getSl 0 rfl)))
  ·skip
   refine ae ?_
   refine ac h (ag (h.ev rfl)) rfl ?_;intro f h
   refine ac h (aw (.bool false) (bD (h.ev rfl) (h.ev rfl)) (congrArg Value.bool m0)) rfl ?_;intro f h
   refine ac h (ag (h.ev rfl)) rfl ?_;intro f h
   refine aB h rfl rfl rfl ?_
   refine ac h (ag (h.ev rfl)) rfl ?_;intro f h
   refine aB h rfl rfl rfl ?_
   refine ac h (aw (.bool true) (cL (h.ev rfl) (h.ev rfl)) (congrArg Value.bool m1)) rfl ?_;intro f h
   refine ac h (aE (h.ev rfl) (h.ev rfl)) rfl ?_;intro f h
   refine ah ?_
   refine hK3 _ _ ?_
   refine wpIn_cond_true (h.ev rfl) ?_
   refine aj fun K17 hK17=>?_
   refine ae ?_
   refine ac h (ai (h.ev rfl)) rfl ?_;intro f h
   refine ac h (ai (h.ev rfl)) rfl ?_;intro f h
   refine ah ?_
   refine hK17 _ _ ?_
   refine wpIn_ret ?_
   refine aQ ?_
   exact nR rfl h s rfl rfl (li (lf (.inr (of_decide_eq_true m1))).2 (lf (.inr (of_decide_eq_true m1))).1 (gf _ _ _ _))
 ·skip
  refine ae ?_
  refine ac h (ag (h.ev rfl)) rfl ?_;intro f h
  refine ac h (aw (.bool true) (bD (h.ev rfl) (h.ev rfl)) (congrArg Value.bool m0)) rfl ?_;intro f h
  refine ac h (ag (h.ev rfl)) rfl ?_;intro f h
  refine aC (b:=false) h rfl rfl rfl rfl ?_;intro f h
  refine aC (b:=false) h rfl rfl rfl rfl ?_;intro f h
  refine ac h (aJ (h.ev rfl) (h.ev rfl)) rfl ?_;intro f h
  refine ah ?_
  refine hK3 _ _ ?_
  refine wpIn_cond_true (h.ev rfl) ?_
  refine aj fun K18 hK18=>?_
  refine ae ?_
  refine ac h (ai (h.ev rfl)) rfl ?_;intro f h
  refine ac h (ai (h.ev rfl)) rfl ?_;intro f h
  refine ah ?_
  refine hK18 _ _ ?_
  refine wpIn_ret ?_
  refine aQ ?_
  exact nR rfl h s rfl rfl (li (lf (.inl (of_decide_eq_true m0))).2 (lf (.inl (of_decide_eq_true m0))).1 (gf _ _ _ _))
theorem zf (l:List Mb) (vh:Value) (m:Mb) (w:World) (hR:bK w vh 33 l.length (av l)) (hln:l.length≤1000) (hg:Rg l) (hm:m∈l):Calls Tryz.prog 50 [vh,.agg (au m)].toArray w (cT w (Bt w 28 l m)):=by
 refine bj Tryz.func50 rfl Tryz.ntmps50 rfl [(0,vh),(1,.agg (au m))] (by simp) fun f h=>?_
 have s:=St.start w
 refine aj fun K1 hK1=>?_
 refine ae ?_
 refine bT ((au m)) h s rfl rfl rfl ?_;intro f w1 b3 h s
 refine ba (au a8) h s cz rfl rfl ?_;intro f w1 b4 h s
 refine ac h (ai (h.ev rfl)) rfl ?_;intro f h
 refine ah ?_
 refine hK1 _ _ ?_
 refine aj fun K2 hK2=>?_
 refine ae ?_
 refine ac h (ag (h.ev rfl)) rfl ?_;intro f h
 refine ac h (aY (hR.keep s.ext) Tryz.underlying36 (h.ev rfl)) rfl ?_;intro f h
 refine ac h (dP (h.ev rfl) (h.ev rfl) (by omega)) rfl ?_;intro f h
 refine ac h (ai (h.ev rfl)) rfl ?_;intro f h
 refine ah ?_
 refine hK2 _ _ ?_
 refine aj fun K3 hK3=>?_
 refine aj fun K4 hK4=>?_
 refine ae ?_
 refine ac h (ag (h.ev rfl)) rfl ?_;intro f h
 refine ac h (cc (h.ev rfl) (h.ev rfl)) rfl ?_;intro f h
 refine ah ?_
 refine hK4 _ _ ?_
 refine bA h rfl (fun hc=>?_) (fun hc=>?_)
 ·have h1:l.length=1:=by have:=of_decide_eq_true hc;omega
  refine aj fun K5 hK5=>?_
  refine i9 1 [[],[],[1],[0],[0,1,2,3]] [[],[],[],[5],[]] [fun _=>[],fun _=>[],fun v=>[.sl (v 2) 28 33 [m].length (av [m])],fun v=>[.blk b4 (.cells (au d5) 28)],fun _=>[]] [[.blk b4 (.cells (au a8) 28)]] [fun v=>v 0=.agg (au d5),fun v=>v 1=.agg (au m),fun _=>True,fun _=>True,fun v=>v 4=(v 2)] [.blk b3 (.cells ((au m)) 28)] h s rfl (by kernel_rfl) (by kernel_rfl) (by kernel_rfl) (And.intro ?_ (And.intro ?_ (And.intro ?_ (And.intro ?_ (And.intro ?_ (trivial)))))) [0,1,2,3,4] (by kernel_rfl) ?_
  ·intro f9 w2 vl3 E9 hs9 hd9 hl hF s
   have h:=aq [] (hs9.trans h.size) (hd9.trans h.defers) (holds_lk trivial)
   replace s:St w (.blk b3 (.cells ((au m)) 28)::E9) _:=s
   refine aF h s Ad (sK _) rfl rfl ?_;intro f w1 v9 hT hE h s;obtain rfl:=hT
   exact ah ⟨_,a7 16 rfl (h.holds 16 _ rfl),rfl,s⟩
  ·intro f9 w2 vl3 E9 hs9 hd9 hl hF s
   have e3:f9.tmps.getD 3 undef=_:=cD hl 3 (by kernel_rfl) (by kernel_rfl) (h.holds 3 _ rfl)
   have h:=aq [(3,_)] (hs9.trans h.size) (hd9.trans h.defers) (holds_lk ⟨e3,trivial⟩)
   replace s:St w (.blk b3 (.cells ((au m)) 28)::E9) _:=s
   refine ao 0 h s aL rfl rfl (ak _) rfl ?_;intro f h
   exact ah ⟨_,a7 17 rfl (h.holds 17 _ rfl),rfl,s⟩
  ·intro f9 w2 vl3 E9 hs9 hd9 hl hF s
   have e17:f9.tmps.getD 17 undef=.agg (au m):=(aW hl 17 1 (by kernel_rfl) (by kernel_rfl)).trans (hF 1 (by decide))
   have h:=aq [(17,.agg (au m))] (hs9.trans h.size) (hd9.trans h.defers) (holds_lk ⟨e17,trivial⟩)
   replace s:St w (.blk b3 (.cells ((au m)) 28)::E9) _:=s
   refine cF (vs:=[.agg (au m)]) [.tmp 17] h s Tryz.underlying36 dD rfl rfl (gU _) rfl rfl rfl ?_;intro f w1 v18 h s
   replace s:=s.resl (m:=[m].length) (ys:=av [m]) 0 rfl rfl (by rw [eh,dx])
   exact ah ⟨_,a7 18 rfl (h.holds 18 _ rfl),trivial,s⟩
  ·intro f9 w2 vl3 E9 hs9 hd9 hl hF s
   have e4:f9.tmps.getD 4 undef=_:=cD hl 4 (by kernel_rfl) (by kernel_rfl) (h.holds 4 _ rfl)
   have e16:f9.tmps.getD 16 undef=.agg (au d5):=(aW hl 16 0 (by kernel_rfl) (by kernel_rfl)).trans (hF 0 (by decide))
   have h:=aq [(4,_),(16,.agg (au d5))] (hs9.trans h.size) (hd9.trans h.defers) (holds_lk ⟨e4,e16,trivial⟩)
   replace s:St w (.blk b4 (.cells (au a8) 28)::.blk b3 (.cells ((au m)) 28)::E9) _:=s
   refine ay 0 h s aL rfl rfl rfl (ak _) (ak _) (bf _) ?_;intro w1 s
   exact ah ⟨undef,im rfl,trivial,s⟩
  ·intro f9 w2 vl3 E9 hs9 hd9 hl hF s
   have e18:f9.tmps.getD 18 undef=(vl3 2):=aW hl 18 2 (by kernel_rfl) (by kernel_rfl)
   have h:=aq [(18,(vl3 2))] (hs9.trans h.size) (hd9.trans h.defers) (holds_lk ⟨e18,trivial⟩)
   replace s:St w (.blk b3 (.cells ((au m)) 28)::E9) _:=s
   refine ac h (ai (h.ev rfl)) rfl ?_;intro f h
   exact ah ⟨_,a7 5 rfl (h.holds 5 _ rfl),rfl,s⟩
  intro f w1 vl3 hs9 hd9 hv hr hF s
  replace h:=kM (ops:=_) [(16,.agg (au d5)),(17,.agg (au m)),(18,(vl3 2)),(5,(vl3 2))] h hs9 hd9 hr ⟨(hv 0 16 rfl).trans (hF 0 (by kernel_rfl)),(hv 1 17 rfl).trans (hF 1 (by kernel_rfl)),hv 2 18 rfl,(hv 4 5 rfl).trans (hF 4 (by kernel_rfl)),trivial⟩ (by kernel_rfl)
  replace s:St w [.sl (vl3 2) 28 33 [m].length (av [m]),.blk b4 (.cells (au d5) 28),.blk b3 (.cells ((au m)) 28)] _:=s
  refine hK5 _ _ ?_
  refine wpIn_ret ?_
  refine aQ ?_
  exact cd 1 rfl h s aL rfl rfl (ak _) rfl (xi h1 (s.getSl 0 rfl))
 ·have h1:¬ l.length=1:=by have:=of_decide_eq_false hc;omega
  have hpos:=eN hm
  refine wpIn_skip ?_
  refine hK3 _ _ ?_
  refine aj fun K6 hK6=>?_
  refine ae ?_
  refine ac h (ag (h.ev rfl)) rfl ?_;intro f h
  refine ac h (al aP (h.ev rfl)) rfl ?_;intro f h
  refine ar (am (bc.of_own s 1 rfl) 0 (aV _)) h bO rfl rfl ?_;intro f h
  refine aF h s AO (qk l vh m.1 _ (hR.keep s.ext) hln) rfl rfl ?_;intro f w1 v9 hT hE h s;obtain rfl:=hT
  refine ac h (ag (h.ev rfl)) rfl ?_;intro f h
  refine ac h (bB (h.ev rfl) rfl) rfl ?_;intro f h
  refine ac h (bB (h.ev rfl) rfl) rfl ?_;intro f h
  refine ba (au a8) h s cz rfl rfl ?_;intro f w1 b7 h s
  refine ay 0 h s aL rfl rfl rfl (ak _) (ak _) (bf _) ?_;intro w1 s
  refine ac h (ai (h.ev rfl)) rfl ?_;intro f h
  refine ah ?_
  refine hK6 _ _ ?_
  refine aj fun K7 hK7=>?_
  refine ae ?_
  refine ac h (ag (h.ev rfl)) rfl ?_;intro f h
  refine ac h (al aP (h.ev rfl)) rfl ?_;intro f h
  refine ar (am (bc.of_own s 2 rfl) 0 (aV _)) h bO rfl rfl ?_;intro f h
  refine ac h (ag (h.ev rfl)) rfl ?_;intro f h
  refine ac h (aw (.int .i64 ((min (l.length - 1) 4:Nat):Int)) (nx (h.ev rfl) (h.ev rfl)) (congrArg (Value.int .i64) (by omega))) rfl ?_;intro f h
  have haf:=yG hg hm (n:=min (l.length - 1) 4) (by omega)
  refine aF h s z8 (sr l vh m.1 ((min (l.length - 1) 4:Nat):Int) _ (hR.keep s.ext) hln) rfl rfl ?_;rintro f w1 v9 ⟨va,rfl,hT⟩ hE h sq;rw [haf.2] at hT;replace s:=s.sl_new hE hT
  refine ac h (ag (h.ev rfl)) rfl ?_;intro f h
  refine ac h (bB (h.ev rfl) rfl) rfl ?_;intro f h
  refine ac h (bB (h.ev rfl) rfl) rfl ?_;intro f h
  refine ac h (ai (h.ev rfl)) rfl ?_;intro f h
  refine ac h (ai (h.ev rfl)) rfl ?_;intro f h
  refine ah ?_
  refine hK7 _ _ ?_
  refine aj fun K8 hK8=>?_
  refine ae ?_
  refine ao 1 h s aL rfl rfl (ak _) rfl ?_;intro f h
  refine ac h (ag (h.ev rfl)) rfl ?_;intro f h
  refine ay 2 h s aL rfl rfl rfl (ak _) (ak _) (bf _) ?_;intro w1 s
  refine ac h (ai (h.ev rfl)) rfl ?_;intro f h
  refine ah ?_
  refine hK8 _ _ ?_
  refine wpIn_ret ?_
  exact cd 2 rfl h s aL rfl rfl (ak _) rfl ((by rw [y3 hg hm];exact xz h1 (s.getSl 0 rfl)))
theorem g6 (L:List N3) (vo:Value) (w:World) (hO:cf w vo L) (hL:L.length≤40) (hb:RwB L):Calls Tryz.prog 12 [.agg #[vo]].toArray w (cT w (is (.bool (gd L)))):=by
 have hml:(aN L).length≤1000:=by rw [List.length_map];omega
 refine eU Tryz.func12 rfl Tryz.ntmps12 rfl [(0,.agg #[vo])] (by simp) fun f h=>?_
 have s:=St.start w
 refine aj fun K1 hK1=>?_
 refine ae ?_
 refine bT (#[vo]) h s rfl rfl rfl ?_;intro f w1 b1 h s
 refine ba (#[.bool false]) h s q8 rfl rfl ?_;intro f w1 b2 h s
 refine ah ?_
 refine hK1 _ _ ?_
 refine aj fun K2 hK2=>?_
 refine aj fun K3 hK3=>?_
 cases r0:(fQ L:Bool)
 ·skip
  refine ae ?_
  refine ao 1 h s aU rfl rfl (rfl) rfl ?_;intro f h
  refine aF h s jP (aO (.bool false) (dB L vo _ (hO.keep s.ext) hL hb) (congrArg Value.bool r0)) rfl rfl ?_;intro f w1 v9 hT hE h s;obtain rfl:=hT
  refine ac h (aw (.bool true) (bg (h.ev rfl)) rfl) rfl ?_;intro f h
  refine ah ?_
  refine hK3 _ _ ?_
  refine wpIn_cond_true (h.ev rfl) ?_
  refine aj fun K4 hK4=>?_
  refine ae ?_
  refine bp 0 h s fa rfl rfl rfl (by simp) (rfl) ?_;intro w1 s
  refine ah ?_
  refine hK4 _ _ ?_
  refine wpIn_ret ?_
  refine aQ ?_
  exact lX 0 rfl h s fa rfl rfl rfl (fun w9=>by show _=_;rw [yC r0];rfl)
 ·skip
  refine ae ?_
  refine ao 1 h s aU rfl rfl (rfl) rfl ?_;intro f h
  refine aF h s jP (aO (.bool true) (dB L vo _ (hO.keep s.ext) hL hb) (congrArg Value.bool r0)) rfl rfl ?_;intro f w1 v9 hT hE h s;obtain rfl:=hT
  refine ac h (aw (.bool false) (bg (h.ev rfl)) rfl) rfl ?_;intro f h
  refine ah ?_
  refine hK3 _ _ ?_
  refine wpIn_cond_false (h.ev rfl) ?_
  refine wpIn_skip ?_
  refine hK2 _ _ ?_
  refine aj fun K5 hK5=>?_
  refine ae ?_
  have hrg:=(ex r0).rs.ring
  refine ao 1 h s aU rfl rfl (rfl) rfl ?_;intro f h
  refine aF h s rA (ff L vo _ (hO.keep s.ext) hL) rfl rfl ?_;intro f w1 v11 hT hE h sq;replace s:=s.sl_new hE hT
  refine ba (#[.slice none 0 0]) h s uM rfl rfl ?_;intro f w1 b3 h s
  refine bp 0 h s bH rfl rfl rfl (by simp) (bP (s.getSl 1 rfl)) ?_;intro w1 s
  refine ah ?_
  refine hK5 _ _ ?_
  refine aj fun K6 hK6=>?_
  refine aj fun K7 hK7=>?_
  refine ae ?_
  refine ao 3 h s aU rfl rfl (rfl) rfl ?_;intro f h
  refine eP [.agg #[vo]] h mR (f5 vo _ _ _ s) rfl rfl ?_;rintro f w1 r ⟨bn,rfl,s⟩ h
  refine ah ?_
  refine hK7 _ _ ?_
  refine wpIn_block ?_
  refine eV (fun d A9=>A9=[.blk b3 (.cells #[v11] 36),.sl v11 28 33 (aN L).length (av (aN L)),.blk b2 (.cells #[.bool false] 4),.blk b1 (.cells #[vo] 24)]) [.blk b3 (.cells #[v11] 36),.sl v11 28 33 (aN L).length (av (aN L)),.blk b2 (.cells #[.bool false] 4),.blk b1 (.cells #[vo] 24)] [.blk bn (.cells #[vo] 24)] (L.length) (sM L) (fun d=>[Value.pointer (some (bs vo (d*68)))]) h s rfl mJ (List.Perm.refl _) (rfl) (fun _=>rfl) ?_ ?_ ?_ ?_
  ·intro lp w2 GG g0 hg0 s2 hY;exact fp L.length (by omega) vo _ _ hO.1 lp bn (sM L) GG g0 w w2 s2 hg0 hY
  ·intro lp D9 d9 rc R9 A9 w2 hd9 hq9 hJ9 s
   obtain rfl:=hJ9
   have h:=Sl.round1 (p:=14) (V:=.pointer (some (bs vo (d9*68)))) h rfl
   have hdl9:=hd9
   refine ae ?_
   refine ac h (ai (h.ev rfl)) rfl ?_;intro f h
   refine ah ?_
   refine bQ ?_
   refine ⟨_,s,fun w3 s=>?_⟩
   refine wpIn_block ?_
   refine aj fun K8 hK8=>?_
   refine i9 0 [[],[],[1],[1,2],[1,2,3],[0,1,2,3,4],[0,1,2,3,4,5],[0,1,2,3,4,5,6],[0,1,2,3,4,5,6],[],[0,1,2,3,4,5,6,7,9],[0,1,2,3,4,5,6,7,8,9,10]] [[],[],[],[],[],[],[],[],[],[],[9],[]] [fun _=>[],fun _=>[],fun _=>[],fun _=>[],fun _=>[],fun v=>[.sl (fI (v 5)) 28 33 (ow (aN L) (L.getD d9 z3).1.me).length (av (ow (aN L) (L.getD d9 z3).1.me))],fun _=>[],fun _=>[],fun _=>[],fun v=>[.blk (np (v 9)) (.cells (au a8) 28)],fun v=>[.blk (np (v 9)) (.cells (au (jz (aN L) (L.getD d9 z3).1.me)) 28)],fun _=>[]] [] [fun v=>v 0=v11,fun v=>v 1=.pointer (some (bs vo (d9*68))),fun v=>v 2=.pointer (some (bs vo (d9*68))),fun v=>v 3=.pointer (some (bs vo (d9*68+0))),fun v=>v 4=.agg (au (L.getD d9 z3).1.me),fun v=>v 5=.tuple #[.agg (au (jz (aN L) (L.getD d9 z3).1.me)),(fI (v 5))],fun v=>v 6=.tuple #[.agg (au (jz (aN L) (L.getD d9 z3).1.me)),(fI (v 5))],fun v=>v 7=.agg (au (jz (aN L) (L.getD d9 z3).1.me)),fun v=>v 8=(fI (v 5)),fun v=>∃ b,v 9=.pointer (some ⟨b,0,none⟩),fun _=>True,fun v=>v 11=(fI (v 5))] (.blk lp (.loop (rc .busy))::.blk D9 (.deferred (some []))::.blk b3 (.cells (#[v11]) 36)::.sl v11 28 33 (aN L).length (av (aN L))::.blk b2 (.cells (#[.bool false]) 4)::.blk b1 (.cells (#[vo]) 24)::R9) h s rfl (by kernel_rfl) (by kernel_rfl) (by kernel_rfl) (And.intro ?_ (And.intro ?_ (And.intro ?_ (And.intro ?_ (And.intro ?_ (And.intro ?_ (And.intro ?_ (And.intro ?_ (And.intro ?_ (And.intro ?_ (And.intro ?_ (And.intro ?_ (trivial))))))))))))) [0,1,2,3,4,5,6,7,8,10,11] (by kernel_rfl) ?_
   ·intro f9 w2 vl6 E9 hs9 hd9 hl hF s
    have e3:f9.tmps.getD 3 undef=_:=cD hl 3 (by kernel_rfl) (by kernel_rfl) (h.holds 3 _ rfl)
    have h:=aq [(3,_)] (hs9.trans h.size) (hd9.trans h.defers) (holds_lk ⟨e3,trivial⟩)
    replace s:St w (.blk lp (.loop (rc .busy))::.blk D9 (.deferred (some []))::.blk b3 (.cells (#[v11]) 36)::.sl v11 28 33 (aN L).length (av (aN L))::.blk b2 (.cells (#[.bool false]) 4)::.blk b1 (.cells (#[vo]) 24)::(R9++E9)) _:=s
    refine dO 2 h s bH rfl rfl (rfl) rfl ?_;intro f h
    exact ah ⟨_,a7 16 rfl (h.holds 16 _ rfl),rfl,s⟩
   ·intro f9 w2 vl6 E9 hs9 hd9 hl hF s
    have e4:f9.tmps.getD 4 undef=_:=cD hl 4 (by kernel_rfl) (by kernel_rfl) (h.holds 4 _ rfl)
    have h:=aq [(4,_)] (hs9.trans h.size) (hd9.trans h.defers) (holds_lk ⟨e4,trivial⟩)
    replace s:St w (.blk lp (.loop (rc .busy))::.blk D9 (.deferred (some []))::.blk b3 (.cells (#[v11]) 36)::.sl v11 28 33 (aN L).length (av (aN L))::.blk b2 (.cells (#[.bool false]) 4)::.blk b1 (.cells (#[vo]) 24)::(R9++E9)) _:=s
    refine ac h (ag (h.ev rfl)) rfl ?_;intro f h
    exact ah ⟨_,a7 17 rfl (h.holds 17 _ rfl),rfl,s⟩
   ·intro f9 w2 vl6 E9 hs9 hd9 hl hF s
    have e17:f9.tmps.getD 17 undef=.pointer (some (bs vo (d9*68))):=(aW hl 17 1 (by kernel_rfl) (by kernel_rfl)).trans (hF 1 (by decide))
    have h:=aq [(17,.pointer (some (bs vo (d9*68))))] (hs9.trans h.size) (hd9.trans h.defers) (holds_lk ⟨e17,trivial⟩)
    replace s:St w (.blk lp (.loop (rc .busy))::.blk D9 (.deferred (some []))::.blk b3 (.cells (#[v11]) 36)::.sl v11 28 33 (aN L).length (av (aN L))::.blk b2 (.cells (#[.bool false]) 4)::.blk b1 (.cells (#[vo]) 24)::(R9++E9)) _:=s
    refine ac h (bN (h.ev rfl)) rfl ?_;intro f h
    exact ah ⟨_,a7 18 rfl (h.holds 18 _ rfl),rfl,s⟩
   ·intro f9 w2 vl6 E9 hs9 hd9 hl hF s
    have e18:f9.tmps.getD 18 undef=.pointer (some (bs vo (d9*68))):=(aW hl 18 2 (by kernel_rfl) (by kernel_rfl)).trans (hF 2 (by decide))
    have h:=aq [(18,.pointer (some (bs vo (d9*68))))] (hs9.trans h.size) (hd9.trans h.defers) (holds_lk ⟨e18,trivial⟩)
    replace s:St w (.blk lp (.loop (rc .busy))::.blk D9 (.deferred (some []))::.blk b3 (.cells (#[v11]) 36)::.sl v11 28 33 (aN L).length (av (aN L))::.blk b2 (.cells (#[.bool false]) 4)::.blk b1 (.cells (#[vo]) 24)::(R9++E9)) _:=s
    refine ac h (ca a6 (h.ev rfl) ((hO.1.keep s.ext).some (by omega))) rfl ?_;intro f h
    exact ah ⟨_,a7 19 rfl (h.holds 19 _ rfl),rfl,s⟩
   ·intro f9 w2 vl6 E9 hs9 hd9 hl hF s
    have e19:f9.tmps.getD 19 undef=.pointer (some (bs vo (d9*68+0))):=(aW hl 19 3 (by kernel_rfl) (by kernel_rfl)).trans (hF 3 (by decide))
    have h:=aq [(19,.pointer (some (bs vo (d9*68+0))))] (hs9.trans h.size) (hd9.trans h.defers) (holds_lk ⟨e19,trivial⟩)
    replace s:St w (.blk lp (.loop (rc .busy))::.blk D9 (.deferred (some []))::.blk b3 (.cells (#[v11]) 36)::.sl v11 28 33 (aN L).length (av (aN L))::.blk b2 (.cells (#[.bool false]) 4)::.blk b1 (.cells (#[vo]) 24)::(R9++E9)) _:=s
    refine aM (bK.elF (hO.1.keep s.ext) (d9) 0 33 (by omega) (by decide) (C:=aD (L.getD d9 z3).1.me (L.getD d9 z3).1.pr (L.getD d9 z3).2.1 (L.getD d9 z3).2.2) (c6 L d9 hdl9) (D:=au (L.getD d9 z3).1.me) (bU _ _ _ _)) h aL rfl (ak _) rfl ?_;intro f h
    exact ah ⟨_,a7 20 rfl (h.holds 20 _ rfl),rfl,s⟩
   ·intro f9 w2 vl6 E9 hs9 hd9 hl hF s
    have e16:f9.tmps.getD 16 undef=v11:=(aW hl 16 0 (by kernel_rfl) (by kernel_rfl)).trans (hF 0 (by decide))
    have e20:f9.tmps.getD 20 undef=.agg (au (L.getD d9 z3).1.me):=(aW hl 20 4 (by kernel_rfl) (by kernel_rfl)).trans (hF 4 (by decide))
    have h:=aq [(16,v11),(20,.agg (au (L.getD d9 z3).1.me))] (hs9.trans h.size) (hd9.trans h.defers) (holds_lk ⟨e16,e20,trivial⟩)
    replace s:St w (.blk lp (.loop (rc .busy))::.blk D9 (.deferred (some []))::.blk b3 (.cells (#[v11]) 36)::.sl v11 28 33 (aN L).length (av (aN L))::.blk b2 (.cells (#[.bool false]) 4)::.blk b1 (.cells (#[vo]) 24)::(R9++E9)) _:=s
    refine aF h s Aw (zf (aN L) v11 (L.getD d9 z3).1.me _ (bK.of_own (s.getSl 3 rfl)) hml hrg (List.mem_map.2 ⟨_,bh hdl9,rfl⟩)) rfl rfl ?_;rintro f w1 v21 ⟨u9,hv9,hO9⟩ hE h sq;replace s:=s.sl_new hE hO9
    have h1v:u9=fI v21:=by rw [hv9];rfl
    clear hO9
    subst h1v
    exact ah ⟨_,a7 21 rfl (h.holds 21 _ rfl),hv9,s⟩
   ·intro f9 w2 vl6 E9 hs9 hd9 hl hF s
    have e21:f9.tmps.getD 21 undef=.tuple #[.agg (au (jz (aN L) (L.getD d9 z3).1.me)),(fI (vl6 5))]:=(aW hl 21 5 (by kernel_rfl) (by kernel_rfl)).trans (hF 5 (by decide))
    have h:=aq [(21,.tuple #[.agg (au (jz (aN L) (L.getD d9 z3).1.me)),(fI (vl6 5))])] (hs9.trans h.size) (hd9.trans h.defers) (holds_lk ⟨e21,trivial⟩)
    replace s:St w (.blk lp (.loop (rc .busy))::.blk D9 (.deferred (some []))::.blk b3 (.cells (#[v11]) 36)::.sl v11 28 33 (aN L).length (av (aN L))::.blk b2 (.cells (#[.bool false]) 4)::.blk b1 (.cells (#[vo]) 24)::(R9++E9)) _:=s
    refine ac h (ag (h.ev rfl)) rfl ?_;intro f h
    exact ah ⟨_,a7 15 rfl (h.holds 15 _ rfl),rfl,s⟩
   ·intro f9 w2 vl6 E9 hs9 hd9 hl hF s
    have e15:f9.tmps.getD 15 undef=.tuple #[.agg (au (jz (aN L) (L.getD d9 z3).1.me)),(fI (vl6 5))]:=(aW hl 15 6 (by kernel_rfl) (by kernel_rfl)).trans (hF 6 (by decide))
    have h:=aq [(15,.tuple #[.agg (au (jz (aN L) (L.getD d9 z3).1.me)),(fI (vl6 5))])] (hs9.trans h.size) (hd9.trans h.defers) (holds_lk ⟨e15,trivial⟩)
    replace s:St w (.blk lp (.loop (rc .busy))::.blk D9 (.deferred (some []))::.blk b3 (.cells (#[v11]) 36)::.sl v11 28 33 (aN L).length (av (aN L))::.blk b2 (.cells (#[.bool false]) 4)::.blk b1 (.cells (#[vo]) 24)::(R9++E9)) _:=s
    refine ac h (bB (h.ev rfl) rfl) rfl ?_;intro f h
    exact ah ⟨_,a7 22 rfl (h.holds 22 _ rfl),rfl,s⟩
   ·intro f9 w2 vl6 E9 hs9 hd9 hl hF s
    have e15:f9.tmps.getD 15 undef=.tuple #[.agg (au (jz (aN L) (L.getD d9 z3).1.me)),(fI (vl6 5))]:=(aW hl 15 6 (by kernel_rfl) (by kernel_rfl)).trans (hF 6 (by decide))
    have h:=aq [(15,.tuple #[.agg (au (jz (aN L) (L.getD d9 z3).1.me)),(fI (vl6 5))])] (hs9.trans h.size) (hd9.trans h.defers) (holds_lk ⟨e15,trivial⟩)
    replace s:St w (.blk lp (.loop (rc .busy))::.blk D9 (.deferred (some []))::.blk b3 (.cells (#[v11]) 36)::.sl v11 28 33 (aN L).length (av (aN L))::.blk b2 (.cells (#[.bool false]) 4)::.blk b1 (.cells (#[vo]) 24)::(R9++E9)) _:=s
    refine ac h (bB (h.ev rfl) rfl) rfl ?_;intro f h
    exact ah ⟨_,a7 23 rfl (h.holds 23 _ rfl),rfl,s⟩
   ·intro f9 w2 vl6 E9 hs9 hd9 hl hF s
    have h:=aq [] (hs9.trans h.size) (hd9.trans h.defers) (holds_lk trivial)
    replace s:St w (.blk lp (.loop (rc .busy))::.blk D9 (.deferred (some []))::.blk b3 (.cells (#[v11]) 36)::.sl v11 28 33 (aN L).length (av (aN L))::.blk b2 (.cells (#[.bool false]) 4)::.blk b1 (.cells (#[vo]) 24)::(R9++E9)) _:=s
    refine ba (au a8) h s cz rfl rfl ?_;intro f w1 b5 h s
    exact ah ⟨_,a7 5 rfl (h.holds 5 _ rfl),⟨_,rfl⟩,s⟩
   ·intro f9 w2 vl6 E9 hs9 hd9 hl hF s
    obtain ⟨b5,hb5⟩:∃ b,vl6 9=.pointer (some ⟨b,0,none⟩):=hF 9 (by decide)
    have e5:f9.tmps.getD 5 undef=.pointer (some ⟨b5,0,none⟩):=(aW hl 5 9 (by kernel_rfl) (by kernel_rfl)).trans hb5
    have e22:f9.tmps.getD 22 undef=.agg (au (jz (aN L) (L.getD d9 z3).1.me)):=(aW hl 22 7 (by kernel_rfl) (by kernel_rfl)).trans (hF 7 (by decide))
    have h:=aq [(5,.pointer (some ⟨b5,0,none⟩)),(22,.agg (au (jz (aN L) (L.getD d9 z3).1.me)))] (hs9.trans h.size) (hd9.trans h.defers) (holds_lk ⟨e5,e22,trivial⟩)
    replace s:St w (.blk (np (vl6 9)) (.cells (au a8) 28)::.blk lp (.loop (rc .busy))::.blk D9 (.deferred (some []))::.blk b3 (.cells (#[v11]) 36)::.sl v11 28 33 (aN L).length (av (aN L))::.blk b2 (.cells (#[.bool false]) 4)::.blk b1 (.cells (#[vo]) 24)::(R9++E9)) _:=s
    rw [hb5] at s
    replace s:St w (.blk b5 (.cells (au a8) 28)::.blk lp (.loop (rc .busy))::.blk D9 (.deferred (some []))::.blk b3 (.cells (#[v11]) 36)::.sl v11 28 33 (aN L).length (av (aN L))::.blk b2 (.cells (#[.bool false]) 4)::.blk b1 (.cells (#[vo]) 24)::(R9++E9)) _:=s
    refine ay 0 h s aL rfl rfl rfl (ak _) (ak _) (bf _) ?_;intro w1 s
    refine ah ⟨undef,im rfl,trivial,?_⟩
    have z:=s
    rw [← show np (vl6 9)=b5 from by rw [hb5];rfl] at z
    exact z
   ·intro f9 w2 vl6 E9 hs9 hd9 hl hF s
    have e23:f9.tmps.getD 23 undef=(fI (vl6 5)):=(aW hl 23 8 (by kernel_rfl) (by kernel_rfl)).trans (hF 8 (by decide))
    have h:=aq [(23,(fI (vl6 5)))] (hs9.trans h.size) (hd9.trans h.defers) (holds_lk ⟨e23,trivial⟩)
    replace s:St w (.blk lp (.loop (rc .busy))::.blk D9 (.deferred (some []))::.blk b3 (.cells (#[v11]) 36)::.sl v11 28 33 (aN L).length (av (aN L))::.blk b2 (.cells (#[.bool false]) 4)::.blk b1 (.cells (#[vo]) 24)::(R9++E9)) _:=s
    refine ac h (ai (h.ev rfl)) rfl ?_;intro f h
    exact ah ⟨_,a7 6 rfl (h.holds 6 _ rfl),rfl,s⟩
   intro f w1 vl6 hs9 hd9 hv hr hF s
   obtain ⟨b5,hb5⟩:∃ b,vl6 9=.pointer (some ⟨b,0,none⟩):=hF 9 (by kernel_rfl)
   replace h:=kM (ops:=_) [(16,v11),(17,.pointer (some (bs vo (d9*68)))),(18,.pointer (some (bs vo (d9*68)))),(19,.pointer (some (bs vo (d9*68+0)))),(20,.agg (au (L.getD d9 z3).1.me)),(21,.tuple #[.agg (au (jz (aN L) (L.getD d9 z3).1.me)),(fI (vl6 5))]),(15,.tuple #[.agg (au (jz (aN L) (L.getD d9 z3).1.me)),(fI (vl6 5))]),(22,.agg (au (jz (aN L) (L.getD d9 z3).1.me))),(23,(fI (vl6 5))),(5,.pointer (some ⟨b5,0,none⟩)),(6,(fI (vl6 5)))] h hs9 hd9 hr ⟨(hv 0 16 rfl).trans (hF 0 (by kernel_rfl)),(hv 1 17 rfl).trans (hF 1 (by kernel_rfl)),(hv 2 18 rfl).trans (hF 2 (by kernel_rfl)),(hv 3 19 rfl).trans (hF 3 (by kernel_rfl)),(hv 4 20 rfl).trans (hF 4 (by kernel_rfl)),(hv 5 21 rfl).trans (hF 5 (by kernel_rfl)),(hv 6 15 rfl).trans (hF 6 (by kernel_rfl)),(hv 7 22 rfl).trans (hF 7 (by kernel_rfl)),(hv 8 23 rfl).trans (hF 8 (by kernel_rfl)),(hv 9 5 rfl).trans hb5,(hv 11 6 rfl).trans (hF 11 (by kernel_rfl)),trivial⟩ (by kernel_rfl)
   replace s:St w (.sl (fI (vl6 5)) 28 33 (ow (aN L) (L.getD d9 z3).1.me).length (av (ow (aN L) (L.getD d9 z3).1.me))::.blk (np (vl6 9)) (.cells (au (jz (aN L) (L.getD d9 z3).1.me)) 28)::.blk lp (.loop (rc .busy))::.blk D9 (.deferred (some []))::.blk b3 (.cells (#[v11]) 36)::.sl v11 28 33 (aN L).length (av (aN L))::.blk b2 (.cells (#[.bool false]) 4)::.blk b1 (.cells (#[vo]) 24)::R9) _:=s
   rw [hb5] at s
   replace s:St w (.sl (fI (vl6 5)) 28 33 (ow (aN L) (L.getD d9 z3).1.me).length (av (ow (aN L) (L.getD d9 z3).1.me))::.blk b5 (.cells (au (jz (aN L) (L.getD d9 z3).1.me)) 28)::.blk lp (.loop (rc .busy))::.blk D9 (.deferred (some []))::.blk b3 (.cells (#[v11]) 36)::.sl v11 28 33 (aN L).length (av (aN L))::.blk b2 (.cells (#[.bool false]) 4)::.blk b1 (.cells (#[vo]) 24)::R9) _:=s
   refine hK8 _ _ ?_
   refine aj fun K9 hK9=>?_
   cases q0:(decide ((L.getD d9 z3).1.pr=(jz (aN L) (L.getD d9 z3).1.me)):Bool)
   ·skip
    refine bJ 15 [[],[0],[0,1],[0,1,2],[],[0,1,2,3,4],[0,1,2,3,4,5],[0,1,2,3,4,5,6],[0,1,2,3,4,5,6,7],[0,1,2,3,4,5,6,7,8],[0,1,2,3,4,5,6,7,8,9],[0,1,2,3,4,5,6],[0,1,2,3,4,5,6,7,8,9,10,11],[0,1,2,3,4,5,6,7,8,9,10,11,12],[0,1,2,3,4,5,6,7,8,9,10,11,12,13]] h (by kernel_rfl) (by kernel_rfl) (by kernel_rfl) ?_
    have hx9:=hb.each _ (bh hdl9)
    refine ap h (ag (h.ev rfl)) rfl ?_;intro f h
    refine ap h (bN (h.ev rfl)) rfl ?_;intro f h
    refine ap h (ca cy (h.ev rfl) ((hO.1.keep s.ext).some (by omega))) rfl ?_;intro f h
    refine bz (bK.elF (hO.1.keep s.ext) (d9) 33 33 (by omega) (by decide) (C:=aD (L.getD d9 z3).1.me (L.getD d9 z3).1.pr (L.getD d9 z3).2.1 (L.getD d9 z3).2.2) (c6 L d9 hdl9) (D:=au (L.getD d9 z3).1.pr) (co _ _ _ _)) h aL rfl (ak _) rfl ?_;intro f h
    refine br 1 h s aL rfl rfl (ak _) rfl ?_;intro f h
    refine ap h (aw (.bool true) (dc (gM _ _) (by kernel_rfl) (by decide) (h.ev rfl) (h.ev rfl) (decide ((L.getD d9 z3).1.pr=(jz (aN L) (L.getD d9 z3).1.me))) (dE _ _)) (by rw [q0];rfl)) rfl ?_;intro f h
    refine ap h (ag (h.ev rfl)) rfl ?_;intro f h
    refine bm (b:=false) h rfl rfl rfl rfl ?_;intro f h
    refine bm (b:=false) h rfl rfl rfl rfl ?_;intro f h
    refine bm (b:=false) h rfl rfl rfl rfl ?_;intro f h
    refine bm (b:=false) h rfl rfl rfl rfl ?_;intro f h
    refine bm (b:=false) h rfl rfl rfl rfl ?_;intro f h
    refine bm (b:=false) h rfl rfl rfl rfl ?_;intro f h
    refine bm (b:=false) h rfl rfl rfl rfl ?_;intro f h
    refine ap h (aJ (h.ev rfl) (h.ev rfl)) rfl ?_;intro f h
    refine cn s fun w1 s=>?_
    refine ah ?_
    refine hK9 _ _ ?_
    refine wpIn_cond_true (h.ev rfl) ?_
    refine aj fun K10 hK10=>?_
    refine ae ?_
    refine bp 6 h s fa rfl rfl rfl (by simp) (rfl) ?_;intro w1 s
    refine ah ?_
    refine hK10 _ _ ?_
    refine wpIn_ret ?_
    refine bu ?_
    refine ⟨(zY q0),_,rfl,s.pick _ ?_⟩
    exact List.Sublist.cons _ (List.Sublist.cons _ (List.Sublist.cons_cons _ (List.Sublist.refl _)))
   ·skip
    cases q1:(decide ((L.getD d9 z3).1.sc=(ow (aN L) (L.getD d9 z3).1.me)):Bool)
    ·skip
     refine bJ 15 [[],[0],[0,1],[0,1,2],[],[0,1,2,3,4],[0,1,2,3,4,5],[0,1,2,3,4,5,6],[0,1,2,3,4,5,6,7],[0,1,2,3,4,5,6,7,8],[0,1,2,3,4,5,6,7,8,9],[0,1,2,3,4,5,6],[0,1,2,3,4,5,6,7,8,9,10,11],[0,1,2,3,4,5,6,7,8,9,10,11,12],[0,1,2,3,4,5,6,7,8,9,10,11,12,13]] h (by kernel_rfl) (by kernel_rfl) (by kernel_rfl) ?_
     have hx9:=hb.each _ (bh hdl9)
     refine ap h (ag (h.ev rfl)) rfl ?_;intro f h
     refine ap h (bN (h.ev rfl)) rfl ?_;intro f h
     refine ap h (ca cy (h.ev rfl) ((hO.1.keep s.ext).some (by omega))) rfl ?_;intro f h
     refine bz (bK.elF (hO.1.keep s.ext) (d9) 33 33 (by omega) (by decide) (C:=aD (L.getD d9 z3).1.me (L.getD d9 z3).1.pr (L.getD d9 z3).2.1 (L.getD d9 z3).2.2) (c6 L d9 hdl9) (D:=au (L.getD d9 z3).1.pr) (co _ _ _ _)) h aL rfl (ak _) rfl ?_;intro f h
     refine br 1 h s aL rfl rfl (ak _) rfl ?_;intro f h
     refine ap h (aw (.bool false) (dc (gM _ _) (by kernel_rfl) (by decide) (h.ev rfl) (h.ev rfl) (decide ((L.getD d9 z3).1.pr=(jz (aN L) (L.getD d9 z3).1.me))) (dE _ _)) (by rw [q0];rfl)) rfl ?_;intro f h
     refine ap h (ag (h.ev rfl)) rfl ?_;intro f h
     refine bi h rfl rfl rfl ?_
     refine ap h (ag (h.ev rfl)) rfl ?_;intro f h
     refine bi h rfl rfl rfl ?_
     refine ap h (bN (h.ev rfl)) rfl ?_;intro f h
     refine bi h rfl rfl rfl ?_
     refine ap h (ca bI (h.ev rfl) ((hO.1.keep s.ext).some (by omega))) rfl ?_;intro f h
     refine bi h rfl rfl rfl ?_
     refine bk (V:=(L.getD d9 z3).2.1) (fx (hO.1.keep s.ext) (d9*68+66) (qf L d9 hdl9)) h bH rfl rfl ?_;intro f h
     refine bi h rfl rfl rfl ?_
     refine ap h (ag (h.ev rfl)) rfl ?_;intro f h
     refine bi h rfl rfl rfl ?_
     refine cm h x4 (fun w9 hE9=>aO (.bool false) (ni (L.getD d9 z3).1.sc (ow (aN L) (L.getD d9 z3).1.me) (L.getD d9 z3).2.1 (fI (vl6 5)) w9 ((hO.2 _ (bh hdl9)).1.keep (s.ext.trans hE9)) ((bK.of_own (s.getSl 0 rfl)).keep hE9) (by omega) (by have:=xV (aN L) (L.getD d9 z3).1.me;omega)) (congrArg Value.bool q1)) rfl rfl ?_;intro f h
     refine bi h rfl rfl rfl ?_
     refine ap h (aw (.bool true) (bg (h.ev rfl)) rfl) rfl ?_;intro f h
     refine ap h (aE (h.ev rfl) (h.ev rfl)) rfl ?_;intro f h
     refine cn s fun w1 s=>?_
     refine ah ?_
     refine hK9 _ _ ?_
     refine wpIn_cond_true (h.ev rfl) ?_
     refine aj fun K11 hK11=>?_
     refine ae ?_
     refine bp 6 h s fa rfl rfl rfl (by simp) (rfl) ?_;intro w1 s
     refine ah ?_
     refine hK11 _ _ ?_
     refine wpIn_ret ?_
     refine bu ?_
     refine ⟨((xX q0).trans (by rw [q1];rfl)),_,rfl,s.pick _ ?_⟩
     exact List.Sublist.cons _ (List.Sublist.cons _ (List.Sublist.cons_cons _ (List.Sublist.refl _)))
    ·skip
     refine bJ 15 [[],[0],[0,1],[0,1,2],[],[0,1,2,3,4],[0,1,2,3,4,5],[0,1,2,3,4,5,6],[0,1,2,3,4,5,6,7],[0,1,2,3,4,5,6,7,8],[0,1,2,3,4,5,6,7,8,9],[0,1,2,3,4,5,6],[0,1,2,3,4,5,6,7,8,9,10,11],[0,1,2,3,4,5,6,7,8,9,10,11,12],[0,1,2,3,4,5,6,7,8,9,10,11,12,13]] h (by kernel_rfl) (by kernel_rfl) (by kernel_rfl) ?_
     have hx9:=hb.each _ (bh hdl9)
     refine ap h (ag (h.ev rfl)) rfl ?_;intro f h
     refine ap h (bN (h.ev rfl)) rfl ?_;intro f h
     refine ap h (ca cy (h.ev rfl) ((hO.1.keep s.ext).some (by omega))) rfl ?_;intro f h
     refine bz (bK.elF (hO.1.keep s.ext) (d9) 33 33 (by omega) (by decide) (C:=aD (L.getD d9 z3).1.me (L.getD d9 z3).1.pr (L.getD d9 z3).2.1 (L.getD d9 z3).2.2) (c6 L d9 hdl9) (D:=au (L.getD d9 z3).1.pr) (co _ _ _ _)) h aL rfl (ak _) rfl ?_;intro f h
     refine br 1 h s aL rfl rfl (ak _) rfl ?_;intro f h
     refine ap h (aw (.bool false) (dc (gM _ _) (by kernel_rfl) (by decide) (h.ev rfl) (h.ev rfl) (decide ((L.getD d9 z3).1.pr=(jz (aN L) (L.getD d9 z3).1.me))) (dE _ _)) (by rw [q0];rfl)) rfl ?_;intro f h
     refine ap h (ag (h.ev rfl)) rfl ?_;intro f h
     refine bi h rfl rfl rfl ?_
     refine ap h (ag (h.ev rfl)) rfl ?_;intro f h
     refine bi h rfl rfl rfl ?_
     refine ap h (bN (h.ev rfl)) rfl ?_;intro f h
     refine bi h rfl rfl rfl ?_
     refine ap h (ca bI (h.ev rfl) ((hO.1.keep s.ext).some (by omega))) rfl ?_;intro f h
     refine bi h rfl rfl rfl ?_
     refine bk (V:=(L.getD d9 z3).2.1) (fx (hO.1.keep s.ext) (d9*68+66) (qf L d9 hdl9)) h bH rfl rfl ?_;intro f h
     refine bi h rfl rfl rfl ?_
     refine ap h (ag (h.ev rfl)) rfl ?_;intro f h
     refine bi h rfl rfl rfl ?_
     refine cm h x4 (fun w9 hE9=>aO (.bool true) (ni (L.getD d9 z3).1.sc (ow (aN L) (L.getD d9 z3).1.me) (L.getD d9 z3).2.1 (fI (vl6 5)) w9 ((hO.2 _ (bh hdl9)).1.keep (s.ext.trans hE9)) ((bK.of_own (s.getSl 0 rfl)).keep hE9) (by omega) (by have:=xV (aN L) (L.getD d9 z3).1.me;omega)) (congrArg Value.bool q1)) rfl rfl ?_;intro f h
     refine bi h rfl rfl rfl ?_
     refine ap h (aw (.bool false) (bg (h.ev rfl)) rfl) rfl ?_;intro f h
     refine ap h (aE (h.ev rfl) (h.ev rfl)) rfl ?_;intro f h
     refine cn s fun w1 s=>?_
     refine ah ?_
     refine hK9 _ _ ?_
     refine wpIn_cond_false (h.ev rfl) ?_
     refine wpIn_skip ?_
     refine bF ?_
     refine ⟨((xX q0).trans (by rw [q1];rfl)),_,rfl,s.pick _ ?_⟩
     exact List.Sublist.cons _ (List.Sublist.cons _ (List.Sublist.cons_cons _ (List.Sublist.refl _)))
  ·intro D9 A9 w2 hJ9 hq9 s
   obtain rfl:=hJ9
   replace h:Sl _ {f with defers:={target:=.collected D9,args:=#[]}::f.defers} _ [{target:=.collected D9,args:=#[]}]:=⟨h.size,by rw [h.defers],h.holds⟩
   refine bF ?_
   refine hK6 _ _ ?_
   refine aj fun K12 hK12=>?_
   refine ae ?_
   refine bp 4 h s fa rfl rfl rfl (by simp) (rfl) ?_;intro w1 s
   refine ah ?_
   refine hK12 _ _ ?_
   refine wpIn_ret ?_
   exact eR 4 0 rfl h s fa rfl rfl rfl rfl rfl (fun w9=>(congrArg Value.bool (wI r0 hq9)).symm)
  ·intro D9 d9 A9 w2 hd9 hqd9 hq9 hJ9 s
   obtain rfl:=hJ9
   replace h:Sl _ {f with defers:={target:=.collected D9,args:=#[]}::f.defers} _ [{target:=.collected D9,args:=#[]}]:=⟨h.size,by rw [h.defers],h.holds⟩
   refine bu ?_
   refine aQ ?_
   exact eR 4 0 rfl h s fa rfl rfl rfl rfl rfl (fun w9=>(congrArg Value.bool (wC r0 hd9 hqd9)).symm)
end Go.Proofs.YthggibfkgofncaaGreat
