/- Which overlays are stable, by package chord, and who follows whom, by package ring. -/
import Derived.Test.YthggibfkgofncaaGreatWa
import Derived.Test.YthggibfkgofncaaGreatWz
import Derived.Test.YthggibfkgofncaaGreatSh
set_option linter.unusedVariables false
set_option linter.unusedSimpArgs false
set_option linter.unusedSectionVars false
namespace Go.Proofs.YthggibfkgofncaaGreat
open Go.RowKit
theorem ph (l:List Mb) (vh:Value) (no:Int) (w:World) (hR:bX w vh 33 l.length (ar l)) (hln:l.length≤1000):Calls Tryz.prog 115 [vh,.int .i64 no].toArray w (cU w (is (.tuple #[.agg (av (ek l no)),.int .i64 (fA l no)]))):=by
 refine bq Tryz.func115 rfl Tryz.ntmps115 rfl [(0,vh),(1,.int .i64 no)] (by simp) fun f h=>?_
 have s:=St.start w
 refine al fun K1 hK1=>?_
 refine ae ?_
 refine bf (av aZ) h s cB rfl rfl ?_;intro f w1 b4 h s
 refine ac h (ak (h.ev rfl)) rfl ?_;intro f h
 refine ah ?_
 refine hK1 _ _ ?_
 refine al fun K2 hK2=>?_
 refine al fun K3 hK3=>?_
 cases hr:(dd l:Bool)
 ·skip
  refine ae ?_
  refine ac h (ag (h.ev rfl)) rfl ?_;intro f h
  refine aI h s pA (aM (.bool false) (gf l vh _ (hR.keep s.ext) hln) (congrArg Value.bool hr)) rfl rfl ?_;intro f w1 v9 hT hE h s;obtain rfl:=hT
  refine ac h (aw (.bool true) (bB (h.ev rfl)) rfl) rfl ?_;intro f h
  refine ah ?_
  refine hK3 _ _ ?_
  refine wpIn_cond_true (h.ev rfl) ?_
  refine al fun K4 hK4=>?_
  refine ae ?_
  refine ac h (gF mM) rfl ?_;intro f h
  refine az 0 h s aC rfl rfl rfl (aj _) (aj _) (aS _) ?_;intro w1 s
  refine ac h (ak (h.ev rfl)) rfl ?_;intro f h
  refine ah ?_
  refine hK4 _ _ ?_
  refine wpIn_ret ?_
  refine aY ?_
  exact ci 0 rfl h s aC rfl rfl (aj _) rfl (by show _=_;rw [(nS no hr).1,(nS no hr).2]<;>rfl)
 ·skip
  refine ae ?_
  refine ac h (ag (h.ev rfl)) rfl ?_;intro f h
  refine aI h s pA (aM (.bool true) (gf l vh _ (hR.keep s.ext) hln) (congrArg Value.bool hr)) rfl rfl ?_;intro f w1 v9 hT hE h s;obtain rfl:=hT
  refine ac h (aw (.bool false) (bB (h.ev rfl)) rfl) rfl ?_;intro f h
  refine ah ?_
  refine hK3 _ _ ?_
  refine wpIn_cond_false (h.ev rfl) ?_
  refine wpIn_skip ?_
  refine hK2 _ _ ?_
  refine al fun K5 hK5=>?_
  refine al fun K6 hK6=>?_
  refine ae ?_
  refine ac h (ag (h.ev rfl)) rfl ?_;intro f h
  refine ac h (a8 (hR.keep s.ext) Tryz.underlying36 (h.ev rfl)) rfl ?_;intro f h
  refine ac h (ag (h.ev rfl)) rfl ?_;intro f h
  refine ah ?_
  refine hK6 _ _ ?_
  refine wpIn_block ?_
  refine wpIn_loop_ghost (fun nn aa ww=>∃ k:Nat,Sl 25 aa [(0,vh),(1,.int .i64 no),(4,.pointer (some ⟨b4,0,none⟩)),(12,vh),(13,.int .i64 (l.length:Int)),(14,.int .i64 (k:Int))]∧St w [.blk b4 (.cells (av aZ) 28)] ww∧nn=l.length - k∧k≤l.length∧∀ j,j<k→decide ((l.getD j aZ).1=no)=false) (l.length - (0)) ⟨0,h.only ⟨rfl,rfl,rfl,rfl,rfl,aO rfl (by omega),trivial⟩,s.as ⟨rfl,trivial⟩,rfl,Nat.zero_le _,fun j hj=>absurd hj (Nat.not_lt_zero _)⟩ ?_
  rintro _ f w1 ⟨k,h,s,hnn,hp0,hp1⟩
  refine al fun K7 hK7=>?_
  refine ae ?_
  refine ac h (bS (h.ev rfl) (h.ev rfl)) rfl ?_;intro f h
  refine ah ?_
  refine hK7 _ _ ?_
  refine al fun K8 hK8=>?_
  refine bK h rfl (fun hc=>?_) (fun hc=>?_)
  ·replace hc:=of_decide_eq_true hc
   refine wpIn_skip ?_
   refine hK8 _ _ ?_
   refine al fun K9 hK9=>?_
   refine wpIn_block ?_
   refine al fun K10 hK10=>?_
   refine ae ?_
   have hkl:k<l.length:=by omega
   refine ac h (cc (hR.keep s.ext) (k) Tryz.underlying36 cD (h.ev rfl) (h.ev rfl) (by omega) (by omega)) rfl ?_;intro f h
   refine ax ((hR.keep s.ext).el (k) (by omega) (by decide) (D:=av (l.getD k aZ)) (cI l k hkl)) h aC rfl (aj _) rfl ?_;intro f h
   refine bf (av aZ) h s cB rfl rfl ?_;intro f w1 b7 h s
   refine az 0 h s aC rfl rfl rfl (aj _) (aj _) (aS _) ?_;intro w1 s
   refine ah ?_
   refine hK10 _ _ ?_
   refine al fun K11 hK11=>?_
   refine ae ?_
   refine ac h (ai aH (h.ev rfl)) rfl ?_;intro f h
   refine aq (am (aL.of_own s 0 rfl) 0 (aP _)) h bw rfl rfl ?_;intro f h
   refine ac h (ag (h.ev rfl)) rfl ?_;intro f h
   refine ac h (bU (h.ev rfl) (h.ev rfl)) rfl ?_;intro f h
   refine ah ?_
   refine hK11 _ _ ?_
   refine bK h rfl (fun hc=>?_) (fun hc=>?_)
   ·refine al fun K12 hK12=>?_
    refine ae ?_
    refine au 0 h s aC rfl rfl (aj _) rfl ?_;intro f h
    refine az 1 h s aC rfl rfl rfl (aj _) (aj _) (aS _) ?_;intro w1 s
    refine ac h (ak (h.ev rfl)) rfl ?_;intro f h
    refine ah ?_
    refine hK12 _ _ ?_
    refine wpIn_ret ?_
    refine bQ ?_
    refine aY ?_
    refine aY ?_
    refine bQ ?_
    refine aY ?_
    exact ci 1 rfl h s aC rfl rfl (aj _) rfl (by show _=_;rw [(j5 hr (lw hkl hp1 hc)).1,(j5 hr (lw hkl hp1 hc)).2]<;>rfl)
   ·refine wpIn_skip ?_
    refine bF ?_
    refine hK9 _ _ ?_
    refine ae ?_
    refine ac h (ce (h.ev rfl) (h.ev rfl) (by omega)) rfl ?_;intro f h
    refine ac h (ag (h.ev rfl)) rfl ?_;intro f h
    refine ah ?_
    refine bT ?_
    exact ⟨_,by omega,⟨k+1,h.only ⟨rfl,rfl,rfl,rfl,rfl,aO rfl (by omega),trivial⟩,St.as (s.pick _ (List.sublist_append_right [_] _)) ⟨rfl,trivial⟩,rfl,by omega,de (q:=fun j=>decide ((l.getD j aZ).1=no)) hp1 hc⟩⟩
  ·replace hc:=of_decide_eq_false hc
   refine wpIn_exit ?_
   refine bJ ?_
   refine bJ ?_
   refine cC ?_
   refine hK5 _ _ ?_
   refine al fun K13 hK13=>?_
   refine ae ?_
   refine ac h (gF mM) rfl ?_;intro f h
   refine az 0 h s aC rfl rfl rfl (aj _) (aj _) (aS _) ?_;intro w1 s
   refine ac h (ak (h.ev rfl)) rfl ?_;intro f h
   refine ah ?_
   refine hK13 _ _ ?_
   refine wpIn_ret ?_
   exact ci 0 rfl h s aC rfl rfl (aj _) rfl (by show _=_;rw [(mt hr (lg (by omega) hp1)).1,(mt hr (lg (by omega) hp1)).2]<;>rfl)
theorem ng (x9:Id) (w:World):Calls Tryz.prog 117 [ia x9].toArray w (cU w (fun v w9=>∃ bx,v=.func (.func 137) #[] #[.pointer (some ⟨bx,0,none⟩)]∧gZ w9 bx (bO x9))):=by
 refine bq Tryz.func117 rfl Tryz.ntmps117 rfl [(0,ia x9)] (by simp) fun f h=>?_
 have s:=St.start w
 refine al fun K1 hK1=>?_
 refine ae ?_
 refine bV (bO x9) h s rfl rfl rfl ?_;intro f w1 b1 h s
 refine ac h (ak (h.ev rfl)) rfl ?_;intro f h
 refine ah ?_
 refine hK1 _ _ ?_
 refine al fun K2 hK2=>?_
 refine ae ?_
 refine ac h (dn [.pointer (some ⟨b1,0,none⟩)] (jE h rfl)) rfl ?_;intro f h
 refine ac h (ak (h.ev rfl)) rfl ?_;intro f h
 refine ah ?_
 refine hK2 _ _ ?_
 refine wpIn_ret ?_
 exact bo rfl h s rfl (⟨b1,rfl,gZ.of_own s 0 rfl⟩)
theorem lN (x y:Mb) (x9:Id) (bx:Nat) (w:World) (hb:gZ w bx (bO x9)):Calls Tryz.prog 137 [.agg (av x),.agg (av y),.pointer (some ⟨bx,0,none⟩)].toArray w (cU w (is (.int .i64 (gE (x.2 - x9) (y.2 - x9))))):=by
 refine bq Tryz.func137 rfl Tryz.ntmps137 rfl [(0,.agg (av x)),(1,.agg (av y)),(2,.pointer (some ⟨bx,0,none⟩))] (by simp) fun f h=>?_
 have s:=St.start w
 refine al fun K1 hK1=>?_
 refine ae ?_
 refine bV ((av x)) h s rfl rfl rfl ?_;intro f w1 b3 h s
 refine bV ((av y)) h s rfl rfl rfl ?_;intro f w1 b4 h s
 refine ac h (ak (h.ev rfl)) rfl ?_;intro f h
 refine ah ?_
 refine hK1 _ _ ?_
 refine al fun K2 hK2=>?_
 refine bH 10 [[],[],[1],[0,1,2],[],[],[5],[0,1,2,3,4,5,6],[0,1,2,3,4,5,6,7],[0,1,2,3,4,5,6,7,8]] h (by kernel_rfl) (by kernel_rfl) (by kernel_rfl) ?_
 refine bi (aL.subL (aL.of_tab (hb.keep s.ext)) 0 32 (D:=bO x9) (mX _)) h cA rfl (by first|exact ba _|exact a6 _ _) rfl ?_;intro f h
 refine ao h (ai cj (h.ev rfl)) rfl ?_;intro f h
 refine bi (aL.subL (aL.of_own s 1 rfl) 1 32 (D:=bO (_)) (cw _)) h cA rfl (by first|exact ba _|exact a6 _ _) rfl ?_;intro f h
 refine cn h n5 (fun w9 hE9=>lh _ _ w9) rfl rfl ?_;intro f h
 refine bi (aL.subL (aL.of_tab (hb.keep s.ext)) 0 32 (D:=bO x9) (mX _)) h cA rfl (by first|exact ba _|exact a6 _ _) rfl ?_;intro f h
 refine ao h (ai cj (h.ev rfl)) rfl ?_;intro f h
 refine bi (aL.subL (aL.of_own s 0 rfl) 1 32 (D:=bO (_)) (cw _)) h cA rfl (by first|exact ba _|exact a6 _ _) rfl ?_;intro f h
 refine cn h n5 (fun w9 hE9=>lh _ _ w9) rfl rfl ?_;intro f h
 refine cn h wK (fun w9 hE9=>kM _ _ w9) rfl rfl ?_;intro f h
 refine ao h (ak (h.ev rfl)) rfl ?_;intro f h
 refine ck s fun w1 s=>?_
 refine ah ?_
 refine hK2 _ _ ?_
 refine wpIn_ret ?_
 exact bo rfl h s rfl (rfl)
theorem vA (l:List Mb) (vh:Value) (x9:Id) (bx:Nat) (w:World) (hR:bX w vh 33 l.length (ar l)) (hln:l.length≤1000) (hb:gZ w bx (bO x9)) (h0:0<l.length):Calls Tryz.prog 116 [vh,.func (.func 137) #[] #[.pointer (some ⟨bx,0,none⟩)]].toArray w (cU w (is (.agg (av (k4 (nw x9) l (l.length - 1)))))):=by
 refine bq Tryz.func116 rfl Tryz.ntmps116 rfl [(0,vh),(1,.func (.func 137) #[] #[.pointer (some ⟨bx,0,none⟩)])] (by simp) fun f h=>?_
 have s:=St.start w
 refine al fun K1 hK1=>?_
 refine ae ?_
 refine bf (av aZ) h s cB rfl rfl ?_;intro f w1 b4 h s
 refine ah ?_
 refine hK1 _ _ ?_
 refine al fun K2 hK2=>?_
 refine al fun K3 hK3=>?_
 refine ae ?_
 refine ac h (ag (h.ev rfl)) rfl ?_;intro f h
 refine ac h (a8 (hR.keep s.ext) Tryz.underlying36 (h.ev rfl)) rfl ?_;intro f h
 refine ac h (bS (h.ev rfl) (h.ev rfl)) rfl ?_;intro f h
 refine ah ?_
 refine hK3 _ _ ?_
 refine bK h rfl (fun hc=>?_) (fun hc=>?_)
 ·replace hc:=of_decide_eq_true hc
  exfalso;omega
 ·refine wpIn_skip ?_
  refine hK2 _ _ ?_
  refine al fun K4 hK4=>?_
  refine ae ?_
  refine ac h (ag (h.ev rfl)) rfl ?_;intro f h
  refine ac h (cc (hR.keep s.ext) (0) Tryz.underlying36 cD (h.ev rfl) (h.ev rfl) (by omega) (by omega)) rfl ?_;intro f h
  refine ax ((hR.keep s.ext).el (0) (by omega) (by decide) (D:=av (l.getD 0 aZ)) (cI l 0 h0)) h aC rfl (aj _) rfl ?_;intro f h
  refine bf (av aZ) h s cB rfl rfl ?_;intro f w1 b5 h s
  refine az 0 h s aC rfl rfl rfl (aj _) (aj _) (aS _) ?_;intro w1 s
  refine ah ?_
  refine hK4 _ _ ?_
  refine al fun K5 hK5=>?_
  refine al fun K6 hK6=>?_
  refine ae ?_
  refine ac h (ak (h.ev rfl)) rfl ?_;intro f h
  refine ah ?_
  refine hK6 _ _ ?_
  refine wpIn_block ?_
  refine wpIn_loop_ghost (fun nn aa ww=>∃ k:Nat,Sl 33 aa [(0,vh),(4,.pointer (some ⟨b4,0,none⟩)),(5,.pointer (some ⟨b5,0,none⟩)),(1,.func (.func 137) #[] #[.pointer (some ⟨bx,0,none⟩)]),(6,.int .i64 ((k:Int)+1))]∧St w [.blk b5 (.cells (av (k4 (nw x9) l k)) 28),.blk b4 (.cells (av aZ) 28)] ww∧nn=l.length - k∧k+1≤l.length) (l.length - (0)) ⟨0,h.only ⟨rfl,rfl,rfl,rfl,rfl,trivial⟩,s.as ⟨rfl,rfl,trivial⟩,rfl,by omega⟩ ?_
  rintro _ f w1 ⟨k,h,s,hnn,hp0⟩
  refine al fun K7 hK7=>?_
  refine al fun K8 hK8=>?_
  refine ae ?_
  refine ac h (ag (h.ev rfl)) rfl ?_;intro f h
  refine ac h (ag (h.ev rfl)) rfl ?_;intro f h
  refine ac h (a8 (hR.keep s.ext) Tryz.underlying36 (h.ev rfl)) rfl ?_;intro f h
  refine ac h (bS (h.ev rfl) (h.ev rfl)) rfl ?_;intro f h
  refine ah ?_
  refine hK8 _ _ ?_
  refine bK h rfl (fun hc=>?_) (fun hc=>?_)
  ·replace hc:=of_decide_eq_true hc
   refine wpIn_skip ?_
   refine hK7 _ _ ?_
   refine al fun K9 hK9=>?_
   refine wpIn_block ?_
   refine al fun K10 hK10=>?_
   refine bH 8 [[],[],[],[1,2],[1,2,3],[],[0,1,2,3,4,5],[0,1,2,3,4,5,6]] h (by kernel_rfl) (by kernel_rfl) (by kernel_rfl) ?_
   refine ao h (ag (h.ev rfl)) rfl ?_;intro f h
   refine ao h (ag (h.ev rfl)) rfl ?_;intro f h
   have hkl:k+1<l.length:=by omega
   refine ao h (ag (h.ev rfl)) rfl ?_;intro f h
   refine ao h (cc (hR.keep s.ext) (k+1) Tryz.underlying36 cD (h.ev rfl) (h.ev rfl) (by omega) (by omega)) rfl ?_;intro f h
   refine bi ((hR.keep s.ext).el (k+1) (by omega) (by decide) (D:=av (l.getD (k+1) aZ)) (cI l (k+1) hkl)) h aC rfl (aj _) rfl ?_;intro f h
   refine bM 0 h s aC rfl rfl (aj _) rfl ?_;intro f h
   refine nv [.agg (av (l.getD (k+1) aZ)),.agg (av (k4 (nw x9) l k))] (caps:=[.pointer (some ⟨bx,0,none⟩)]) h AB rfl (fun w9 h9=>lN _ _ x9 bx w9 (hb.keep (s.ext.trans h9))) rfl rfl ?_;intro f h
   refine ao h (aw (.bool (decide (fd x9 (k4 (nw x9) l k).2<fd x9 (l.getD (k+1) aZ).2))) (cY (h.ev rfl) (h.ev rfl)) (congrArg Value.bool (xO _ _ _))) rfl ?_;intro f h
   refine ck s fun w1 s=>?_
   refine ah ?_
   refine hK10 _ _ ?_
   refine bK h rfl (fun hc=>?_) (fun hc=>?_)
   ·replace hc:=of_decide_eq_true hc
    refine ae ?_
    refine ac h (ag (h.ev rfl)) rfl ?_;intro f h
    refine ac h (ag (h.ev rfl)) rfl ?_;intro f h
    refine ac h (cc (hR.keep s.ext) (k+1) Tryz.underlying36 cD (h.ev rfl) (h.ev rfl) (by omega) (by omega)) rfl ?_;intro f h
    refine ax ((hR.keep s.ext).el (k+1) (by omega) (by decide) (D:=av (l.getD (k+1) aZ)) (cI l (k+1) hkl)) h aC rfl (aj _) rfl ?_;intro f h
    refine az 0 h s aC rfl rfl rfl (aj _) (aj _) (aS _) ?_;intro w1 s
    refine ah ?_
    refine bF ?_
    refine hK9 _ _ ?_
    refine ae ?_
    refine ac h (ag (h.ev rfl)) rfl ?_;intro f h
    refine ac h (ce (h.ev rfl) (h.ev rfl) (by omega)) rfl ?_;intro f h
    refine ac h (ak (h.ev rfl)) rfl ?_;intro f h
    refine ah ?_
    refine bT ?_
    exact ⟨_,by omega,⟨k+1,h.only ⟨rfl,rfl,rfl,rfl,aO rfl (by omega),trivial⟩,St.as s ⟨ii (congrArg av (yK (f:=nw x9) hc).symm),rfl,trivial⟩,rfl,by omega⟩⟩
   ·replace hc:=of_decide_eq_false hc
    refine wpIn_skip ?_
    refine bF ?_
    refine hK9 _ _ ?_
    refine ae ?_
    refine ac h (ag (h.ev rfl)) rfl ?_;intro f h
    refine ac h (ce (h.ev rfl) (h.ev rfl) (by omega)) rfl ?_;intro f h
    refine ac h (ak (h.ev rfl)) rfl ?_;intro f h
    refine ah ?_
    refine bT ?_
    exact ⟨_,by omega,⟨k+1,h.only ⟨rfl,rfl,rfl,rfl,aO rfl (by omega),trivial⟩,St.as s ⟨ii (congrArg av (Bf (f:=nw x9) hc).symm),rfl,trivial⟩,rfl,by omega⟩⟩
  ·replace hc:=of_decide_eq_false hc
   refine wpIn_exit ?_
   refine bJ ?_
   refine bJ ?_
   refine cC ?_
   refine hK5 _ _ ?_
   refine al fun K11 hK11=>?_
   refine ae ?_
   refine au 0 h s aC rfl rfl (aj _) rfl ?_;intro f h
   refine az 1 h s aC rfl rfl rfl (aj _) (aj _) (aS _) ?_;intro w1 s
   refine ah ?_
   refine hK11 _ _ ?_
   refine wpIn_ret ?_
   exact c5 1 rfl h s aC rfl rfl (aj _) ((by obtain rfl:k=l.length - 1:=(by omega);exact rfl))
theorem qQ (l:List Mb) (vh:Value) (no:Int) (w:World) (hR:bX w vh 33 l.length (ar l)) (hln:l.length≤1000):Calls Tryz.prog 84 [vh,.int .i64 no].toArray w (cU w (is (.tuple #[.agg (av (sY l no)),.int .i64 (fA l no)]))):=by
 refine bq Tryz.func84 rfl Tryz.ntmps84 rfl [(0,vh),(1,.int .i64 no)] (by simp) fun f h=>?_
 have s:=St.start w
 refine al fun K1 hK1=>?_
 refine ae ?_
 refine bf (av aZ) h s cB rfl rfl ?_;intro f w1 b4 h s
 refine ac h (ak (h.ev rfl)) rfl ?_;intro f h
 refine ah ?_
 refine hK1 _ _ ?_
 refine al fun K2 hK2=>?_
 refine ae ?_
 refine ac h (ag (h.ev rfl)) rfl ?_;intro f h
 refine ac h (ag (h.ev rfl)) rfl ?_;intro f h
 refine aI h s xg (ph l vh no _ (hR.keep s.ext) hln) rfl rfl ?_;intro f w1 v9 hT hE h s;obtain rfl:=hT
 refine ac h (ag (h.ev rfl)) rfl ?_;intro f h
 refine ac h (bG (h.ev rfl) rfl) rfl ?_;intro f h
 refine ac h (bG (h.ev rfl) rfl) rfl ?_;intro f h
 refine bf (av aZ) h s cB rfl rfl ?_;intro f w1 b6 h s
 refine az 0 h s aC rfl rfl rfl (aj _) (aj _) (aS _) ?_;intro w1 s
 refine ac h (ak (h.ev rfl)) rfl ?_;intro f h
 refine ah ?_
 refine hK2 _ _ ?_
 refine al fun K3 hK3=>?_
 refine al fun K4 hK4=>?_
 refine ae ?_
 refine ac h (ag (h.ev rfl)) rfl ?_;intro f h
 refine ac h (cy (h.ev rfl) (h.ev rfl)) rfl ?_;intro f h
 refine ah ?_
 refine hK4 _ _ ?_
 refine bK h rfl (fun hc=>?_) (fun hc=>?_)
 ·have h0:¬ fA l no=0:=by simpa using hc
  refine al fun K5 hK5=>?_
  refine ae ?_
  refine ac h (gF mM) rfl ?_;intro f h
  refine ac h (ag (h.ev rfl)) rfl ?_;intro f h
  refine az 1 h s aC rfl rfl rfl (aj _) (aj _) (aS _) ?_;intro w1 s
  refine ac h (ak (h.ev rfl)) rfl ?_;intro f h
  refine ah ?_
  refine hK5 _ _ ?_
  refine wpIn_ret ?_
  refine aY ?_
  exact ci 1 rfl h s aC rfl rfl (aj _) rfl (by show _=_;rw [Bj h0]<;>rfl)
 ·have h0:fA l no=0:=by simpa using hc
  obtain ⟨hr,hg,hf,hm,hno⟩:=wh h0
  refine wpIn_skip ?_
  refine hK3 _ _ ?_
  refine al fun K6 hK6=>?_
  refine ae ?_
  refine ac h (ag (h.ev rfl)) rfl ?_;intro f h
  refine ac h (ai cj (h.ev rfl)) rfl ?_;intro f h
  refine ax (aL.subL (aL.of_own s 0 rfl) 1 32 (D:=bO (_)) (cw _)) h cA rfl (by first|exact ba _|exact a6 _ _) rfl ?_;intro f h
  refine aI h s ux (ng (ek l no).2 _) rfl rfl ?_;rintro f w1 v21 ⟨bx,rfl,hbx⟩ hE h s
  refine aI h s AL (vA l vh (ek l no).2 bx _ (hR.keep s.ext) hln hbx (jZ hm)) rfl rfl ?_;intro f w1 v9 hT hE h s;obtain rfl:=hT
  refine az 1 h s aC rfl rfl rfl (aj _) (aj _) (aS _) ?_;intro w1 s
  refine ac h (ak (h.ev rfl)) rfl ?_;intro f h
  refine ah ?_
  refine hK6 _ _ ?_
  refine wpIn_ret ?_
  exact ci 1 rfl h s aC rfl rfl (aj _) rfl (by show _=_;rw [uT h0,h0]<;>rfl)
theorem tc (a9:Option Addr) (n9 c9:Nat) (w:World):Calls Tryz.prog 99 [.slice a9 n9 c9].toArray w (cU w (fun v w9=>∃ bx,v=.func (.func 130) #[] #[.pointer (some ⟨bx,0,none⟩)]∧gZ w9 bx #[.slice a9 n9 c9])):=by
 refine bq Tryz.func99 rfl Tryz.ntmps99 rfl [(0,.slice a9 n9 c9)] (by simp) fun f h=>?_
 have s:=St.start w
 refine al fun K1 hK1=>?_
 refine ae ?_
 refine bV (#[.slice a9 n9 c9]) h s rfl rfl rfl ?_;intro f w1 b1 h s
 refine ac h (ak (h.ev rfl)) rfl ?_;intro f h
 refine ah ?_
 refine hK1 _ _ ?_
 refine al fun K2 hK2=>?_
 refine ae ?_
 refine ac h (dn [.pointer (some ⟨b1,0,none⟩)] (jE h rfl)) rfl ?_;intro f h
 refine ac h (ak (h.ev rfl)) rfl ?_;intro f h
 refine ah ?_
 refine hK2 _ _ ?_
 refine wpIn_ret ?_
 exact bo rfl h s rfl (⟨b1,rfl,gZ.of_own s 0 rfl⟩)
theorem qO (l:List Mb) (vh:Value) (w:World) (hR:bX w vh 33 l.length (ar l)):Calls Tryz.prog 99 [vh].toArray w (cU w (fun v w9=>∃ bx,v=.func (.func 130) #[] #[.pointer (some ⟨bx,0,none⟩)]∧gZ w9 bx #[vh])):=by
 obtain ⟨a,c,rfl⟩:=hR.len
 exact tc a _ c w
theorem tq (l:List Mb) (hln:l.length≤1000) (vh:Value) (lp bx:Nat) (q:Nat→Bool) (GG:Nat→Own→Prop) (g0:Own) (w0 w:World) (s:St w0 [g0] w) (hb:gZ w0 bx #[vh]) (hg0:GG 0 g0) (hR:bX w0 vh 33 l.length (ar l)) (hY:∀ (d:Nat) (B9:List Own) (w9:World) (i:Nat) (g:Own),d<l.length→(∀ j,j<d→q j=false)→GG d g→St w0 B9 w9→B9[i]? = some g→iu Tryz.prog lp [Value.agg (av (l.getD d aZ))].toArray w9 (fun v w2=>v=.bool (!q d)∧∃ g',GG (d+1) g'∧St w0 (B9.set i g') w2)):Calls Tryz.prog 130 [.func (.yield lp) #[] #[],.pointer (some ⟨bx,0,none⟩)].toArray w (fun e w9=>(∃ v,e=.returned v)∧∃ d g,GG d g∧St w0 ([]++[g]) w9∧d≤l.length∧(∀ j,j+1<d→q j=false)∧(lq q d=false→d=l.length)):=by
 refine eb Tryz.func130 rfl Tryz.ntmps130 rfl [(0,.func (.yield lp) #[] #[]),(1,.pointer (some ⟨bx,0,none⟩))] (by simp) fun f h=>?_
 refine al fun K1 hK1=>?_
 refine ae ?_
 refine aq (V:=vh) (am (aL.of_tab (hb.keep s.ext)) 0 (rfl)) h bE rfl rfl ?_;intro f h
 refine ac h (a8 (hR.keep s.ext) Tryz.underlying36 (h.ev rfl)) rfl ?_;intro f h
 refine ac h (ag (h.ev rfl)) rfl ?_;intro f h
 refine ah ?_
 refine hK1 _ _ ?_
 refine wpIn_block ?_
 refine wpIn_loop_ghost (fun nn aa ww=>∃ d:Nat,∃ gg:Own,Sl 16 aa [(0,.func (.yield lp) #[] #[]),(5,vh),(6,.int .i64 (l.length:Int)),(7,.int .i64 (d:Int))]∧St w0 [(gg)] ww∧nn=l.length - d∧d≤l.length∧GG d gg∧∀ j,j<d→q j=false) (l.length - (0)) ⟨0,g0,h.only ⟨rfl,rfl,rfl,aO rfl (by omega),trivial⟩,s.as ⟨rfl,trivial⟩,rfl,Nat.zero_le _,hg0,fun j hj=>absurd hj (Nat.not_lt_zero _)⟩ ?_
 rintro _ f w1 ⟨d,gg,h,s,hnn,hp0,hp1,hp2⟩
 refine al fun K2 hK2=>?_
 refine ae ?_
 refine ac h (bS (h.ev rfl) (h.ev rfl)) rfl ?_;intro f h
 refine ah ?_
 refine hK2 _ _ ?_
 refine al fun K3 hK3=>?_
 refine bK h rfl (fun hc=>?_) (fun hc=>?_)
 ·replace hc:=of_decide_eq_true hc
  refine wpIn_skip ?_
  refine hK3 _ _ ?_
  refine al fun K4 hK4=>?_
  refine wpIn_block ?_
  refine al fun K5 hK5=>?_
  refine ae ?_
  have hdl:d<l.length:=by omega
  refine ac h (cc (hR.keep s.ext) (d) Tryz.underlying36 cD (h.ev rfl) (h.ev rfl) (by omega) (by omega)) rfl ?_;intro f h
  refine ax ((hR.keep s.ext).el (d) (by omega) (by decide) (D:=av (l.getD d aZ)) (cI l d hdl)) h aC rfl (aj _) rfl ?_;intro f h
  refine bf (av aZ) h s cB rfl rfl ?_;intro f w1 b4 h s
  refine az 0 h s aC rfl rfl rfl (aj _) (aj _) (aS _) ?_;intro w1 s
  refine ah ?_
  refine hK5 _ _ ?_
  refine al fun K6 hK6=>?_
  cases hq:(q d:Bool)
  ·skip
   refine ae ?_
   refine ac h (ag (h.ev rfl)) rfl ?_;intro f h
   refine au 0 h s aC rfl rfl (aj _) rfl ?_;intro f h
   refine fh (V:=.bool true) (G:=GG (d+1)) [.agg (av (l.getD d aZ))] 1 h rfl rfl (by have h9:=hY d _ _ 1 gg hdl hp2 hp1 s rfl;rw [hq] at h9;exact h9) rfl ?_;intro f w1 g1 hg1 h s
   refine ac h (aw (.bool false) (bB (h.ev rfl)) rfl) rfl ?_;intro f h
   refine ah ?_
   refine hK6 _ _ ?_
   refine wpIn_cond_false (h.ev rfl) ?_
   refine wpIn_skip ?_
   refine bF ?_
   refine hK4 _ _ ?_
   refine ae ?_
   refine ac h (ce (h.ev rfl) (h.ev rfl) (by omega)) rfl ?_;intro f h
   refine ac h (ag (h.ev rfl)) rfl ?_;intro f h
   refine ah ?_
   refine bT ?_
   exact ⟨_,by omega,⟨d+1,g1,h.only ⟨rfl,rfl,rfl,aO rfl (by omega),trivial⟩,St.as (s.pick _ (List.sublist_append_right [_] _)) ⟨rfl,trivial⟩,rfl,by omega,hg1,de hp2 hq⟩⟩
  ·skip
   refine ae ?_
   refine ac h (ag (h.ev rfl)) rfl ?_;intro f h
   refine au 0 h s aC rfl rfl (aj _) rfl ?_;intro f h
   refine fh (V:=.bool false) (G:=GG (d+1)) [.agg (av (l.getD d aZ))] 1 h rfl rfl (by have h9:=hY d _ _ 1 gg hdl hp2 hp1 s rfl;rw [hq] at h9;exact h9) rfl ?_;intro f w1 g1 hg1 h s
   refine ac h (aw (.bool true) (bB (h.ev rfl)) rfl) rfl ?_;intro f h
   refine ah ?_
   refine hK6 _ _ ?_
   refine wpIn_cond_true (h.ev rfl) ?_
   refine wpIn_ret ?_
   refine bQ ?_
   refine aY ?_
   refine aY ?_
   refine bQ ?_
   exact jQ rfl h (⟨⟨_,rfl⟩,d+1,g1,hg1,s.pick _ (List.sublist_cons_self _ _),by omega,fun j hj=>hp2 j (by omega),fun h9=>absurd (hq.symm.trans h9) (by decide)⟩)
 ·replace hc:=of_decide_eq_false hc
  refine wpIn_exit ?_
  refine bJ ?_
  refine bJ ?_
  refine cC ?_
  exact c4 rfl h (⟨⟨_,rfl⟩,d,gg,hp1,s,hp0,fun j hj=>hp2 j (by omega),fun _=>by omega⟩)
theorem qJ (l:List Mb) (vh:Value) (bx:Nat) (w:World) (hR:bX w vh 33 l.length (ar l)) (hln:l.length≤1000) (hb:gZ w bx #[vh]):Calls Tryz.prog 151 [(.slice none 0 0),.func (.func 130) #[] #[.pointer (some ⟨bx,0,none⟩)]].toArray w (cU w (fun v w'=>cS w' w.heap.size 28 33 v l.length (ar l))):=by
 refine d7 Tryz.func151 rfl Tryz.ntmps151 rfl [(0,(.slice none 0 0)),(1,.func (.func 130) #[] #[.pointer (some ⟨bx,0,none⟩)])] (by simp) fun f h=>?_
 have s:=St.start w
 refine al fun K1 hK1=>?_
 refine ae ?_
 refine bV (#[(.slice none 0 0)]) h s rfl rfl rfl ?_;intro f w1 b2 h s
 replace s:=s.nilSl 28 33
 refine ac h (ak (h.ev rfl)) rfl ?_;intro f h
 refine ah ?_
 refine hK1 _ _ ?_
 refine al fun K2 hK2=>?_
 refine al fun K3 hK3=>?_
 refine ae ?_
 refine ac h (ag (h.ev rfl)) rfl ?_;intro f h
 refine ah ?_
 refine hK3 _ _ ?_
 refine wpIn_block ?_
 refine dW (fun d A9=>∃ v8:Value,A9=[.sl v8 28 33 (l.take d).length (ar (l.take d)),.blk b2 (.cells #[v8] 36)]) [.sl (.slice none 0 0) 28 33 0 [],.blk b2 (.cells #[(.slice none 0 0)] 36)] [] (l.length) (fun _=>false) (fun d=>[Value.agg (av (l.getD d aZ))]) h s rfl nK (List.Perm.refl _) (⟨_,rfl⟩) (fun _=>rfl) ?_ ?_ ?_ ?_
 ·intro lp w2 GG g0 hg0 s2 hY;exact tq l hln vh lp bx (fun _=>false) GG g0 w w2 s2 hb hg0 hR hY
 ·intro lp D9 d9 rc R9 A9 w2 hd9 hq9 hJ9 s
  obtain ⟨v8,rfl⟩:=hJ9
  have h:=Sl.round1 (p:=7) (V:=.agg (av (l.getD d9 aZ))) h rfl
  refine ae ?_
  refine bf (av aZ) h s cB rfl rfl ?_;intro f w1 b5 h s
  refine az 0 h s aC rfl rfl rfl (aj _) (aj _) (aS _) ?_;intro w1 s
  refine ah ?_
  refine bT ?_
  refine ⟨_,s.perm (List.perm_middle (l₁:=[_])),fun w3 s=>?_⟩
  refine wpIn_block ?_
  refine ae ?_
  refine bR 4 h s bE rfl rfl (rfl) rfl ?_;intro f h
  refine au 1 h s aC rfl rfl (aj _) rfl ?_;intro f h
  refine cm (vs:=[.agg (av (l.getD d9 aZ))]) [.tmp 9] h s Tryz.underlying36 c8 rfl rfl (eI _) rfl rfl rfl ?_;intro f w1 v10 h s
  refine dP 4 0 h s Tryz.underlying36 c8 rfl rfl rfl rfl (by decide) (by rw [dh];exact aS _) (by rw [List.length_take];unfold maxLen;omega) (by rw [List.length_take];omega) rfl ?_;intro f w1 v11 h s
  replace s:=s.pick _ (List.sublist_cons_self _ _)
  refine br 4 h s bE rfl rfl rfl (by simp) (aQ (s.getSl 3 rfl)) ?_;intro w1 s
  refine ah ?_
  refine bF ?_
  replace s:=s.resl (m:=(l.take (d9+1)).length) (ys:=ar (l.take (d9+1))) 3 rfl (by rw [gP hd9,List.length_append];rfl) (by rw [gP hd9,dh,gA])
  refine ⟨rfl,_,⟨v11,rfl⟩,s.pick _ ?_⟩
  exact List.Sublist.cons_cons _ (List.Sublist.cons _ (List.Sublist.refl _))
 ·intro D9 A9 w2 hJ9 hq9 s
  obtain ⟨v8,rfl⟩:=hJ9
  replace h:Sl _ {f with defers:={target:=.collected D9,args:=#[]}::f.defers} _ [{target:=.collected D9,args:=#[]}]:=⟨h.size,by rw [h.defers],h.holds⟩
  rw [List.take_length] at s
  refine bF ?_
  refine hK2 _ _ ?_
  refine al fun K4 hK4=>?_
  refine ae ?_
  refine bR 2 h s bE rfl rfl (rfl) rfl ?_;intro f h
  replace s:=s.nilSl 28 33
  refine ac h (ak (h.ev rfl)) rfl ?_;intro f h
  refine ah ?_
  refine hK4 _ _ ?_
  refine wpIn_ret ?_
  exact mm 1 rfl h s rfl rfl (fun w9 s9=>s9.getSl 2 rfl)
 ·intro D9 d9 A9 w2 hd9 hqd9 hq9 hJ9 s
  cases hqd9
theorem oT (l:List Mb) (vh:Value) (bx:Nat) (w:World) (hR:bX w vh 33 l.length (ar l)) (hln:l.length≤1000) (hb:gZ w bx #[vh]):Calls Tryz.prog 147 [.func (.func 130) #[] #[.pointer (some ⟨bx,0,none⟩)]].toArray w (cU w (fun v w'=>cS w' w.heap.size 28 33 v l.length (ar l))):=by
 refine bq Tryz.func147 rfl Tryz.ntmps147 rfl [(0,.func (.func 130) #[] #[.pointer (some ⟨bx,0,none⟩)])] (by simp) fun f h=>?_
 have s:=St.start w
 refine al fun K1 hK1=>?_
 refine ae ?_
 refine ac h (ak (h.ev rfl)) rfl ?_;intro f h
 refine ah ?_
 refine hK1 _ _ ?_
 refine al fun K2 hK2=>?_
 refine ae ?_
 refine ac h (ag (h.ev rfl)) rfl ?_;intro f h
 refine aI h s An (qJ l vh bx _ (hR.keep s.ext) hln (hb.keep s.ext)) rfl rfl ?_;intro f w1 v4 hT hE h sq;replace s:=s.sl_new hE hT
 refine ac h (ak (h.ev rfl)) rfl ?_;intro f h
 refine ah ?_
 refine hK2 _ _ ?_
 refine wpIn_ret ?_
 exact bo rfl h s rfl ((s.getSl 0 rfl))
theorem vW (l:List Mb) (hg:Rg l) (x9:Id) (v:Value) (bx:Nat) (B9:List Own) (w0 w:World) (s:St w0 (.sl v 28 33 l.length (ar l)::B9) w) (hb:gZ w0 bx (bO x9)):
 Calls Tryz.prog 148 [v,.func (.func 137) #[] #[.pointer (some ⟨bx,0,none⟩)]].toArray w (fun e w'=>∃ r,e=.returned r∧St w0 (.sl v 28 33 l.length (ar (ey x9 l))::B9) w'):=by
 by_cases h0:l.length=0
 ·have hl:l=[]:=List.eq_nil_of_length_eq_zero h0
  subst hl
  obtain ⟨a,c,rfl⟩:=dX (s.getSl 0 rfl)
  refine(Go.Proofs.AnyF.slices_SortFunc_none (P:=Tryz.prog) (ρ:=Tryz.layG_ren) Tryz.layG a c (.func (.func 137) #[] #[.pointer (some ⟨bx,0,none⟩)]) w).mono ?_
  rintro e w' ⟨rfl,rfl⟩
  refine ⟨_,rfl,?_⟩
  rw [xD]
  exact s
 ·obtain ⟨g,cap,rfl,hlt,hgo,hH,hst⟩:=yO s rfl (by omega)
  have hT:∀ m os d,gZ (Go.Proofs.sortWorldK iP 33 w g 0 m d os) bx (bO x9):=fun m os d=>by
   obtain ⟨t,fr,h1⟩:=hb
   have h2:=(Array.getElem?_eq_some_iff.1 h1).1
   have h3:=s.ext.le
   refine ⟨t,fr,?_⟩
   rw [kO w g m d os (by omega) (by omega),s.ext.block bx h2]
   exact h1
  have hcon:=Go.Proofs.AnyQ.slices_SortFunc (P:=Tryz.prog) (ρ:=Tryz.layG_ren) Tryz.layG 33 Tryz.isAgg28 Tryz.sizeOf28 iP cz iD (fun x y:Mb=>gE (x.2 - x9) (y.2 - x9)) (yu x9) 137 #[.pointer (some ⟨bx,0,none⟩)] g 0 cap l.toArray w (enters_of Tryz.func137 (by kernel_rfl) rfl) (fun m os dk _ x y=>by
   have h9:=lN x y x9 bx _ (hT m os dk)
   refine h9.mono ?_
   rintro e w' ⟨v,rfl,hv,hE⟩
   obtain rfl:=hv
   exact ⟨rfl,sn hE⟩) hH hlt (by have:=hg.len;rw [List.size_toArray];omega)
  refine hcon.mono ?_
  rintro e w' ⟨rfl,d',n,os,hp,hs,rfl⟩
  have s2:=hst n os d' hp.1
  rw [qu hg x9 hp hs] at s2
  exact ⟨_,rfl,s2⟩
theorem oU (l:List Mb) (vh:Value) (bv bx:Nat) (x9:Id) (w:World) (hR:bX w vh 33 l.length (ar l)) (hln:l.length≤1000) (hg:Rg l) (hv:gZ w bv #[vh]) (hb:gZ w bx (bO x9)):Calls Tryz.prog 140 [.func (.func 130) #[] #[.pointer (some ⟨bv,0,none⟩)],.func (.func 137) #[] #[.pointer (some ⟨bx,0,none⟩)]].toArray w (cU w (fun v w'=>cS w' w.heap.size 28 33 v l.length (ar (ey x9 l)))):=by
 refine bq Tryz.func140 rfl Tryz.ntmps140 rfl [(0,.func (.func 130) #[] #[.pointer (some ⟨bv,0,none⟩)]),(1,.func (.func 137) #[] #[.pointer (some ⟨bx,0,none⟩)])] (by simp) fun f h=>?_
 have s:=St.start w
 refine al fun K1 hK1=>?_
 refine ae ?_
 refine ac h (ak (h.ev rfl)) rfl ?_;intro f h
 refine ah ?_
 refine hK1 _ _ ?_
 refine al fun K2 hK2=>?_
 refine ae ?_
 refine ac h (ag (h.ev rfl)) rfl ?_;intro f h
 refine aI h s AE (oT l vh bv _ (hR.keep s.ext) hln (hv.keep s.ext)) rfl rfl ?_;intro f w1 v7 hT hE h sq;replace s:=s.sl_new hE hT
 refine ac h (ak (h.ev rfl)) rfl ?_;intro f h
 refine ah ?_
 refine hK2 _ _ ?_
 refine al fun K3 hK3=>?_
 refine ae ?_
 refine ac h (ag (h.ev rfl)) rfl ?_;intro f h
 refine ac h (ag (h.ev rfl)) rfl ?_;intro f h
 refine dl [v7,.func (.func 137) #[] #[.pointer (some ⟨bx,0,none⟩)]] h AS (vW l hg x9 v7 bx [] _ _ s hb) rfl rfl ?_;rintro f w1 v10 s h
 refine ah ?_
 refine hK3 _ _ ?_
 refine al fun K4 hK4=>?_
 refine ae ?_
 refine ac h (ag (h.ev rfl)) rfl ?_;intro f h
 refine ac h (ak (h.ev rfl)) rfl ?_;intro f h
 refine ah ?_
 refine hK4 _ _ ?_
 refine wpIn_ret ?_
 exact bo rfl h s rfl ((s.getSl 0 rfl))
theorem tu (x9:Id) (l:List Mb) (vh:Value) (w:World) (hR:bX w vh 33 l.length (ar l)) (hln:l.length≤1000) (hg:Rg l):Calls Tryz.prog 118 [ia x9,vh].toArray w (cU w (fun v w'=>cS w' w.heap.size 28 33 v l.length (ar (ey x9 l)))):=by
 refine bq Tryz.func118 rfl Tryz.ntmps118 rfl [(0,ia x9),(1,vh)] (by simp) fun f h=>?_
 have s:=St.start w
 refine al fun K1 hK1=>?_
 refine ae ?_
 refine bV (bO x9) h s rfl rfl rfl ?_;intro f w1 b2 h s
 refine ac h (ak (h.ev rfl)) rfl ?_;intro f h
 refine ah ?_
 refine hK1 _ _ ?_
 refine al fun K2 hK2=>?_
 have hbs:=s.ext.le
 refine' im 4 [0] [] [[],[0],[],[0,1,2],[0,1,2,3],[0,1,2,3,4]] (is _::(fun v w9=>∃ bx,v=.func (.func 130) #[] #[.pointer (some ⟨bx,0,none⟩)]∧gZ w9 bx #[vh])::is _::(fun v w9=>∃ bx,v=.func (.func 137) #[] #[.pointer (some ⟨bx,0,none⟩)]∧gZ w9 bx (bO x9))::is undef::is undef::[]) (fun _=>True) h s (by kernel_rfl) (by kernel_rfl) (by kernel_rfl) (by kernel_rfl) rfl (fun _ _ h _=>h) (trivial) ⟨⟨_,rfl⟩,trivial⟩ ⟨aN _,fun _ _ _ h9 hE=>by obtain ⟨b9,h1,h2⟩:=h9;exact ⟨b9,h1,h2.keep hE⟩,aN _,fun _ _ _ h9 hE=>by obtain ⟨b9,h1,h2⟩:=h9;exact ⟨b9,h1,h2.keep hE⟩,aN _,aN _,trivial⟩ (And.intro ?_ (And.intro ?_ (And.intro ?_ (And.intro ?_ (And.intro ?_ (And.intro ?_ (trivial))))))) ?_
 rotate_left 2
 ·refine dQ 5 rfl (by decide) ?_
  intro f9 w2 hE hs hl
  have e1:f9.tmps.getD 1 undef=_:=cL hl 1 (by kernel_rfl) (by kernel_rfl) (h.holds 1 _ rfl)
  have h:=aE [(1,_)] hs rfl (holds_lk ⟨e1,trivial⟩)
  refine ac h (ag (h.ev rfl)) rfl ?_;intro f h
  refine ah ?_
  have e9:=h.holds 5 _ rfl
  refine ⟨?_,rfl⟩
  refine e9.trans ?_
  exact rfl
 ·refine bN 6 rfl (by decide) (by decide) ?_
  intro f9 w2 hE hs hd9 hl
  have e5:f9.tmps.getD 5 undef=_:=bh hl 5 0 (by kernel_rfl) (by kernel_rfl)
  have h:=aE [(5,_)] hs hd9 (holds_lk ⟨e5,trivial⟩)
  have s:=s.more hE
  have z:=St.start w2
  refine aI h s zk (qO l vh _ (hR.keep s.ext)) rfl rfl ?_;intro f w3 v3 hT9 hE3 h s
  refine ah ?_
  exact ⟨by rw [h.holds 6 _ rfl];exact hT9,hE3,fun h9=>absurd h9 (by decide)⟩
 ·refine bN 7 rfl (by decide) (by decide) ?_
  intro f9 w2 hE hs hd9 hl
  have e2:f9.tmps.getD 2 undef=_:=cL hl 2 (by kernel_rfl) (by kernel_rfl) (h.holds 2 _ rfl)
  have h:=aE [(2,_)] hs hd9 (holds_lk ⟨e2,trivial⟩)
  have s:=s.more hE
  have z:=St.start w2
  refine au 0 h s cA rfl rfl (by first|exact ba _|exact a6 _ _) rfl ?_;intro f h
  refine ah ?_
  have e9:=h.holds 7 _ rfl
  refine ⟨?_,Ext.refl _,fun h9=>absurd h9 (by decide)⟩
  refine e9.trans ?_
  exact rfl
 ·refine bN 8 rfl (by decide) (by decide) ?_
  intro f9 w2 hE hs hd9 hl
  have e7:f9.tmps.getD 7 undef=_:=bh hl 7 2 (by kernel_rfl) (by kernel_rfl)
  have h:=aE [(7,_)] hs hd9 (holds_lk ⟨e7,trivial⟩)
  have s:=s.more hE
  have z:=St.start w2
  refine aI h s ux (ng x9 _) rfl rfl ?_;intro f w3 v3 hT9 hE3 h s
  refine ah ?_
  exact ⟨by rw [h.holds 8 _ rfl];exact hT9,hE3,fun h9=>absurd h9 (by decide)⟩
 ·exact cG (by decide) (by decide)
 ·exact cG (by decide) (by decide)
 ·intro f9 w2 hE hs hd9 hWp hT hR hFr hDj
  obtain ⟨u6,hu6⟩:∃ v,f9.tmps.getD 6 undef=v:=⟨_,rfl⟩
  have e6:(fun v w9=>∃ bx,v=.func (.func 130) #[] #[.pointer (some ⟨bx,0,none⟩)]∧gZ w9 bx #[vh]) u6 w2:=by rw [← hu6];exact hT 1 6 (by decide) rfl
  obtain ⟨u8,hu8⟩:∃ v,f9.tmps.getD 8 undef=v:=⟨_,rfl⟩
  have e8:(fun v w9=>∃ bx,v=.func (.func 137) #[] #[.pointer (some ⟨bx,0,none⟩)]∧gZ w9 bx (bO x9)) u8 w2:=by rw [← hu8];exact hT 3 8 (by decide) rfl
  replace h:=sl_new (ops:=_) [(5,_),(6,u6),(7,_),(8,u8)] h hs hd9 hR ⟨hT 0 5 (by decide) rfl,hu6,hT 2 7 (by decide) rfl,hu8,trivial⟩ (by kernel_rfl)
  replace s:=s.more hE
  clear hT hR hFr hDj
  refine fG.of ?_
  obtain ⟨bv,hbv0,hbv⟩:=e6;subst hbv0;obtain ⟨bx,hbx0,hbx⟩:=e8;subst hbx0
  refine aI h s A6 (oU l vh bv bx x9 _ (hR.keep s.ext) hln hg hbv hbx) rfl rfl ?_;intro f w1 vr hT hE h sq;replace s:=s.sl_new hE hT
  refine ac h (ak (h.ev rfl)) rfl ?_;intro f h
  refine ah ?_
  refine hK2 _ _ ?_
  refine wpIn_ret ?_
  exact bo rfl h s rfl ((s.getSl 0 rfl))
theorem sO (l:List Mb) (vh:Value) (no many:Int) (w:World) (hR:bX w vh 33 l.length (ar l)) (hln:l.length≤1000):Calls Tryz.prog 85 [vh,.int .i64 no,.int .i64 many].toArray w (cU w (fun v w'=>∃ v8,v=.tuple #[v8,.int .i64 (kX l no many)]∧cS w' w.heap.size 28 33 v8 (mI l no many).length (ar (mI l no many)))):=by
 refine bq Tryz.func85 rfl Tryz.ntmps85 rfl [(0,vh),(1,.int .i64 no),(2,.int .i64 many)] (by simp) fun f h=>?_
 have s:=St.start w
 refine al fun K1 hK1=>?_
 refine ae ?_
 refine ac h (ak (h.ev rfl)) rfl ?_;intro f h
 refine ac h (ak (h.ev rfl)) rfl ?_;intro f h
 refine ah ?_
 refine hK1 _ _ ?_
 refine al fun K2 hK2=>?_
 refine al fun K3 hK3=>?_
 cases m0:(decide (many<0):Bool)
 ·skip
  cases m1:(decide (16<many):Bool)
  ·skip
   refine ae ?_
   refine ac h (ag (h.ev rfl)) rfl ?_;intro f h
   refine ac h (aw (.bool false) (bS (h.ev rfl) (h.ev rfl)) (congrArg Value.bool m0)) rfl ?_;intro f h
   refine ac h (ag (h.ev rfl)) rfl ?_;intro f h
   refine aA h rfl rfl rfl ?_
   refine ac h (ag (h.ev rfl)) rfl ?_;intro f h
   refine aA h rfl rfl rfl ?_
   refine ac h (aw (.bool false) (cY (h.ev rfl) (h.ev rfl)) (congrArg Value.bool m1)) rfl ?_;intro f h
   refine ac h (aF (h.ev rfl) (h.ev rfl)) rfl ?_;intro f h
   refine ah ?_
   refine hK3 _ _ ?_
   refine wpIn_cond_false (h.ev rfl) ?_
   refine wpIn_skip ?_
   refine hK2 _ _ ?_
   refine al fun K4 hK4=>?_
   refine ae ?_
   have hm0:=of_decide_eq_false m0
   have hm1:=of_decide_eq_false m1
   obtain ⟨m9,hm9⟩:∃ m9:Nat,many=(m9:Int):=⟨many.toNat,by omega⟩
   have hae:=pE (l:=l) (no:=no) (show 0≤many by omega) (show many≤16 by omega)
   refine ac h (ag (h.ev rfl)) rfl ?_;intro f h
   refine ac h (ag (h.ev rfl)) rfl ?_;intro f h
   refine aI h s xg (ph l vh no _ (hR.keep s.ext) hln) rfl rfl ?_;intro f w1 v9 hT hE h s;obtain rfl:=hT
   refine ac h (ag (h.ev rfl)) rfl ?_;intro f h
   refine ac h (bG (h.ev rfl) rfl) rfl ?_;intro f h
   refine ac h (bG (h.ev rfl) rfl) rfl ?_;intro f h
   refine bf (av aZ) h s cB rfl rfl ?_;intro f w1 b8 h s
   refine az 0 h s aC rfl rfl rfl (aj _) (aj _) (aS _) ?_;intro w1 s
   refine ac h (ak (h.ev rfl)) rfl ?_;intro f h
   refine ah ?_
   refine hK4 _ _ ?_
   refine al fun K5 hK5=>?_
   refine al fun K6 hK6=>?_
   refine ae ?_
   refine ac h (ag (h.ev rfl)) rfl ?_;intro f h
   refine ac h (cy (h.ev rfl) (h.ev rfl)) rfl ?_;intro f h
   refine ah ?_
   refine hK6 _ _ ?_
   refine bK h rfl (fun hc=>?_) (fun hc=>?_)
   ·have h0:¬ fA l no=0:=by simpa using hc
    refine al fun K7 hK7=>?_
    refine ae ?_
    refine ac h (ag (h.ev rfl)) rfl ?_;intro f h
    refine ac h (ak (h.ev rfl)) rfl ?_;intro f h
    refine ac h (ak (h.ev rfl)) rfl ?_;intro f h
    refine ah ?_
    refine hK7 _ _ ?_
    refine wpIn_ret ?_
    refine aY ?_
    exact oh rfl h s rfl rfl (ld (yw (fun h9=>h0 (hae▸h9))) hae (gh _ _ _ _))
   ·have h0:fA l no=0:=by simpa using hc
    obtain ⟨hr,hg,hf,hm,hno⟩:=wh h0
    refine wpIn_skip ?_
    refine hK5 _ _ ?_
    refine al fun K8 hK8=>?_
    refine ae ?_
    refine ac h (ai cj (h.ev rfl)) rfl ?_;intro f h
    refine ax (aL.subL (aL.of_own s 0 rfl) 1 32 (D:=bO (_)) (cw _)) h cA rfl (by first|exact ba _|exact a6 _ _) rfl ?_;intro f h
    refine ac h (ag (h.ev rfl)) rfl ?_;intro f h
    refine aI h s BG (tu (ek l no).2 l vh _ (hR.keep s.ext) hln hg) rfl rfl ?_;intro f w1 vr hT hE h sq;replace s:=s.sl_new hE (hT.seq (gy (ek l no).2 l).symm rfl)
    refine ac h (ak (h.ev rfl)) rfl ?_;intro f h
    refine ah ?_
    refine hK8 _ _ ?_
    refine al fun K9 hK9=>?_
    refine ae ?_
    refine ac h (ag (h.ev rfl)) rfl ?_;intro f h
    refine tE (n:=m9) (xs:=ar (mo l (ek l no) m9 0)) h s Tryz.underlying36 c8 cB rfl rfl (hm9) (by omega) (by unfold maxLen;omega) ((zd _).trans (by rw [tx])) (by rw [dS,l9 _ _ (Nat.zero_le _)]) rfl ?_;intro f w1 v33 h s
    refine ac h (ak (h.ev rfl)) rfl ?_;intro f h
    refine ah ?_
    refine hK9 _ _ ?_
    refine al fun K10 hK10=>?_
    refine al fun K11 hK11=>?_
    refine ae ?_
    refine ac h (ag (h.ev rfl)) rfl ?_;intro f h
    refine cT 0 h s Tryz.underlying36 rfl rfl rfl ?_;intro f h
    refine ac h (ag (h.ev rfl)) rfl ?_;intro f h
    refine ah ?_
    refine hK11 _ _ ?_
    refine wpIn_block ?_
    refine wpIn_loop_ghost (fun nn aa ww=>∃ k:Nat,Sl 52 aa [(0,vh),(1,.int .i64 no),(2,.int .i64 many),(8,.pointer (some ⟨b8,0,none⟩)),(31,vr),(33,v33),(10,vr),(11,v33),(34,v33),(35,.int .i64 (m9:Int)),(36,.int .i64 (k:Int))]∧St w [.sl v33 28 33 m9 (ar (mo l (ek l no) m9 k)),.sl vr 28 33 (ey (ek l no).2 l).length (ar (ey (ek l no).2 l)),.blk b8 (.cells (av (ek l no)) 28)] ww∧nn=m9 - k∧k≤m9) (m9 - (0)) ⟨0,h.only ⟨rfl,rfl,rfl,rfl,rfl,rfl,rfl,rfl,rfl,rfl,rfl,trivial⟩,s.as ⟨rfl,rfl,rfl,trivial⟩,rfl,Nat.zero_le _⟩ ?_
    rintro _ f w1 ⟨k,h,s,hnn,hp0⟩
    refine al fun K12 hK12=>?_
    refine ae ?_
    refine ac h (bS (h.ev rfl) (h.ev rfl)) rfl ?_;intro f h
    refine ah ?_
    refine hK12 _ _ ?_
    refine al fun K13 hK13=>?_
    refine bK h rfl (fun hc=>?_) (fun hc=>?_)
    ·replace hc:=of_decide_eq_true hc
     refine wpIn_skip ?_
     refine hK13 _ _ ?_
     refine al fun K14 hK14=>?_
     refine wpIn_block ?_
     refine al fun K15 hK15=>?_
     refine ae ?_
     refine ac h (ag (h.ev rfl)) rfl ?_;intro f h
     refine ac h (ak (h.ev rfl)) rfl ?_;intro f h
     refine ah ?_
     refine hK15 _ _ ?_
     refine ae ?_
     refine ac h (ag (h.ev rfl)) rfl ?_;intro f h
     refine ac h (ag (h.ev rfl)) rfl ?_;intro f h
     refine ac h (ag (h.ev rfl)) rfl ?_;intro f h
     refine ac h (ag (h.ev rfl)) rfl ?_;intro f h
     have hkl:k<m9:=by omega
     have hpos:=jZ hm
     have hml:=Nat.mod_lt (k+1) hpos
     have hrl:=gy (ek l no).2 l
     refine ac h (aw (.int .i64 ((k+1:Nat):Int)) (ce (h.ev rfl) (h.ev rfl) (by omega)) (congrArg (Value.int .i64) (by omega))) rfl ?_;intro f h
     refine ac h (ag (h.ev rfl)) rfl ?_;intro f h
     refine cT 1 h s Tryz.underlying36 rfl rfl rfl ?_;intro f h
     refine ac h (aw (.int .i64 (((k+1) % l.length:Nat):Int)) (AT (h.ev rfl) (h.ev rfl) (by omega)) (congrArg (Value.int .i64) (by rw [gy];exact(Int.natCast_emod _ _).symm))) rfl ?_;intro f h
     refine ac h (cc (bX.of_own (s.getSl 1 rfl)) ((k+1) % l.length) Tryz.underlying36 cD (h.ev rfl) (h.ev rfl) (rfl) (by omega)) rfl ?_;intro f h
     refine ax ((bX.of_own (s.getSl 1 rfl)).el ((k+1) % l.length) (by omega) (by decide) (D:=av (qo l (ek l no) (k+1))) ((cI _ _ (by omega)).trans (by rw [pP hg hm]))) h aC rfl (aj _) rfl ?_;intro f h
     refine ac h (cc (bX.of_own (s.getSl 0 rfl)) (k) Tryz.underlying36 cD (h.ev rfl) (h.ev rfl) (rfl) (by omega)) rfl ?_;intro f h
     refine eX 0 (k) h s aC rfl rfl rfl (aj _) (by omega) (aS _) ((qi (l:=(mo l (ek l no) m9 k)) _ (by rw [l9 _ _ (by omega)];exact hkl)).trans (by rw [sE _ _ hkl])) ?_;intro w1 s
     refine ah ?_
     refine bF ?_
     refine hK14 _ _ ?_
     refine ae ?_
     refine ac h (ce (h.ev rfl) (h.ev rfl) (by omega)) rfl ?_;intro f h
     refine ac h (ag (h.ev rfl)) rfl ?_;intro f h
     refine ah ?_
     refine bT ?_
     exact ⟨_,by omega,⟨k+1,h.only ⟨rfl,rfl,rfl,rfl,rfl,rfl,rfl,rfl,rfl,rfl,aO rfl (by omega),trivial⟩,St.as s ⟨rfl,rfl,rfl,trivial⟩,rfl,by omega⟩⟩
    ·replace hc:=of_decide_eq_false hc
     refine wpIn_exit ?_
     refine bJ ?_
     refine bJ ?_
     refine cC ?_
     refine hK10 _ _ ?_
     refine al fun K16 hK16=>?_
     refine ae ?_
     refine ac h (ag (h.ev rfl)) rfl ?_;intro f h
     refine ac h (ak (h.ev rfl)) rfl ?_;intro f h
     refine ac h (ak (h.ev rfl)) rfl ?_;intro f h
     refine ah ?_
     refine hK16 _ _ ?_
     refine wpIn_ret ?_
     exact oh rfl h s rfl rfl (ld (yU hm9 hae h0) (hae.trans h0) (by obtain rfl:k=m9:=(by omega);rw [← vS,l9 _ _ (Nat.le_refl _)];exact(s.getSl 0 rfl)))
  ·skip
   refine ae ?_
   refine ac h (ag (h.ev rfl)) rfl ?_;intro f h
   refine ac h (aw (.bool false) (bS (h.ev rfl) (h.ev rfl)) (congrArg Value.bool m0)) rfl ?_;intro f h
   refine ac h (ag (h.ev rfl)) rfl ?_;intro f h
   refine aA h rfl rfl rfl ?_
   refine ac h (ag (h.ev rfl)) rfl ?_;intro f h
   refine aA h rfl rfl rfl ?_
   refine ac h (aw (.bool true) (cY (h.ev rfl) (h.ev rfl)) (congrArg Value.bool m1)) rfl ?_;intro f h
   refine ac h (aF (h.ev rfl) (h.ev rfl)) rfl ?_;intro f h
   refine ah ?_
   refine hK3 _ _ ?_
   refine wpIn_cond_true (h.ev rfl) ?_
   refine al fun K17 hK17=>?_
   refine ae ?_
   refine ac h (ak (h.ev rfl)) rfl ?_;intro f h
   refine ac h (ak (h.ev rfl)) rfl ?_;intro f h
   refine ah ?_
   refine hK17 _ _ ?_
   refine wpIn_ret ?_
   refine aY ?_
   exact oh rfl h s rfl rfl (ld (lx (.inr (of_decide_eq_true m1))).2 (lx (.inr (of_decide_eq_true m1))).1 (gh _ _ _ _))
 ·skip
  refine ae ?_
  refine ac h (ag (h.ev rfl)) rfl ?_;intro f h
  refine ac h (aw (.bool true) (bS (h.ev rfl) (h.ev rfl)) (congrArg Value.bool m0)) rfl ?_;intro f h
  refine ac h (ag (h.ev rfl)) rfl ?_;intro f h
  refine aB (b:=false) h rfl rfl rfl rfl ?_;intro f h
  refine aB (b:=false) h rfl rfl rfl rfl ?_;intro f h
  refine ac h (aD (h.ev rfl) (h.ev rfl)) rfl ?_;intro f h
  refine ah ?_
  refine hK3 _ _ ?_
  refine wpIn_cond_true (h.ev rfl) ?_
  refine al fun K18 hK18=>?_
  refine ae ?_
  refine ac h (ak (h.ev rfl)) rfl ?_;intro f h
  refine ac h (ak (h.ev rfl)) rfl ?_;intro f h
  refine ah ?_
  refine hK18 _ _ ?_
  refine wpIn_ret ?_
  refine aY ?_
  exact oh rfl h s rfl rfl (ld (lx (.inl (of_decide_eq_true m0))).2 (lx (.inl (of_decide_eq_true m0))).1 (gh _ _ _ _))
theorem Bw (l:List Mb) (vh:Value) (m:Mb) (w:World) (hR:bX w vh 33 l.length (ar l)) (hln:l.length≤1000) (hg:Rg l) (hm:m∈l):Calls Tryz.prog 50 [vh,.agg (av m)].toArray w (cU w (DC w 28 l m)):=by
 refine bq Tryz.func50 rfl Tryz.ntmps50 rfl [(0,vh),(1,.agg (av m))] (by simp) fun f h=>?_
 have s:=St.start w
 refine al fun K1 hK1=>?_
 refine ae ?_
 refine bV ((av m)) h s rfl rfl rfl ?_;intro f w1 b3 h s
 refine bf (av aZ) h s cB rfl rfl ?_;intro f w1 b4 h s
 refine ac h (ak (h.ev rfl)) rfl ?_;intro f h
 refine ah ?_
 refine hK1 _ _ ?_
 refine al fun K2 hK2=>?_
 refine ae ?_
 refine ac h (ag (h.ev rfl)) rfl ?_;intro f h
 refine ac h (a8 (hR.keep s.ext) Tryz.underlying36 (h.ev rfl)) rfl ?_;intro f h
 refine ac h (eS (h.ev rfl) (h.ev rfl) (by omega)) rfl ?_;intro f h
 refine ac h (ak (h.ev rfl)) rfl ?_;intro f h
 refine ah ?_
 refine hK2 _ _ ?_
 refine al fun K3 hK3=>?_
 refine al fun K4 hK4=>?_
 refine ae ?_
 refine ac h (ag (h.ev rfl)) rfl ?_;intro f h
 refine ac h (bU (h.ev rfl) (h.ev rfl)) rfl ?_;intro f h
 refine ah ?_
 refine hK4 _ _ ?_
 refine bK h rfl (fun hc=>?_) (fun hc=>?_)
 ·have h1:l.length=1:=by have:=of_decide_eq_true hc;omega
  refine al fun K5 hK5=>?_
  refine nX 1 [[],[],[1],[0],[0,1,2,3]] [[],[],[],[5],[]] [fun _=>[],fun _=>[],fun v=>[.sl (v 2) 28 33 [m].length (ar [m])],fun v=>[.blk b4 (.cells (av dB) 28)],fun _=>[]] [[.blk b4 (.cells (av aZ) 28)]] [fun v=>v 0=.agg (av dB),fun v=>v 1=.agg (av m),fun _=>True,fun _=>True,fun v=>v 4=(v 2)] [.blk b3 (.cells ((av m)) 28)] h s rfl (by kernel_rfl) (by kernel_rfl) (by kernel_rfl) (And.intro ?_ (And.intro ?_ (And.intro ?_ (And.intro ?_ (And.intro ?_ (trivial)))))) [0,1,2,3,4] (by kernel_rfl) ?_
  ·intro f9 w2 vl3 E9 hs9 hd9 hl hF s
   have h:=aE [] (hs9.trans h.size) (hd9.trans h.defers) (holds_lk trivial)
   replace s:St w (.blk b3 (.cells ((av m)) 28)::E9) _:=s
   refine aI h s CH (sM _) rfl rfl ?_;intro f w1 v9 hT hE h s;obtain rfl:=hT
   exact ah ⟨_,bY 16 rfl (h.holds 16 _ rfl),rfl,s⟩
  ·intro f9 w2 vl3 E9 hs9 hd9 hl hF s
   have e3:f9.tmps.getD 3 undef=_:=dt hl 3 (by kernel_rfl) (by kernel_rfl) (h.holds 3 _ rfl)
   have h:=aE [(3,_)] (hs9.trans h.size) (hd9.trans h.defers) (holds_lk ⟨e3,trivial⟩)
   replace s:St w (.blk b3 (.cells ((av m)) 28)::E9) _:=s
   refine au 0 h s aC rfl rfl (aj _) rfl ?_;intro f h
   exact ah ⟨_,bY 17 rfl (h.holds 17 _ rfl),rfl,s⟩
  ·intro f9 w2 vl3 E9 hs9 hd9 hl hF s
   have e17:f9.tmps.getD 17 undef=.agg (av m):=(cd hl 17 1 (by kernel_rfl) (by kernel_rfl)).trans (hF 1 (by decide))
   have h:=aE [(17,.agg (av m))] (hs9.trans h.size) (hd9.trans h.defers) (holds_lk ⟨e17,trivial⟩)
   replace s:St w (.blk b3 (.cells ((av m)) 28)::E9) _:=s
   refine cm (vs:=[.agg (av m)]) [.tmp 17] h s Tryz.underlying36 c8 rfl rfl (eI _) rfl rfl rfl ?_;intro f w1 v18 h s
   replace s:=s.resl (m:=[m].length) (ys:=ar [m]) 0 rfl rfl (by rw [dh,cQ])
   exact ah ⟨_,bY 18 rfl (h.holds 18 _ rfl),trivial,s⟩
  ·intro f9 w2 vl3 E9 hs9 hd9 hl hF s
   have e4:f9.tmps.getD 4 undef=_:=dt hl 4 (by kernel_rfl) (by kernel_rfl) (h.holds 4 _ rfl)
   have e16:f9.tmps.getD 16 undef=.agg (av dB):=(cd hl 16 0 (by kernel_rfl) (by kernel_rfl)).trans (hF 0 (by decide))
   have h:=aE [(4,_),(16,.agg (av dB))] (hs9.trans h.size) (hd9.trans h.defers) (holds_lk ⟨e4,e16,trivial⟩)
   replace s:St w (.blk b4 (.cells (av aZ) 28)::.blk b3 (.cells ((av m)) 28)::E9) _:=s
   refine az 0 h s aC rfl rfl rfl (aj _) (aj _) (aS _) ?_;intro w1 s
   exact ah ⟨undef,ly rfl,trivial,s⟩
  ·intro f9 w2 vl3 E9 hs9 hd9 hl hF s
   have e18:f9.tmps.getD 18 undef=(vl3 2):=cd hl 18 2 (by kernel_rfl) (by kernel_rfl)
   have h:=aE [(18,(vl3 2))] (hs9.trans h.size) (hd9.trans h.defers) (holds_lk ⟨e18,trivial⟩)
   replace s:St w (.blk b3 (.cells ((av m)) 28)::E9) _:=s
   refine ac h (ak (h.ev rfl)) rfl ?_;intro f h
   exact ah ⟨_,bY 5 rfl (h.holds 5 _ rfl),rfl,s⟩
  intro f w1 vl3 hs9 hd9 hv hr hF s
  replace h:=rp (ops:=_) [(16,.agg (av dB)),(17,.agg (av m)),(18,(vl3 2)),(5,(vl3 2))] h hs9 hd9 hr ⟨(hv 0 16 rfl).trans (hF 0 (by kernel_rfl)),(hv 1 17 rfl).trans (hF 1 (by kernel_rfl)),hv 2 18 rfl,(hv 4 5 rfl).trans (hF 4 (by kernel_rfl)),trivial⟩ (by kernel_rfl)
  replace s:St w [.sl (vl3 2) 28 33 [m].length (ar [m]),.blk b4 (.cells (av dB) 28),.blk b3 (.cells ((av m)) 28)] _:=s
  refine hK5 _ _ ?_
  refine wpIn_ret ?_
  refine aY ?_
  exact ci 1 rfl h s aC rfl rfl (aj _) rfl (ya h1 (s.getSl 0 rfl))
 ·have h1:¬ l.length=1:=by have:=of_decide_eq_false hc;omega
  have hpos:=jZ hm
  refine wpIn_skip ?_
  refine hK3 _ _ ?_
  refine al fun K6 hK6=>?_
  refine ae ?_
  refine ac h (ag (h.ev rfl)) rfl ?_;intro f h
  refine ac h (ai aH (h.ev rfl)) rfl ?_;intro f h
  refine aq (am (aL.of_own s 1 rfl) 0 (aP _)) h bw rfl rfl ?_;intro f h
  refine aI h s Cq (qQ l vh m.1 _ (hR.keep s.ext) hln) rfl rfl ?_;intro f w1 v9 hT hE h s;obtain rfl:=hT
  refine ac h (ag (h.ev rfl)) rfl ?_;intro f h
  refine ac h (bG (h.ev rfl) rfl) rfl ?_;intro f h
  refine ac h (bG (h.ev rfl) rfl) rfl ?_;intro f h
  refine bf (av aZ) h s cB rfl rfl ?_;intro f w1 b7 h s
  refine az 0 h s aC rfl rfl rfl (aj _) (aj _) (aS _) ?_;intro w1 s
  refine ac h (ak (h.ev rfl)) rfl ?_;intro f h
  refine ah ?_
  refine hK6 _ _ ?_
  refine al fun K7 hK7=>?_
  refine ae ?_
  refine ac h (ag (h.ev rfl)) rfl ?_;intro f h
  refine ac h (ai aH (h.ev rfl)) rfl ?_;intro f h
  refine aq (am (aL.of_own s 2 rfl) 0 (aP _)) h bw rfl rfl ?_;intro f h
  refine ac h (ag (h.ev rfl)) rfl ?_;intro f h
  refine ac h (aw (.int .i64 ((min (l.length - 1) 4:Nat):Int)) (om (h.ev rfl) (h.ev rfl)) (congrArg (Value.int .i64) (by omega))) rfl ?_;intro f h
  have haf:=Bz hg hm (n:=min (l.length - 1) 4) (by omega)
  refine aI h s C5 (sO l vh m.1 ((min (l.length - 1) 4:Nat):Int) _ (hR.keep s.ext) hln) rfl rfl ?_;rintro f w1 v9 ⟨va,rfl,hT⟩ hE h sq;rw [haf.2] at hT;replace s:=s.sl_new hE hT
  refine ac h (ag (h.ev rfl)) rfl ?_;intro f h
  refine ac h (bG (h.ev rfl) rfl) rfl ?_;intro f h
  refine ac h (bG (h.ev rfl) rfl) rfl ?_;intro f h
  refine ac h (ak (h.ev rfl)) rfl ?_;intro f h
  refine ac h (ak (h.ev rfl)) rfl ?_;intro f h
  refine ah ?_
  refine hK7 _ _ ?_
  refine al fun K8 hK8=>?_
  refine ae ?_
  refine au 1 h s aC rfl rfl (aj _) rfl ?_;intro f h
  refine ac h (ag (h.ev rfl)) rfl ?_;intro f h
  refine az 2 h s aC rfl rfl rfl (aj _) (aj _) (aS _) ?_;intro w1 s
  refine ac h (ak (h.ev rfl)) rfl ?_;intro f h
  refine ah ?_
  refine hK8 _ _ ?_
  refine wpIn_ret ?_
  exact ci 2 rfl h s aC rfl rfl (aj _) rfl ((by rw [Bp hg hm];exact yR h1 (s.getSl 0 rfl)))
theorem pa (L:List N3) (vo:Value) (w:World) (hO:eN w vo L) (hL:L.length≤40) (hb:RwB L):Calls Tryz.prog 12 [.agg #[vo]].toArray w (cU w (is (.bool (gR L)))):=by
 have hml:(aR L).length≤1000:=by rw [List.length_map];omega
 refine d7 Tryz.func12 rfl Tryz.ntmps12 rfl [(0,.agg #[vo])] (by simp) fun f h=>?_
 have s:=St.start w
 refine al fun K1 hK1=>?_
 refine ae ?_
 refine bV (#[vo]) h s rfl rfl rfl ?_;intro f w1 b1 h s
 refine bf (#[.bool false]) h s rC rfl rfl ?_;intro f w1 b2 h s
 refine ah ?_
 refine hK1 _ _ ?_
 refine al fun K2 hK2=>?_
 refine al fun K3 hK3=>?_
 cases r0:(hQ L:Bool)
 ·skip
  refine ae ?_
  refine au 1 h s bk rfl rfl (rfl) rfl ?_;intro f h
  refine aI h s mA (aM (.bool false) (ex L vo _ (hO.keep s.ext) hL hb) (congrArg Value.bool r0)) rfl rfl ?_;intro f w1 v9 hT hE h s;obtain rfl:=hT
  refine ac h (aw (.bool true) (bB (h.ev rfl)) rfl) rfl ?_;intro f h
  refine ah ?_
  refine hK3 _ _ ?_
  refine wpIn_cond_true (h.ev rfl) ?_
  refine al fun K4 hK4=>?_
  refine ae ?_
  refine br 0 h s fl rfl rfl rfl (by simp) (rfl) ?_;intro w1 s
  refine ah ?_
  refine hK4 _ _ ?_
  refine wpIn_ret ?_
  refine aY ?_
  exact mu 0 rfl h s fl rfl rfl rfl (fun w9=>by show _=_;rw [Da r0];rfl)
 ·skip
  refine ae ?_
  refine au 1 h s bk rfl rfl (rfl) rfl ?_;intro f h
  refine aI h s mA (aM (.bool true) (ex L vo _ (hO.keep s.ext) hL hb) (congrArg Value.bool r0)) rfl rfl ?_;intro f w1 v9 hT hE h s;obtain rfl:=hT
  refine ac h (aw (.bool false) (bB (h.ev rfl)) rfl) rfl ?_;intro f h
  refine ah ?_
  refine hK3 _ _ ?_
  refine wpIn_cond_false (h.ev rfl) ?_
  refine wpIn_skip ?_
  refine hK2 _ _ ?_
  refine al fun K5 hK5=>?_
  refine ae ?_
  have hrg:=(eJ r0).rs.ring
  refine au 1 h s bk rfl rfl (rfl) rfl ?_;intro f h
  refine aI h s zu (j2 L vo _ (hO.keep s.ext) hL) rfl rfl ?_;intro f w1 v11 hT hE h sq;replace s:=s.sl_new hE hT
  refine bf (#[.slice none 0 0]) h s qc rfl rfl ?_;intro f w1 b3 h s
  refine br 0 h s bE rfl rfl rfl (by simp) (aQ (s.getSl 1 rfl)) ?_;intro w1 s
  refine ah ?_
  refine hK5 _ _ ?_
  refine al fun K6 hK6=>?_
  refine al fun K7 hK7=>?_
  refine ae ?_
  refine au 3 h s bk rfl rfl (rfl) rfl ?_;intro f h
  refine dl [.agg #[vo]] h kE (fk vo _ _ _ s) rfl rfl ?_;rintro f w1 r ⟨bn,rfl,s⟩ h
  refine ah ?_
  refine hK7 _ _ ?_
  refine wpIn_block ?_
  refine dW (fun d A9=>A9=[.blk b3 (.cells #[v11] 36),.sl v11 28 33 (aR L).length (ar (aR L)),.blk b2 (.cells #[.bool false] 4),.blk b1 (.cells #[vo] 24)]) [.blk b3 (.cells #[v11] 36),.sl v11 28 33 (aR L).length (ar (aR L)),.blk b2 (.cells #[.bool false] 4),.blk b1 (.cells #[vo] 24)] [.blk bn (.cells #[vo] 24)] (L.length) (tY L) (fun d=>[Value.pointer (some (a2 vo (d*68)))]) h s rfl kH (List.Perm.refl _) (rfl) (fun _=>rfl) ?_ ?_ ?_ ?_
  ·intro lp w2 GG g0 hg0 s2 hY;exact eB L.length (by omega) vo _ _ hO.1 lp bn (tY L) GG g0 w w2 s2 hg0 hY
  ·intro lp D9 d9 rc R9 A9 w2 hd9 hq9 hJ9 s
   obtain rfl:=hJ9
   have h:=Sl.round1 (p:=14) (V:=.pointer (some (a2 vo (d9*68)))) h rfl
   have hdl9:=hd9
   refine ae ?_
   refine ac h (ak (h.ev rfl)) rfl ?_;intro f h
   refine ah ?_
   refine bT ?_
   refine ⟨_,s,fun w3 s=>?_⟩
   refine wpIn_block ?_
   refine al fun K8 hK8=>?_
   refine nX 0 [[],[],[1],[1,2],[1,2,3],[0,1,2,3,4],[0,1,2,3,4,5],[0,1,2,3,4,5,6],[0,1,2,3,4,5,6],[],[0,1,2,3,4,5,6,7,9],[0,1,2,3,4,5,6,7,8,9,10]] [[],[],[],[],[],[],[],[],[],[],[9],[]] [fun _=>[],fun _=>[],fun _=>[],fun _=>[],fun _=>[],fun v=>[.sl (fL (v 5)) 28 33 (oL (aR L) (L.getD d9 z3).1.me).length (ar (oL (aR L) (L.getD d9 z3).1.me))],fun _=>[],fun _=>[],fun _=>[],fun v=>[.blk (BZ (v 9)) (.cells (av aZ) 28)],fun v=>[.blk (BZ (v 9)) (.cells (av (j1 (aR L) (L.getD d9 z3).1.me)) 28)],fun _=>[]] [] [fun v=>v 0=v11,fun v=>v 1=.pointer (some (a2 vo (d9*68))),fun v=>v 2=.pointer (some (a2 vo (d9*68))),fun v=>v 3=.pointer (some (a2 vo (d9*68+0))),fun v=>v 4=.agg (av (L.getD d9 z3).1.me),fun v=>v 5=.tuple #[.agg (av (j1 (aR L) (L.getD d9 z3).1.me)),(fL (v 5))],fun v=>v 6=.tuple #[.agg (av (j1 (aR L) (L.getD d9 z3).1.me)),(fL (v 5))],fun v=>v 7=.agg (av (j1 (aR L) (L.getD d9 z3).1.me)),fun v=>v 8=(fL (v 5)),fun v=>∃ b,v 9=.pointer (some ⟨b,0,none⟩),fun _=>True,fun v=>v 11=(fL (v 5))] (.blk lp (.loop (rc .busy))::.blk D9 (.deferred (some []))::.blk b3 (.cells (#[v11]) 36)::.sl v11 28 33 (aR L).length (ar (aR L))::.blk b2 (.cells (#[.bool false]) 4)::.blk b1 (.cells (#[vo]) 24)::R9) h s rfl (by kernel_rfl) (by kernel_rfl) (by kernel_rfl) (And.intro ?_ (And.intro ?_ (And.intro ?_ (And.intro ?_ (And.intro ?_ (And.intro ?_ (And.intro ?_ (And.intro ?_ (And.intro ?_ (And.intro ?_ (And.intro ?_ (And.intro ?_ (trivial))))))))))))) [0,1,2,3,4,5,6,7,8,10,11] (by kernel_rfl) ?_
   ·intro f9 w2 vl6 E9 hs9 hd9 hl hF s
    have e3:f9.tmps.getD 3 undef=_:=dt hl 3 (by kernel_rfl) (by kernel_rfl) (h.holds 3 _ rfl)
    have h:=aE [(3,_)] (hs9.trans h.size) (hd9.trans h.defers) (holds_lk ⟨e3,trivial⟩)
    replace s:St w (.blk lp (.loop (rc .busy))::.blk D9 (.deferred (some []))::.blk b3 (.cells (#[v11]) 36)::.sl v11 28 33 (aR L).length (ar (aR L))::.blk b2 (.cells (#[.bool false]) 4)::.blk b1 (.cells (#[vo]) 24)::(R9++E9)) _:=s
    refine bR 2 h s bE rfl rfl (rfl) rfl ?_;intro f h
    exact ah ⟨_,bY 16 rfl (h.holds 16 _ rfl),rfl,s⟩
   ·intro f9 w2 vl6 E9 hs9 hd9 hl hF s
    have e4:f9.tmps.getD 4 undef=_:=dt hl 4 (by kernel_rfl) (by kernel_rfl) (h.holds 4 _ rfl)
    have h:=aE [(4,_)] (hs9.trans h.size) (hd9.trans h.defers) (holds_lk ⟨e4,trivial⟩)
    replace s:St w (.blk lp (.loop (rc .busy))::.blk D9 (.deferred (some []))::.blk b3 (.cells (#[v11]) 36)::.sl v11 28 33 (aR L).length (ar (aR L))::.blk b2 (.cells (#[.bool false]) 4)::.blk b1 (.cells (#[vo]) 24)::(R9++E9)) _:=s
    refine ac h (ag (h.ev rfl)) rfl ?_;intro f h
    exact ah ⟨_,bY 17 rfl (h.holds 17 _ rfl),rfl,s⟩
   ·intro f9 w2 vl6 E9 hs9 hd9 hl hF s
    have e17:f9.tmps.getD 17 undef=.pointer (some (a2 vo (d9*68))):=(cd hl 17 1 (by kernel_rfl) (by kernel_rfl)).trans (hF 1 (by decide))
    have h:=aE [(17,.pointer (some (a2 vo (d9*68))))] (hs9.trans h.size) (hd9.trans h.defers) (holds_lk ⟨e17,trivial⟩)
    replace s:St w (.blk lp (.loop (rc .busy))::.blk D9 (.deferred (some []))::.blk b3 (.cells (#[v11]) 36)::.sl v11 28 33 (aR L).length (ar (aR L))::.blk b2 (.cells (#[.bool false]) 4)::.blk b1 (.cells (#[vo]) 24)::(R9++E9)) _:=s
    refine ac h (bz (h.ev rfl)) rfl ?_;intro f h
    exact ah ⟨_,bY 18 rfl (h.holds 18 _ rfl),rfl,s⟩
   ·intro f9 w2 vl6 E9 hs9 hd9 hl hF s
    have e18:f9.tmps.getD 18 undef=.pointer (some (a2 vo (d9*68))):=(cd hl 18 2 (by kernel_rfl) (by kernel_rfl)).trans (hF 2 (by decide))
    have h:=aE [(18,.pointer (some (a2 vo (d9*68))))] (hs9.trans h.size) (hd9.trans h.defers) (holds_lk ⟨e18,trivial⟩)
    replace s:St w (.blk lp (.loop (rc .busy))::.blk D9 (.deferred (some []))::.blk b3 (.cells (#[v11]) 36)::.sl v11 28 33 (aR L).length (ar (aR L))::.blk b2 (.cells (#[.bool false]) 4)::.blk b1 (.cells (#[vo]) 24)::(R9++E9)) _:=s
    refine ac h (bL aK (h.ev rfl) ((hO.1.keep s.ext).some (by omega))) rfl ?_;intro f h
    exact ah ⟨_,bY 19 rfl (h.holds 19 _ rfl),rfl,s⟩
   ·intro f9 w2 vl6 E9 hs9 hd9 hl hF s
    have e19:f9.tmps.getD 19 undef=.pointer (some (a2 vo (d9*68+0))):=(cd hl 19 3 (by kernel_rfl) (by kernel_rfl)).trans (hF 3 (by decide))
    have h:=aE [(19,.pointer (some (a2 vo (d9*68+0))))] (hs9.trans h.size) (hd9.trans h.defers) (holds_lk ⟨e19,trivial⟩)
    replace s:St w (.blk lp (.loop (rc .busy))::.blk D9 (.deferred (some []))::.blk b3 (.cells (#[v11]) 36)::.sl v11 28 33 (aR L).length (ar (aR L))::.blk b2 (.cells (#[.bool false]) 4)::.blk b1 (.cells (#[vo]) 24)::(R9++E9)) _:=s
    refine ax (bX.elF (hO.1.keep s.ext) (d9) 0 33 (by omega) (by decide) (C:=ay (L.getD d9 z3).1.me (L.getD d9 z3).1.pr (L.getD d9 z3).2.1 (L.getD d9 z3).2.2) (df L d9 hdl9) (D:=av (L.getD d9 z3).1.me) (bj _ _ _ _)) h aC rfl (aj _) rfl ?_;intro f h
    exact ah ⟨_,bY 20 rfl (h.holds 20 _ rfl),rfl,s⟩
   ·intro f9 w2 vl6 E9 hs9 hd9 hl hF s
    have e16:f9.tmps.getD 16 undef=v11:=(cd hl 16 0 (by kernel_rfl) (by kernel_rfl)).trans (hF 0 (by decide))
    have e20:f9.tmps.getD 20 undef=.agg (av (L.getD d9 z3).1.me):=(cd hl 20 4 (by kernel_rfl) (by kernel_rfl)).trans (hF 4 (by decide))
    have h:=aE [(16,v11),(20,.agg (av (L.getD d9 z3).1.me))] (hs9.trans h.size) (hd9.trans h.defers) (holds_lk ⟨e16,e20,trivial⟩)
    replace s:St w (.blk lp (.loop (rc .busy))::.blk D9 (.deferred (some []))::.blk b3 (.cells (#[v11]) 36)::.sl v11 28 33 (aR L).length (ar (aR L))::.blk b2 (.cells (#[.bool false]) 4)::.blk b1 (.cells (#[vo]) 24)::(R9++E9)) _:=s
    refine aI h s CG (Bw (aR L) v11 (L.getD d9 z3).1.me _ (bX.of_own (s.getSl 3 rfl)) hml hrg (List.mem_map.2 ⟨_,bu hdl9,rfl⟩)) rfl rfl ?_;rintro f w1 v21 ⟨u9,hv9,hO9⟩ hE h sq;replace s:=s.sl_new hE hO9
    have h1v:u9=fL v21:=by rw [hv9];rfl
    clear hO9
    subst h1v
    exact ah ⟨_,bY 21 rfl (h.holds 21 _ rfl),hv9,s⟩
   ·intro f9 w2 vl6 E9 hs9 hd9 hl hF s
    have e21:f9.tmps.getD 21 undef=.tuple #[.agg (av (j1 (aR L) (L.getD d9 z3).1.me)),(fL (vl6 5))]:=(cd hl 21 5 (by kernel_rfl) (by kernel_rfl)).trans (hF 5 (by decide))
    have h:=aE [(21,.tuple #[.agg (av (j1 (aR L) (L.getD d9 z3).1.me)),(fL (vl6 5))])] (hs9.trans h.size) (hd9.trans h.defers) (holds_lk ⟨e21,trivial⟩)
    replace s:St w (.blk lp (.loop (rc .busy))::.blk D9 (.deferred (some []))::.blk b3 (.cells (#[v11]) 36)::.sl v11 28 33 (aR L).length (ar (aR L))::.blk b2 (.cells (#[.bool false]) 4)::.blk b1 (.cells (#[vo]) 24)::(R9++E9)) _:=s
    refine ac h (ag (h.ev rfl)) rfl ?_;intro f h
    exact ah ⟨_,bY 15 rfl (h.holds 15 _ rfl),rfl,s⟩
   ·intro f9 w2 vl6 E9 hs9 hd9 hl hF s
    have e15:f9.tmps.getD 15 undef=.tuple #[.agg (av (j1 (aR L) (L.getD d9 z3).1.me)),(fL (vl6 5))]:=(cd hl 15 6 (by kernel_rfl) (by kernel_rfl)).trans (hF 6 (by decide))
    have h:=aE [(15,.tuple #[.agg (av (j1 (aR L) (L.getD d9 z3).1.me)),(fL (vl6 5))])] (hs9.trans h.size) (hd9.trans h.defers) (holds_lk ⟨e15,trivial⟩)
    replace s:St w (.blk lp (.loop (rc .busy))::.blk D9 (.deferred (some []))::.blk b3 (.cells (#[v11]) 36)::.sl v11 28 33 (aR L).length (ar (aR L))::.blk b2 (.cells (#[.bool false]) 4)::.blk b1 (.cells (#[vo]) 24)::(R9++E9)) _:=s
    refine ac h (bG (h.ev rfl) rfl) rfl ?_;intro f h
    exact ah ⟨_,bY 22 rfl (h.holds 22 _ rfl),rfl,s⟩
   ·intro f9 w2 vl6 E9 hs9 hd9 hl hF s
    have e15:f9.tmps.getD 15 undef=.tuple #[.agg (av (j1 (aR L) (L.getD d9 z3).1.me)),(fL (vl6 5))]:=(cd hl 15 6 (by kernel_rfl) (by kernel_rfl)).trans (hF 6 (by decide))
    have h:=aE [(15,.tuple #[.agg (av (j1 (aR L) (L.getD d9 z3).1.me)),(fL (vl6 5))])] (hs9.trans h.size) (hd9.trans h.defers) (holds_lk ⟨e15,trivial⟩)
    replace s:St w (.blk lp (.loop (rc .busy))::.blk D9 (.deferred (some []))::.blk b3 (.cells (#[v11]) 36)::.sl v11 28 33 (aR L).length (ar (aR L))::.blk b2 (.cells (#[.bool false]) 4)::.blk b1 (.cells (#[vo]) 24)::(R9++E9)) _:=s
    refine ac h (bG (h.ev rfl) rfl) rfl ?_;intro f h
    exact ah ⟨_,bY 23 rfl (h.holds 23 _ rfl),rfl,s⟩
   ·intro f9 w2 vl6 E9 hs9 hd9 hl hF s
    have h:=aE [] (hs9.trans h.size) (hd9.trans h.defers) (holds_lk trivial)
    replace s:St w (.blk lp (.loop (rc .busy))::.blk D9 (.deferred (some []))::.blk b3 (.cells (#[v11]) 36)::.sl v11 28 33 (aR L).length (ar (aR L))::.blk b2 (.cells (#[.bool false]) 4)::.blk b1 (.cells (#[vo]) 24)::(R9++E9)) _:=s
    refine bf (av aZ) h s cB rfl rfl ?_;intro f w1 b5 h s
    exact ah ⟨_,bY 5 rfl (h.holds 5 _ rfl),⟨_,rfl⟩,s⟩
   ·intro f9 w2 vl6 E9 hs9 hd9 hl hF s
    obtain ⟨b5,hb5⟩:∃ b,vl6 9=.pointer (some ⟨b,0,none⟩):=hF 9 (by decide)
    have e5:f9.tmps.getD 5 undef=.pointer (some ⟨b5,0,none⟩):=(cd hl 5 9 (by kernel_rfl) (by kernel_rfl)).trans hb5
    have e22:f9.tmps.getD 22 undef=.agg (av (j1 (aR L) (L.getD d9 z3).1.me)):=(cd hl 22 7 (by kernel_rfl) (by kernel_rfl)).trans (hF 7 (by decide))
    have h:=aE [(5,.pointer (some ⟨b5,0,none⟩)),(22,.agg (av (j1 (aR L) (L.getD d9 z3).1.me)))] (hs9.trans h.size) (hd9.trans h.defers) (holds_lk ⟨e5,e22,trivial⟩)
    replace s:St w (.blk (BZ (vl6 9)) (.cells (av aZ) 28)::.blk lp (.loop (rc .busy))::.blk D9 (.deferred (some []))::.blk b3 (.cells (#[v11]) 36)::.sl v11 28 33 (aR L).length (ar (aR L))::.blk b2 (.cells (#[.bool false]) 4)::.blk b1 (.cells (#[vo]) 24)::(R9++E9)) _:=s
    rw [hb5] at s
    replace s:St w (.blk b5 (.cells (av aZ) 28)::.blk lp (.loop (rc .busy))::.blk D9 (.deferred (some []))::.blk b3 (.cells (#[v11]) 36)::.sl v11 28 33 (aR L).length (ar (aR L))::.blk b2 (.cells (#[.bool false]) 4)::.blk b1 (.cells (#[vo]) 24)::(R9++E9)) _:=s
    refine az 0 h s aC rfl rfl rfl (aj _) (aj _) (aS _) ?_;intro w1 s
    refine ah ⟨undef,ly rfl,trivial,?_⟩
    have z:=s
    rw [← show BZ (vl6 9)=b5 from by rw [hb5];rfl] at z
    exact z
   ·intro f9 w2 vl6 E9 hs9 hd9 hl hF s
    have e23:f9.tmps.getD 23 undef=(fL (vl6 5)):=(cd hl 23 8 (by kernel_rfl) (by kernel_rfl)).trans (hF 8 (by decide))
    have h:=aE [(23,(fL (vl6 5)))] (hs9.trans h.size) (hd9.trans h.defers) (holds_lk ⟨e23,trivial⟩)
    replace s:St w (.blk lp (.loop (rc .busy))::.blk D9 (.deferred (some []))::.blk b3 (.cells (#[v11]) 36)::.sl v11 28 33 (aR L).length (ar (aR L))::.blk b2 (.cells (#[.bool false]) 4)::.blk b1 (.cells (#[vo]) 24)::(R9++E9)) _:=s
    refine ac h (ak (h.ev rfl)) rfl ?_;intro f h
    exact ah ⟨_,bY 6 rfl (h.holds 6 _ rfl),rfl,s⟩
   intro f w1 vl6 hs9 hd9 hv hr hF s
   obtain ⟨b5,hb5⟩:∃ b,vl6 9=.pointer (some ⟨b,0,none⟩):=hF 9 (by kernel_rfl)
   replace h:=rp (ops:=_) [(16,v11),(17,.pointer (some (a2 vo (d9*68)))),(18,.pointer (some (a2 vo (d9*68)))),(19,.pointer (some (a2 vo (d9*68+0)))),(20,.agg (av (L.getD d9 z3).1.me)),(21,.tuple #[.agg (av (j1 (aR L) (L.getD d9 z3).1.me)),(fL (vl6 5))]),(15,.tuple #[.agg (av (j1 (aR L) (L.getD d9 z3).1.me)),(fL (vl6 5))]),(22,.agg (av (j1 (aR L) (L.getD d9 z3).1.me))),(23,(fL (vl6 5))),(5,.pointer (some ⟨b5,0,none⟩)),(6,(fL (vl6 5)))] h hs9 hd9 hr ⟨(hv 0 16 rfl).trans (hF 0 (by kernel_rfl)),(hv 1 17 rfl).trans (hF 1 (by kernel_rfl)),(hv 2 18 rfl).trans (hF 2 (by kernel_rfl)),(hv 3 19 rfl).trans (hF 3 (by kernel_rfl)),(hv 4 20 rfl).trans (hF 4 (by kernel_rfl)),(hv 5 21 rfl).trans (hF 5 (by kernel_rfl)),(hv 6 15 rfl).trans (hF 6 (by kernel_rfl)),(hv 7 22 rfl).trans (hF 7 (by kernel_rfl)),(hv 8 23 rfl).trans (hF 8 (by kernel_rfl)),(hv 9 5 rfl).trans hb5,(hv 11 6 rfl).trans (hF 11 (by kernel_rfl)),trivial⟩ (by kernel_rfl)
   replace s:St w (.sl (fL (vl6 5)) 28 33 (oL (aR L) (L.getD d9 z3).1.me).length (ar (oL (aR L) (L.getD d9 z3).1.me))::.blk (BZ (vl6 9)) (.cells (av (j1 (aR L) (L.getD d9 z3).1.me)) 28)::.blk lp (.loop (rc .busy))::.blk D9 (.deferred (some []))::.blk b3 (.cells (#[v11]) 36)::.sl v11 28 33 (aR L).length (ar (aR L))::.blk b2 (.cells (#[.bool false]) 4)::.blk b1 (.cells (#[vo]) 24)::R9) _:=s
   rw [hb5] at s
   replace s:St w (.sl (fL (vl6 5)) 28 33 (oL (aR L) (L.getD d9 z3).1.me).length (ar (oL (aR L) (L.getD d9 z3).1.me))::.blk b5 (.cells (av (j1 (aR L) (L.getD d9 z3).1.me)) 28)::.blk lp (.loop (rc .busy))::.blk D9 (.deferred (some []))::.blk b3 (.cells (#[v11]) 36)::.sl v11 28 33 (aR L).length (ar (aR L))::.blk b2 (.cells (#[.bool false]) 4)::.blk b1 (.cells (#[vo]) 24)::R9) _:=s
   refine hK8 _ _ ?_
   refine al fun K9 hK9=>?_
   cases q0:(decide ((L.getD d9 z3).1.pr=(j1 (aR L) (L.getD d9 z3).1.me)):Bool)
   ·skip
    refine bH 15 [[],[0],[0,1],[0,1,2],[],[0,1,2,3,4],[0,1,2,3,4,5],[0,1,2,3,4,5,6],[0,1,2,3,4,5,6,7],[0,1,2,3,4,5,6,7,8],[0,1,2,3,4,5,6,7,8,9],[0,1,2,3,4,5,6],[0,1,2,3,4,5,6,7,8,9,10,11],[0,1,2,3,4,5,6,7,8,9,10,11,12],[0,1,2,3,4,5,6,7,8,9,10,11,12,13]] h (by kernel_rfl) (by kernel_rfl) (by kernel_rfl) ?_
    have hx9:=hb.each _ (bu hdl9)
    refine ao h (ag (h.ev rfl)) rfl ?_;intro f h
    refine ao h (bz (h.ev rfl)) rfl ?_;intro f h
    refine ao h (bL aV (h.ev rfl) ((hO.1.keep s.ext).some (by omega))) rfl ?_;intro f h
    refine bi (bX.elF (hO.1.keep s.ext) (d9) 33 33 (by omega) (by decide) (C:=ay (L.getD d9 z3).1.me (L.getD d9 z3).1.pr (L.getD d9 z3).2.1 (L.getD d9 z3).2.2) (df L d9 hdl9) (D:=av (L.getD d9 z3).1.pr) (bc _ _ _ _)) h aC rfl (aj _) rfl ?_;intro f h
    refine bM 1 h s aC rfl rfl (aj _) rfl ?_;intro f h
    refine ao h (aw (.bool true) (eh (eo _ _) (by kernel_rfl) (by decide) (h.ev rfl) (h.ev rfl) (decide ((L.getD d9 z3).1.pr=(j1 (aR L) (L.getD d9 z3).1.me))) (cR _ _)) (by rw [q0];rfl)) rfl ?_;intro f h
    refine ao h (ag (h.ev rfl)) rfl ?_;intro f h
    refine aX (b:=false) h rfl rfl rfl rfl ?_;intro f h
    refine aX (b:=false) h rfl rfl rfl rfl ?_;intro f h
    refine aX (b:=false) h rfl rfl rfl rfl ?_;intro f h
    refine aX (b:=false) h rfl rfl rfl rfl ?_;intro f h
    refine aX (b:=false) h rfl rfl rfl rfl ?_;intro f h
    refine aX (b:=false) h rfl rfl rfl rfl ?_;intro f h
    refine aX (b:=false) h rfl rfl rfl rfl ?_;intro f h
    refine ao h (aD (h.ev rfl) (h.ev rfl)) rfl ?_;intro f h
    refine ck s fun w1 s=>?_
    refine ah ?_
    refine hK9 _ _ ?_
    refine wpIn_cond_true (h.ev rfl) ?_
    refine al fun K10 hK10=>?_
    refine ae ?_
    refine br 6 h s fl rfl rfl rfl (by simp) (rfl) ?_;intro w1 s
    refine ah ?_
    refine hK10 _ _ ?_
    refine wpIn_ret ?_
    refine bQ ?_
    refine ⟨(Dj q0),_,rfl,s.pick _ ?_⟩
    exact List.Sublist.cons _ (List.Sublist.cons _ (List.Sublist.cons_cons _ (List.Sublist.refl _)))
   ·skip
    cases q1:(decide ((L.getD d9 z3).1.sc=(oL (aR L) (L.getD d9 z3).1.me)):Bool)
    ·skip
     refine bH 15 [[],[0],[0,1],[0,1,2],[],[0,1,2,3,4],[0,1,2,3,4,5],[0,1,2,3,4,5,6],[0,1,2,3,4,5,6,7],[0,1,2,3,4,5,6,7,8],[0,1,2,3,4,5,6,7,8,9],[0,1,2,3,4,5,6],[0,1,2,3,4,5,6,7,8,9,10,11],[0,1,2,3,4,5,6,7,8,9,10,11,12],[0,1,2,3,4,5,6,7,8,9,10,11,12,13]] h (by kernel_rfl) (by kernel_rfl) (by kernel_rfl) ?_
     have hx9:=hb.each _ (bu hdl9)
     refine ao h (ag (h.ev rfl)) rfl ?_;intro f h
     refine ao h (bz (h.ev rfl)) rfl ?_;intro f h
     refine ao h (bL aV (h.ev rfl) ((hO.1.keep s.ext).some (by omega))) rfl ?_;intro f h
     refine bi (bX.elF (hO.1.keep s.ext) (d9) 33 33 (by omega) (by decide) (C:=ay (L.getD d9 z3).1.me (L.getD d9 z3).1.pr (L.getD d9 z3).2.1 (L.getD d9 z3).2.2) (df L d9 hdl9) (D:=av (L.getD d9 z3).1.pr) (bc _ _ _ _)) h aC rfl (aj _) rfl ?_;intro f h
     refine bM 1 h s aC rfl rfl (aj _) rfl ?_;intro f h
     refine ao h (aw (.bool false) (eh (eo _ _) (by kernel_rfl) (by decide) (h.ev rfl) (h.ev rfl) (decide ((L.getD d9 z3).1.pr=(j1 (aR L) (L.getD d9 z3).1.me))) (cR _ _)) (by rw [q0];rfl)) rfl ?_;intro f h
     refine ao h (ag (h.ev rfl)) rfl ?_;intro f h
     refine aT h rfl rfl rfl ?_
     refine ao h (ag (h.ev rfl)) rfl ?_;intro f h
     refine aT h rfl rfl rfl ?_
     refine ao h (bz (h.ev rfl)) rfl ?_;intro f h
     refine aT h rfl rfl rfl ?_
     refine ao h (bL bC (h.ev rfl) ((hO.1.keep s.ext).some (by omega))) rfl ?_;intro f h
     refine aT h rfl rfl rfl ?_
     refine aU (V:=(L.getD d9 z3).2.1) (ez (hO.1.keep s.ext) (d9*68+66) (qv L d9 hdl9)) h bE rfl rfl ?_;intro f h
     refine aT h rfl rfl rfl ?_
     refine ao h (ag (h.ev rfl)) rfl ?_;intro f h
     refine aT h rfl rfl rfl ?_
     refine cn h rJ (fun w9 hE9=>aM (.bool false) (iS (L.getD d9 z3).1.sc (oL (aR L) (L.getD d9 z3).1.me) (L.getD d9 z3).2.1 (fL (vl6 5)) w9 ((hO.2 _ (bu hdl9)).1.keep (s.ext.trans hE9)) ((bX.of_own (s.getSl 0 rfl)).keep hE9) (by omega) (by have:=zi (aR L) (L.getD d9 z3).1.me;omega)) (congrArg Value.bool q1)) rfl rfl ?_;intro f h
     refine aT h rfl rfl rfl ?_
     refine ao h (aw (.bool true) (bB (h.ev rfl)) rfl) rfl ?_;intro f h
     refine ao h (aF (h.ev rfl) (h.ev rfl)) rfl ?_;intro f h
     refine ck s fun w1 s=>?_
     refine ah ?_
     refine hK9 _ _ ?_
     refine wpIn_cond_true (h.ev rfl) ?_
     refine al fun K11 hK11=>?_
     refine ae ?_
     refine br 6 h s fl rfl rfl rfl (by simp) (rfl) ?_;intro w1 s
     refine ah ?_
     refine hK11 _ _ ?_
     refine wpIn_ret ?_
     refine bQ ?_
     refine ⟨((Af q0).trans (by rw [q1];rfl)),_,rfl,s.pick _ ?_⟩
     exact List.Sublist.cons _ (List.Sublist.cons _ (List.Sublist.cons_cons _ (List.Sublist.refl _)))
    ·skip
     refine bH 15 [[],[0],[0,1],[0,1,2],[],[0,1,2,3,4],[0,1,2,3,4,5],[0,1,2,3,4,5,6],[0,1,2,3,4,5,6,7],[0,1,2,3,4,5,6,7,8],[0,1,2,3,4,5,6,7,8,9],[0,1,2,3,4,5,6],[0,1,2,3,4,5,6,7,8,9,10,11],[0,1,2,3,4,5,6,7,8,9,10,11,12],[0,1,2,3,4,5,6,7,8,9,10,11,12,13]] h (by kernel_rfl) (by kernel_rfl) (by kernel_rfl) ?_
     have hx9:=hb.each _ (bu hdl9)
     refine ao h (ag (h.ev rfl)) rfl ?_;intro f h
     refine ao h (bz (h.ev rfl)) rfl ?_;intro f h
     refine ao h (bL aV (h.ev rfl) ((hO.1.keep s.ext).some (by omega))) rfl ?_;intro f h
     refine bi (bX.elF (hO.1.keep s.ext) (d9) 33 33 (by omega) (by decide) (C:=ay (L.getD d9 z3).1.me (L.getD d9 z3).1.pr (L.getD d9 z3).2.1 (L.getD d9 z3).2.2) (df L d9 hdl9) (D:=av (L.getD d9 z3).1.pr) (bc _ _ _ _)) h aC rfl (aj _) rfl ?_;intro f h
     refine bM 1 h s aC rfl rfl (aj _) rfl ?_;intro f h
     refine ao h (aw (.bool false) (eh (eo _ _) (by kernel_rfl) (by decide) (h.ev rfl) (h.ev rfl) (decide ((L.getD d9 z3).1.pr=(j1 (aR L) (L.getD d9 z3).1.me))) (cR _ _)) (by rw [q0];rfl)) rfl ?_;intro f h
     refine ao h (ag (h.ev rfl)) rfl ?_;intro f h
     refine aT h rfl rfl rfl ?_
     refine ao h (ag (h.ev rfl)) rfl ?_;intro f h
     refine aT h rfl rfl rfl ?_
     refine ao h (bz (h.ev rfl)) rfl ?_;intro f h
     refine aT h rfl rfl rfl ?_
     refine ao h (bL bC (h.ev rfl) ((hO.1.keep s.ext).some (by omega))) rfl ?_;intro f h
     refine aT h rfl rfl rfl ?_
     refine aU (V:=(L.getD d9 z3).2.1) (ez (hO.1.keep s.ext) (d9*68+66) (qv L d9 hdl9)) h bE rfl rfl ?_;intro f h
     refine aT h rfl rfl rfl ?_
     refine ao h (ag (h.ev rfl)) rfl ?_;intro f h
     refine aT h rfl rfl rfl ?_
     refine cn h rJ (fun w9 hE9=>aM (.bool true) (iS (L.getD d9 z3).1.sc (oL (aR L) (L.getD d9 z3).1.me) (L.getD d9 z3).2.1 (fL (vl6 5)) w9 ((hO.2 _ (bu hdl9)).1.keep (s.ext.trans hE9)) ((bX.of_own (s.getSl 0 rfl)).keep hE9) (by omega) (by have:=zi (aR L) (L.getD d9 z3).1.me;omega)) (congrArg Value.bool q1)) rfl rfl ?_;intro f h
     refine aT h rfl rfl rfl ?_
     refine ao h (aw (.bool false) (bB (h.ev rfl)) rfl) rfl ?_;intro f h
     refine ao h (aF (h.ev rfl) (h.ev rfl)) rfl ?_;intro f h
     refine ck s fun w1 s=>?_
     refine ah ?_
     refine hK9 _ _ ?_
     refine wpIn_cond_false (h.ev rfl) ?_
     refine wpIn_skip ?_
     refine bF ?_
     refine ⟨((Af q0).trans (by rw [q1];rfl)),_,rfl,s.pick _ ?_⟩
     exact List.Sublist.cons _ (List.Sublist.cons _ (List.Sublist.cons_cons _ (List.Sublist.refl _)))
  ·intro D9 A9 w2 hJ9 hq9 s
   obtain rfl:=hJ9
   replace h:Sl _ {f with defers:={target:=.collected D9,args:=#[]}::f.defers} _ [{target:=.collected D9,args:=#[]}]:=⟨h.size,by rw [h.defers],h.holds⟩
   refine bF ?_
   refine hK6 _ _ ?_
   refine al fun K12 hK12=>?_
   refine ae ?_
   refine br 4 h s fl rfl rfl rfl (by simp) (rfl) ?_;intro w1 s
   refine ah ?_
   refine hK12 _ _ ?_
   refine wpIn_ret ?_
   exact fa 4 0 rfl h s fl rfl rfl rfl rfl rfl (fun w9=>(congrArg Value.bool (yH r0 hq9)).symm)
  ·intro D9 d9 A9 w2 hd9 hqd9 hq9 hJ9 s
   obtain rfl:=hJ9
   replace h:Sl _ {f with defers:={target:=.collected D9,args:=#[]}::f.defers} _ [{target:=.collected D9,args:=#[]}]:=⟨h.size,by rw [h.defers],h.holds⟩
   refine bQ ?_
   refine aY ?_
   exact fa 4 0 rfl h s fl rfl rfl rfl rfl rfl (fun w9=>(congrArg Value.bool (zb r0 hd9 hqd9)).symm)
end Go.Proofs.YthggibfkgofncaaGreat
