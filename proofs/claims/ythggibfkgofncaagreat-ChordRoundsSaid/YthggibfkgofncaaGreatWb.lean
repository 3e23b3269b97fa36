/- Which overlays are stable, by package chord, and who follows whom, by package ring. -/
import Derived.Test.YthggibfkgofncaaGreatWa
import Derived.Test.YthggibfkgofncaaGreatWz
import Derived.Test.YthggibfkgofncaaGreatSh
set_option linter.unusedVariables false
set_option linter.unusedSimpArgs false
set_option linter.unusedSectionVars false
namespace Go.Proofs.YthggibfkgofncaaGreat
open Go.RowKit
theorem o3 (l:List Mb) (vh:Value) (no:Int) (w:World) (hR:bO w vh 33 l.length (am l)) (hln:l.length≤1000):Calls Tryz.prog 115 [vh,.int .i64 no].toArray w (cO w (is (.tuple #[.agg (av (ea l no)),.int .i64 (ff l no)]))):=by
 refine bh Tryz.func115 rfl Tryz.ntmps115 rfl [(0,vh),(1,.int .i64 no)] (by simp) fun f h=>?_
 have s:=St.start w
 refine ak fun K1 hK1=>?_
 refine ag ?_
 refine bi (av ap) h s cF rfl rfl ?_;intro f w1 b4 h s
 refine ac h (aj (h.ev rfl)) rfl ?_;intro f h
 refine ai ?_
 refine hK1 _ _ ?_
 refine ak fun K2 hK2=>?_
 refine ak fun K3 hK3=>?_
 cases hr:(c0 l:Bool)
 ·skip
  refine ag ?_
  refine ac h (ah (h.ev rfl)) rfl ?_;intro f h
  refine aK h s oV (aT (.bool false) (fX l vh _ (hR.keep s.ext) hln) (congrArg Value.bool hr)) rfl rfl ?_;intro f w1 v9 hT hE h s;obtain rfl:=hT
  refine ac h (aE (.bool true) (bI (h.ev rfl)) rfl) rfl ?_;intro f h
  refine ai ?_
  refine hK3 _ _ ?_
  refine wpIn_cond_true (h.ev rfl) ?_
  refine ak fun K4 hK4=>?_
  refine ag ?_
  refine ac h (gf oL) rfl ?_;intro f h
  refine aA 0 h s aJ rfl rfl rfl (al _) (al _) (aX _) ?_;intro w1 s
  refine ac h (aj (h.ev rfl)) rfl ?_;intro f h
  refine ai ?_
  refine hK4 _ _ ?_
  refine wpIn_ret ?_
  refine a8 ?_
  exact bS 0 rfl h s aJ rfl rfl (al _) rfl (by show _=_;rw [(nI no hr).1,(nI no hr).2]<;>rfl)
 ·skip
  refine ag ?_
  refine ac h (ah (h.ev rfl)) rfl ?_;intro f h
  refine aK h s oV (aT (.bool true) (fX l vh _ (hR.keep s.ext) hln) (congrArg Value.bool hr)) rfl rfl ?_;intro f w1 v9 hT hE h s;obtain rfl:=hT
  refine ac h (aE (.bool false) (bI (h.ev rfl)) rfl) rfl ?_;intro f h
  refine ai ?_
  refine hK3 _ _ ?_
  refine wpIn_cond_false (h.ev rfl) ?_
  refine wpIn_skip ?_
  refine hK2 _ _ ?_
  refine ak fun K5 hK5=>?_
  refine ak fun K6 hK6=>?_
  refine ag ?_
  refine ac h (ah (h.ev rfl)) rfl ?_;intro f h
  refine ac h (bK (hR.keep s.ext) Tryz.underlying36 (h.ev rfl)) rfl ?_;intro f h
  refine ac h (ah (h.ev rfl)) rfl ?_;intro f h
  refine ai ?_
  refine hK6 _ _ ?_
  refine wpIn_block ?_
  refine wpIn_loop_ghost (fun nn aa ww=>∃ k:Nat,Sl 25 aa [(0,vh),(1,.int .i64 no),(4,.pointer (some ⟨b4,0,none⟩)),(12,vh),(13,.int .i64 (l.length:Int)),(14,.int .i64 (k:Int))]∧St w [.blk b4 (.cells (av ap) 28)] ww∧nn=l.length - k∧k≤l.length∧∀ j,j<k→decide ((l.getD j ap).1=no)=false) (l.length - (0)) ⟨0,h.only ⟨rfl,rfl,rfl,rfl,rfl,aQ rfl (by omega),trivial⟩,s.as ⟨rfl,trivial⟩,rfl,Nat.zero_le _,fun j hj=>absurd hj (Nat.not_lt_zero _)⟩ ?_
  rintro _ f w1 ⟨k,h,s,hnn,hp0,hp1⟩
  refine ak fun K7 hK7=>?_
  refine ag ?_
  refine ac h (cc (h.ev rfl) (h.ev rfl)) rfl ?_;intro f h
  refine ai ?_
  refine hK7 _ _ ?_
  refine ak fun K8 hK8=>?_
  refine bL h rfl (fun hc=>?_) (fun hc=>?_)
  ·replace hc:=of_decide_eq_true hc
   refine wpIn_skip ?_
   refine hK8 _ _ ?_
   refine ak fun K9 hK9=>?_
   refine wpIn_block ?_
   refine ak fun K10 hK10=>?_
   refine ag ?_
   have hkl:k<l.length:=by omega
   refine ac h (bU (hR.keep s.ext) (k) Tryz.underlying36 cA (h.ev rfl) (h.ev rfl) (by omega) (by omega)) rfl ?_;intro f h
   refine aI ((hR.keep s.ext).el (k) (by omega) (by decide) (D:=av (l.getD k ap)) (cX l k hkl)) h aJ rfl (al _) rfl ?_;intro f h
   refine bi (av ap) h s cF rfl rfl ?_;intro f w1 b7 h s
   refine aA 0 h s aJ rfl rfl rfl (al _) (al _) (aX _) ?_;intro w1 s
   refine ai ?_
   refine hK10 _ _ ?_
   refine ak fun K11 hK11=>?_
   refine ag ?_
   refine ac h (aq aP (h.ev rfl)) rfl ?_;intro f h
   refine aC (ax (bq.of_own s 0 rfl) 0 (aV _)) h bV rfl rfl ?_;intro f h
   refine ac h (ah (h.ev rfl)) rfl ?_;intro f h
   refine ac h (cb (h.ev rfl) (h.ev rfl)) rfl ?_;intro f h
   refine ai ?_
   refine hK11 _ _ ?_
   refine bL h rfl (fun hc=>?_) (fun hc=>?_)
   ·refine ak fun K12 hK12=>?_
    refine ag ?_
    refine ay 0 h s aJ rfl rfl (al _) rfl ?_;intro f h
    refine aA 1 h s aJ rfl rfl rfl (al _) (al _) (aX _) ?_;intro w1 s
    refine ac h (aj (h.ev rfl)) rfl ?_;intro f h
    refine ai ?_
    refine hK12 _ _ ?_
    refine wpIn_ret ?_
    refine bT ?_
    refine a8 ?_
    refine a8 ?_
    refine bT ?_
    refine a8 ?_
    exact bS 1 rfl h s aJ rfl rfl (al _) rfl (by show _=_;rw [(ju hr (lh hkl hp1 hc)).1,(ju hr (lh hkl hp1 hc)).2]<;>rfl)
   ·refine wpIn_skip ?_
    refine bH ?_
    refine hK9 _ _ ?_
    refine ag ?_
    refine ac h (cp (h.ev rfl) (h.ev rfl) (by omega)) rfl ?_;intro f h
    refine ac h (ah (h.ev rfl)) rfl ?_;intro f h
    refine ai ?_
    refine ca ?_
    exact ⟨_,by omega,⟨k+1,h.only ⟨rfl,rfl,rfl,rfl,rfl,aQ rfl (by omega),trivial⟩,St.as (s.pick _ (List.sublist_append_right [_] _)) ⟨rfl,trivial⟩,rfl,by omega,d1 (q:=fun j=>decide ((l.getD j ap).1=no)) hp1 hc⟩⟩
  ·replace hc:=of_decide_eq_false hc
   refine wpIn_exit ?_
   refine bN ?_
   refine bN ?_
   refine cG ?_
   refine hK5 _ _ ?_
   refine ak fun K13 hK13=>?_
   refine ag ?_
   refine ac h (gf oL) rfl ?_;intro f h
   refine aA 0 h s aJ rfl rfl rfl (al _) (al _) (aX _) ?_;intro w1 s
   refine ac h (aj (h.ev rfl)) rfl ?_;intro f h
   refine ai ?_
   refine hK13 _ _ ?_
   refine wpIn_ret ?_
   exact bS 0 rfl h s aJ rfl rfl (al _) rfl (by show _=_;rw [(lR hr (lf (by omega) hp1)).1,(lR hr (lf (by omega) hp1)).2]<;>rfl)
theorem m5 (x9:Id) (w:World):Calls Tryz.prog 117 [gI x9].toArray w (cO w (fun v w9=>∃ bx,v=.func (.func 137) #[] #[.pointer (some ⟨bx,0,none⟩)]∧gy w9 bx (bD x9))):=by
 refine bh Tryz.func117 rfl Tryz.ntmps117 rfl [(0,gI x9)] (by simp) fun f h=>?_
 have s:=St.start w
 refine ak fun K1 hK1=>?_
 refine ag ?_
 refine bR (bD x9) h s rfl rfl rfl ?_;intro f w1 b1 h s
 refine ac h (aj (h.ev rfl)) rfl ?_;intro f h
 refine ai ?_
 refine hK1 _ _ ?_
 refine ak fun K2 hK2=>?_
 refine ag ?_
 refine ac h (dg [.pointer (some ⟨b1,0,none⟩)] (jX h rfl)) rfl ?_;intro f h
 refine ac h (aj (h.ev rfl)) rfl ?_;intro f h
 refine ai ?_
 refine hK2 _ _ ?_
 refine wpIn_ret ?_
 exact bu rfl h s rfl (⟨b1,rfl,gy.of_own s 0 rfl⟩)
theorem ma (x y:Mb) (x9:Id) (bx:Nat) (w:World) (hb:gy w bx (bD x9)):Calls Tryz.prog 137 [.agg (av x),.agg (av y),.pointer (some ⟨bx,0,none⟩)].toArray w (cO w (is (.int .i64 (gd (x.2 - x9) (y.2 - x9))))):=by
 refine bh Tryz.func137 rfl Tryz.ntmps137 rfl [(0,.agg (av x)),(1,.agg (av y)),(2,.pointer (some ⟨bx,0,none⟩))] (by simp) fun f h=>?_
 have s:=St.start w
 refine ak fun K1 hK1=>?_
 refine ag ?_
 refine bR ((av x)) h s rfl rfl rfl ?_;intro f w1 b3 h s
 refine bR ((av y)) h s rfl rfl rfl ?_;intro f w1 b4 h s
 refine ac h (aj (h.ev rfl)) rfl ?_;intro f h
 refine ai ?_
 refine hK1 _ _ ?_
 refine ak fun K2 hK2=>?_
 refine bG 10 [[],[],[1],[0,1,2],[],[],[5],[0,1,2,3,4,5,6],[0,1,2,3,4,5,6,7],[0,1,2,3,4,5,6,7,8]] h (by kernel_rfl) (by kernel_rfl) (by kernel_rfl) ?_
 refine bg (bq.subL (bq.of_tab (hb.keep s.ext)) 0 32 (D:=bD x9) (mK _)) h cq rfl (by first|exact aR _|exact aM _ _) rfl ?_;intro f h
 refine ao h (aq ce (h.ev rfl)) rfl ?_;intro f h
 refine bg (bq.subL (bq.of_own s 1 rfl) 1 32 (D:=bD (_)) (co _)) h cq rfl (by first|exact aR _|exact aM _ _) rfl ?_;intro f h
 refine cm h nm (fun w9 hE9=>li _ _ w9) rfl rfl ?_;intro f h
 refine bg (bq.subL (bq.of_tab (hb.keep s.ext)) 0 32 (D:=bD x9) (mK _)) h cq rfl (by first|exact aR _|exact aM _ _) rfl ?_;intro f h
 refine ao h (aq ce (h.ev rfl)) rfl ?_;intro f h
 refine bg (bq.subL (bq.of_own s 0 rfl) 1 32 (D:=bD (_)) (co _)) h cq rfl (by first|exact aR _|exact aM _ _) rfl ?_;intro f h
 refine cm h nm (fun w9 hE9=>li _ _ w9) rfl rfl ?_;intro f h
 refine cm h vt (fun w9 hE9=>j3 _ _ w9) rfl rfl ?_;intro f h
 refine ao h (aj (h.ev rfl)) rfl ?_;intro f h
 refine cn s fun w1 s=>?_
 refine ai ?_
 refine hK2 _ _ ?_
 refine wpIn_ret ?_
 exact bu rfl h s rfl (rfl)
theorem tS (l:List Mb) (vh:Value) (x9:Id) (bx:Nat) (w:World) (hR:bO w vh 33 l.length (am l)) (hln:l.length≤1000) (hb:gy w bx (bD x9)) (h0:0<l.length):Calls Tryz.prog 116 [vh,.func (.func 137) #[] #[.pointer (some ⟨bx,0,none⟩)]].toArray w (cO w (is (.agg (av (kI (nz x9) l (l.length - 1)))))):=by
 refine bh Tryz.func116 rfl Tryz.ntmps116 rfl [(0,vh),(1,.func (.func 137) #[] #[.pointer (some ⟨bx,0,none⟩)])] (by simp) fun f h=>?_
 have s:=St.start w
 refine ak fun K1 hK1=>?_
 refine ag ?_
 refine bi (av ap) h s cF rfl rfl ?_;intro f w1 b4 h s
 refine ai ?_
 refine hK1 _ _ ?_
 refine ak fun K2 hK2=>?_
 refine ak fun K3 hK3=>?_
 refine ag ?_
 refine ac h (ah (h.ev rfl)) rfl ?_;intro f h
 refine ac h (bK (hR.keep s.ext) Tryz.underlying36 (h.ev rfl)) rfl ?_;intro f h
 refine ac h (cc (h.ev rfl) (h.ev rfl)) rfl ?_;intro f h
 refine ai ?_
 refine hK3 _ _ ?_
 refine bL h rfl (fun hc=>?_) (fun hc=>?_)
 ·replace hc:=of_decide_eq_true hc
  exfalso;omega
 ·refine wpIn_skip ?_
  refine hK2 _ _ ?_
  refine ak fun K4 hK4=>?_
  refine ag ?_
  refine ac h (ah (h.ev rfl)) rfl ?_;intro f h
  refine ac h (bU (hR.keep s.ext) (0) Tryz.underlying36 cA (h.ev rfl) (h.ev rfl) (by omega) (by omega)) rfl ?_;intro f h
  refine aI ((hR.keep s.ext).el (0) (by omega) (by decide) (D:=av (l.getD 0 ap)) (cX l 0 h0)) h aJ rfl (al _) rfl ?_;intro f h
  refine bi (av ap) h s cF rfl rfl ?_;intro f w1 b5 h s
  refine aA 0 h s aJ rfl rfl rfl (al _) (al _) (aX _) ?_;intro w1 s
  refine ai ?_
  refine hK4 _ _ ?_
  refine ak fun K5 hK5=>?_
  refine ak fun K6 hK6=>?_
  refine ag ?_
  refine ac h (aj (h.ev rfl)) rfl ?_;intro f h
  refine ai ?_
  refine hK6 _ _ ?_
  refine wpIn_block ?_
  refine wpIn_loop_ghost (fun nn aa ww=>∃ k:Nat,Sl 33 aa [(0,vh),(4,.pointer (some ⟨b4,0,none⟩)),(5,.pointer (some ⟨b5,0,none⟩)),(1,.func (.func 137) #[] #[.pointer (some ⟨bx,0,none⟩)]),(6,.int .i64 ((k:Int)+1))]∧St w [.blk b5 (.cells (av (kI (nz x9) l k)) 28),.blk b4 (.cells (av ap) 28)] ww∧nn=l.length - k∧k+1≤l.length) (l.length - (0)) ⟨0,h.only ⟨rfl,rfl,rfl,rfl,rfl,trivial⟩,s.as ⟨rfl,rfl,trivial⟩,rfl,by omega⟩ ?_
  rintro _ f w1 ⟨k,h,s,hnn,hp0⟩
  refine ak fun K7 hK7=>?_
  refine ak fun K8 hK8=>?_
  refine ag ?_
  refine ac h (ah (h.ev rfl)) rfl ?_;intro f h
  refine ac h (ah (h.ev rfl)) rfl ?_;intro f h
  refine ac h (bK (hR.keep s.ext) Tryz.underlying36 (h.ev rfl)) rfl ?_;intro f h
  refine ac h (cc (h.ev rfl) (h.ev rfl)) rfl ?_;intro f h
  refine ai ?_
  refine hK8 _ _ ?_
  refine bL h rfl (fun hc=>?_) (fun hc=>?_)
  ·replace hc:=of_decide_eq_true hc
   refine wpIn_skip ?_
   refine hK7 _ _ ?_
   refine ak fun K9 hK9=>?_
   refine wpIn_block ?_
   refine ak fun K10 hK10=>?_
   refine bG 8 [[],[],[],[1,2],[1,2,3],[],[0,1,2,3,4,5],[0,1,2,3,4,5,6]] h (by kernel_rfl) (by kernel_rfl) (by kernel_rfl) ?_
   refine ao h (ah (h.ev rfl)) rfl ?_;intro f h
   refine ao h (ah (h.ev rfl)) rfl ?_;intro f h
   have hkl:k+1<l.length:=by omega
   refine ao h (ah (h.ev rfl)) rfl ?_;intro f h
   refine ao h (bU (hR.keep s.ext) (k+1) Tryz.underlying36 cA (h.ev rfl) (h.ev rfl) (by omega) (by omega)) rfl ?_;intro f h
   refine bg ((hR.keep s.ext).el (k+1) (by omega) (by decide) (D:=av (l.getD (k+1) ap)) (cX l (k+1) hkl)) h aJ rfl (al _) rfl ?_;intro f h
   refine bC 0 h s aJ rfl rfl (al _) rfl ?_;intro f h
   refine og [.agg (av (l.getD (k+1) ap)),.agg (av (kI (nz x9) l k))] (caps:=[.pointer (some ⟨bx,0,none⟩)]) h Ak rfl (fun w9 h9=>ma _ _ x9 bx w9 (hb.keep (s.ext.trans h9))) rfl rfl ?_;intro f h
   refine ao h (aE (.bool (decide (fd x9 (kI (nz x9) l k).2<fd x9 (l.getD (k+1) ap).2))) (f7 (h.ev rfl) (h.ev rfl)) (congrArg Value.bool (yi _ _ _))) rfl ?_;intro f h
   refine cn s fun w1 s=>?_
   refine ai ?_
   refine hK10 _ _ ?_
   refine bL h rfl (fun hc=>?_) (fun hc=>?_)
   ·replace hc:=of_decide_eq_true hc
    refine ag ?_
    refine ac h (ah (h.ev rfl)) rfl ?_;intro f h
    refine ac h (ah (h.ev rfl)) rfl ?_;intro f h
    refine ac h (bU (hR.keep s.ext) (k+1) Tryz.underlying36 cA (h.ev rfl) (h.ev rfl) (by omega) (by omega)) rfl ?_;intro f h
    refine aI ((hR.keep s.ext).el (k+1) (by omega) (by decide) (D:=av (l.getD (k+1) ap)) (cX l (k+1) hkl)) h aJ rfl (al _) rfl ?_;intro f h
    refine aA 0 h s aJ rfl rfl rfl (al _) (al _) (aX _) ?_;intro w1 s
    refine ai ?_
    refine bH ?_
    refine hK9 _ _ ?_
    refine ag ?_
    refine ac h (ah (h.ev rfl)) rfl ?_;intro f h
    refine ac h (cp (h.ev rfl) (h.ev rfl) (by omega)) rfl ?_;intro f h
    refine ac h (aj (h.ev rfl)) rfl ?_;intro f h
    refine ai ?_
    refine ca ?_
    exact ⟨_,by omega,⟨k+1,h.only ⟨rfl,rfl,rfl,rfl,aQ rfl (by omega),trivial⟩,St.as s ⟨g4 (congrArg av (xt (f:=nz x9) hc).symm),rfl,trivial⟩,rfl,by omega⟩⟩
   ·replace hc:=of_decide_eq_false hc
    refine wpIn_skip ?_
    refine bH ?_
    refine hK9 _ _ ?_
    refine ag ?_
    refine ac h (ah (h.ev rfl)) rfl ?_;intro f h
    refine ac h (cp (h.ev rfl) (h.ev rfl) (by omega)) rfl ?_;intro f h
    refine ac h (aj (h.ev rfl)) rfl ?_;intro f h
    refine ai ?_
    refine ca ?_
    exact ⟨_,by omega,⟨k+1,h.only ⟨rfl,rfl,rfl,rfl,aQ rfl (by omega),trivial⟩,St.as s ⟨g4 (congrArg av (Bi (f:=nz x9) hc).symm),rfl,trivial⟩,rfl,by omega⟩⟩
  ·replace hc:=of_decide_eq_false hc
   refine wpIn_exit ?_
   refine bN ?_
   refine bN ?_
   refine cG ?_
   refine hK5 _ _ ?_
   refine ak fun K11 hK11=>?_
   refine ag ?_
   refine ay 0 h s aJ rfl rfl (al _) rfl ?_;intro f h
   refine aA 1 h s aJ rfl rfl rfl (al _) (al _) (aX _) ?_;intro w1 s
   refine ai ?_
   refine hK11 _ _ ?_
   refine wpIn_ret ?_
   exact eP 1 rfl h s aJ rfl rfl (al _) ((by obtain rfl:k=l.length - 1:=(by omega);exact rfl))
theorem qE (l:List Mb) (vh:Value) (no:Int) (w:World) (hR:bO w vh 33 l.length (am l)) (hln:l.length≤1000):Calls Tryz.prog 84 [vh,.int .i64 no].toArray w (cO w (is (.tuple #[.agg (av (sn l no)),.int .i64 (ff l no)]))):=by
 refine bh Tryz.func84 rfl Tryz.ntmps84 rfl [(0,vh),(1,.int .i64 no)] (by simp) fun f h=>?_
 have s:=St.start w
 refine ak fun K1 hK1=>?_
 refine ag ?_
 refine bi (av ap) h s cF rfl rfl ?_;intro f w1 b4 h s
 refine ac h (aj (h.ev rfl)) rfl ?_;intro f h
 refine ai ?_
 refine hK1 _ _ ?_
 refine ak fun K2 hK2=>?_
 refine ag ?_
 refine ac h (ah (h.ev rfl)) rfl ?_;intro f h
 refine ac h (ah (h.ev rfl)) rfl ?_;intro f h
 refine aK h s tM (o3 l vh no _ (hR.keep s.ext) hln) rfl rfl ?_;intro f w1 v9 hT hE h s;obtain rfl:=hT
 refine ac h (ah (h.ev rfl)) rfl ?_;intro f h
 refine ac h (aW (h.ev rfl) rfl) rfl ?_;intro f h
 refine ac h (aW (h.ev rfl) rfl) rfl ?_;intro f h
 refine bi (av ap) h s cF rfl rfl ?_;intro f w1 b6 h s
 refine aA 0 h s aJ rfl rfl rfl (al _) (al _) (aX _) ?_;intro w1 s
 refine ac h (aj (h.ev rfl)) rfl ?_;intro f h
 refine ai ?_
 refine hK2 _ _ ?_
 refine ak fun K3 hK3=>?_
 refine ak fun K4 hK4=>?_
 refine ag ?_
 refine ac h (ah (h.ev rfl)) rfl ?_;intro f h
 refine ac h (cJ (h.ev rfl) (h.ev rfl)) rfl ?_;intro f h
 refine ai ?_
 refine hK4 _ _ ?_
 refine bL h rfl (fun hc=>?_) (fun hc=>?_)
 ·have h0:¬ ff l no=0:=by simpa using hc
  refine ak fun K5 hK5=>?_
  refine ag ?_
  refine ac h (gf oL) rfl ?_;intro f h
  refine ac h (ah (h.ev rfl)) rfl ?_;intro f h
  refine aA 1 h s aJ rfl rfl rfl (al _) (al _) (aX _) ?_;intro w1 s
  refine ac h (aj (h.ev rfl)) rfl ?_;intro f h
  refine ai ?_
  refine hK5 _ _ ?_
  refine wpIn_ret ?_
  refine a8 ?_
  exact bS 1 rfl h s aJ rfl rfl (al _) rfl (by show _=_;rw [AD h0]<;>rfl)
 ·have h0:ff l no=0:=by simpa using hc
  obtain ⟨hr,hg,hf,hm,hno⟩:=wo h0
  refine wpIn_skip ?_
  refine hK3 _ _ ?_
  refine ak fun K6 hK6=>?_
  refine ag ?_
  refine ac h (ah (h.ev rfl)) rfl ?_;intro f h
  refine ac h (aq ce (h.ev rfl)) rfl ?_;intro f h
  refine aI (bq.subL (bq.of_own s 0 rfl) 1 32 (D:=bD (_)) (co _)) h cq rfl (by first|exact aR _|exact aM _ _) rfl ?_;intro f h
  refine aK h s vM (m5 (ea l no).2 _) rfl rfl ?_;rintro f w1 v21 ⟨bx,rfl,hbx⟩ hE h s
  refine aK h s Ax (tS l vh (ea l no).2 bx _ (hR.keep s.ext) hln hbx (js hm)) rfl rfl ?_;intro f w1 v9 hT hE h s;obtain rfl:=hT
  refine aA 1 h s aJ rfl rfl rfl (al _) (al _) (aX _) ?_;intro w1 s
  refine ac h (aj (h.ev rfl)) rfl ?_;intro f h
  refine ai ?_
  refine hK6 _ _ ?_
  refine wpIn_ret ?_
  exact bS 1 rfl h s aJ rfl rfl (al _) rfl (by show _=_;rw [tX h0,h0]<;>rfl)
theorem sy (a9:Option Addr) (n9 c9:Nat) (w:World):Calls Tryz.prog 99 [.slice a9 n9 c9].toArray w (cO w (fun v w9=>∃ bx,v=.func (.func 130) #[] #[.pointer (some ⟨bx,0,none⟩)]∧gy w9 bx #[.slice a9 n9 c9])):=by
 refine bh Tryz.func99 rfl Tryz.ntmps99 rfl [(0,.slice a9 n9 c9)] (by simp) fun f h=>?_
 have s:=St.start w
 refine ak fun K1 hK1=>?_
 refine ag ?_
 refine bR (#[.slice a9 n9 c9]) h s rfl rfl rfl ?_;intro f w1 b1 h s
 refine ac h (aj (h.ev rfl)) rfl ?_;intro f h
 refine ai ?_
 refine hK1 _ _ ?_
 refine ak fun K2 hK2=>?_
 refine ag ?_
 refine ac h (dg [.pointer (some ⟨b1,0,none⟩)] (jX h rfl)) rfl ?_;intro f h
 refine ac h (aj (h.ev rfl)) rfl ?_;intro f h
 refine ai ?_
 refine hK2 _ _ ?_
 refine wpIn_ret ?_
 exact bu rfl h s rfl (⟨b1,rfl,gy.of_own s 0 rfl⟩)
theorem qc (l:List Mb) (vh:Value) (w:World) (hR:bO w vh 33 l.length (am l)):Calls Tryz.prog 99 [vh].toArray w (cO w (fun v w9=>∃ bx,v=.func (.func 130) #[] #[.pointer (some ⟨bx,0,none⟩)]∧gy w9 bx #[vh])):=by
 obtain ⟨a,c,rfl⟩:=hR.len
 exact sy a _ c w
theorem sV (l:List Mb) (hln:l.length≤1000) (vh:Value) (lp bx:Nat) (q:Nat→Bool) (GG:Nat→Own→Prop) (g0:Own) (w0 w:World) (s:St w0 [g0] w) (hb:gy w0 bx #[vh]) (hg0:GG 0 g0) (hR:bO w0 vh 33 l.length (am l)) (hY:∀ (d:Nat) (B9:List Own) (w9:World) (i:Nat) (g:Own),d<l.length→(∀ j,j<d→q j=false)→GG d g→St w0 B9 w9→B9[i]? = some g→gS Tryz.prog lp [Value.agg (av (l.getD d ap))].toArray w9 (fun v w2=>v=.bool (!q d)∧∃ g',GG (d+1) g'∧St w0 (B9.set i g') w2)):Calls Tryz.prog 130 [.func (.yield lp) #[] #[],.pointer (some ⟨bx,0,none⟩)].toArray w (fun e w9=>(∃ v,e=.returned v)∧∃ d g,GG d g∧St w0 ([]++[g]) w9∧d≤l.length∧(∀ j,j+1<d→q j=false)∧(lq q d=false→d=l.length)):=by
 refine dT Tryz.func130 rfl Tryz.ntmps130 rfl [(0,.func (.yield lp) #[] #[]),(1,.pointer (some ⟨bx,0,none⟩))] (by simp) fun f h=>?_
 refine ak fun K1 hK1=>?_
 refine ag ?_
 refine aC (V:=vh) (ax (bq.of_tab (hb.keep s.ext)) 0 (rfl)) h cf rfl rfl ?_;intro f h
 refine ac h (bK (hR.keep s.ext) Tryz.underlying36 (h.ev rfl)) rfl ?_;intro f h
 refine ac h (ah (h.ev rfl)) rfl ?_;intro f h
 refine ai ?_
 refine hK1 _ _ ?_
 refine wpIn_block ?_
 refine wpIn_loop_ghost (fun nn aa ww=>∃ d:Nat,∃ gg:Own,Sl 16 aa [(0,.func (.yield lp) #[] #[]),(5,vh),(6,.int .i64 (l.length:Int)),(7,.int .i64 (d:Int))]∧St w0 [(gg)] ww∧nn=l.length - d∧d≤l.length∧GG d gg∧∀ j,j<d→q j=false) (l.length - (0)) ⟨0,g0,h.only ⟨rfl,rfl,rfl,aQ rfl (by omega),trivial⟩,s.as ⟨rfl,trivial⟩,rfl,Nat.zero_le _,hg0,fun j hj=>absurd hj (Nat.not_lt_zero _)⟩ ?_
 rintro _ f w1 ⟨d,gg,h,s,hnn,hp0,hp1,hp2⟩
 refine ak fun K2 hK2=>?_
 refine ag ?_
 refine ac h (cc (h.ev rfl) (h.ev rfl)) rfl ?_;intro f h
 refine ai ?_
 refine hK2 _ _ ?_
 refine ak fun K3 hK3=>?_
 refine bL h rfl (fun hc=>?_) (fun hc=>?_)
 ·replace hc:=of_decide_eq_true hc
  refine wpIn_skip ?_
  refine hK3 _ _ ?_
  refine ak fun K4 hK4=>?_
  refine wpIn_block ?_
  refine ak fun K5 hK5=>?_
  refine ag ?_
  have hdl:d<l.length:=by omega
  refine ac h (bU (hR.keep s.ext) (d) Tryz.underlying36 cA (h.ev rfl) (h.ev rfl) (by omega) (by omega)) rfl ?_;intro f h
  refine aI ((hR.keep s.ext).el (d) (by omega) (by decide) (D:=av (l.getD d ap)) (cX l d hdl)) h aJ rfl (al _) rfl ?_;intro f h
  refine bi (av ap) h s cF rfl rfl ?_;intro f w1 b4 h s
  refine aA 0 h s aJ rfl rfl rfl (al _) (al _) (aX _) ?_;intro w1 s
  refine ai ?_
  refine hK5 _ _ ?_
  refine ak fun K6 hK6=>?_
  cases hq:(q d:Bool)
  ·skip
   refine ag ?_
   refine ac h (ah (h.ev rfl)) rfl ?_;intro f h
   refine ay 0 h s aJ rfl rfl (al _) rfl ?_;intro f h
   refine eO (V:=.bool true) (G:=GG (d+1)) [.agg (av (l.getD d ap))] 1 h rfl rfl (by have h9:=hY d _ _ 1 gg hdl hp2 hp1 s rfl;rw [hq] at h9;exact h9) rfl ?_;intro f w1 g1 hg1 h s
   refine ac h (aE (.bool false) (bI (h.ev rfl)) rfl) rfl ?_;intro f h
   refine ai ?_
   refine hK6 _ _ ?_
   refine wpIn_cond_false (h.ev rfl) ?_
   refine wpIn_skip ?_
   refine bH ?_
   refine hK4 _ _ ?_
   refine ag ?_
   refine ac h (cp (h.ev rfl) (h.ev rfl) (by omega)) rfl ?_;intro f h
   refine ac h (ah (h.ev rfl)) rfl ?_;intro f h
   refine ai ?_
   refine ca ?_
   exact ⟨_,by omega,⟨d+1,g1,h.only ⟨rfl,rfl,rfl,aQ rfl (by omega),trivial⟩,St.as (s.pick _ (List.sublist_append_right [_] _)) ⟨rfl,trivial⟩,rfl,by omega,hg1,d1 hp2 hq⟩⟩
  ·skip
   refine ag ?_
   refine ac h (ah (h.ev rfl)) rfl ?_;intro f h
   refine ay 0 h s aJ rfl rfl (al _) rfl ?_;intro f h
   refine eO (V:=.bool false) (G:=GG (d+1)) [.agg (av (l.getD d ap))] 1 h rfl rfl (by have h9:=hY d _ _ 1 gg hdl hp2 hp1 s rfl;rw [hq] at h9;exact h9) rfl ?_;intro f w1 g1 hg1 h s
   refine ac h (aE (.bool true) (bI (h.ev rfl)) rfl) rfl ?_;intro f h
   refine ai ?_
   refine hK6 _ _ ?_
   refine wpIn_cond_true (h.ev rfl) ?_
   refine wpIn_ret ?_
   refine bT ?_
   refine a8 ?_
   refine a8 ?_
   refine bT ?_
   exact jw rfl h (⟨⟨_,rfl⟩,d+1,g1,hg1,s.pick _ (List.sublist_cons_self _ _),by omega,fun j hj=>hp2 j (by omega),fun h9=>absurd (hq.symm.trans h9) (by decide)⟩)
 ·replace hc:=of_decide_eq_false hc
  refine wpIn_exit ?_
  refine bN ?_
  refine bN ?_
  refine cG ?_
  exact dA rfl h (⟨⟨_,rfl⟩,d,gg,hp1,s,hp0,fun j hj=>hp2 j (by omega),fun _=>by omega⟩)
theorem qe (l:List Mb) (vh:Value) (bx:Nat) (w:World) (hR:bO w vh 33 l.length (am l)) (hln:l.length≤1000) (hb:gy w bx #[vh]):Calls Tryz.prog 151 [(.slice none 0 0),.func (.func 130) #[] #[.pointer (some ⟨bx,0,none⟩)]].toArray w (cO w (fun v w'=>cH w' w.heap.size 28 33 v l.length (am l))):=by
 refine dZ Tryz.func151 rfl Tryz.ntmps151 rfl [(0,(.slice none 0 0)),(1,.func (.func 130) #[] #[.pointer (some ⟨bx,0,none⟩)])] (by simp) fun f h=>?_
 have s:=St.start w
 refine ak fun K1 hK1=>?_
 refine ag ?_
 refine bR (#[(.slice none 0 0)]) h s rfl rfl rfl ?_;intro f w1 b2 h s
 replace s:=s.nilSl 28 33
 refine ac h (aj (h.ev rfl)) rfl ?_;intro f h
 refine ai ?_
 refine hK1 _ _ ?_
 refine ak fun K2 hK2=>?_
 refine ak fun K3 hK3=>?_
 refine ag ?_
 refine ac h (ah (h.ev rfl)) rfl ?_;intro f h
 refine ai ?_
 refine hK3 _ _ ?_
 refine wpIn_block ?_
 refine dJ (fun d A9=>∃ v8:Value,A9=[.sl v8 28 33 (l.take d).length (am (l.take d)),.blk b2 (.cells #[v8] 36)]) [.sl (.slice none 0 0) 28 33 0 [],.blk b2 (.cells #[(.slice none 0 0)] 36)] [] (l.length) (fun _=>false) (fun d=>[Value.agg (av (l.getD d ap))]) h s rfl nG (List.Perm.refl _) (⟨_,rfl⟩) (fun _=>rfl) ?_ ?_ ?_ ?_
 ·intro lp w2 GG g0 hg0 s2 hY;exact sV l hln vh lp bx (fun _=>false) GG g0 w w2 s2 hb hg0 hR hY
 ·intro lp D9 d9 rc R9 A9 w2 hd9 hq9 hJ9 s
  obtain ⟨v8,rfl⟩:=hJ9
  have h:=Sl.round1 (p:=7) (V:=.agg (av (l.getD d9 ap))) h rfl
  refine ag ?_
  refine bi (av ap) h s cF rfl rfl ?_;intro f w1 b5 h s
  refine aA 0 h s aJ rfl rfl rfl (al _) (al _) (aX _) ?_;intro w1 s
  refine ai ?_
  refine ca ?_
  refine ⟨_,s.perm (List.perm_middle (l₁:=[_])),fun w3 s=>?_⟩
  refine wpIn_block ?_
  refine ag ?_
  refine bX 4 h s cf rfl rfl (rfl) rfl ?_;intro f h
  refine ay 1 h s aJ rfl rfl (al _) rfl ?_;intro f h
  refine cW (vs:=[.agg (av (l.getD d9 ap))]) [.tmp 9] h s Tryz.underlying36 dY rfl rfl (jb _) rfl rfl rfl ?_;intro f w1 v10 h s
  refine eR 4 0 h s Tryz.underlying36 dY rfl rfl rfl rfl (by decide) (by rw [eY];exact aX _) (by rw [List.length_take];unfold maxLen;omega) (by rw [List.length_take];omega) rfl ?_;intro f w1 v11 h s
  replace s:=s.pick _ (List.sublist_cons_self _ _)
  refine bk 4 h s cf rfl rfl rfl (by simp) (bo (s.getSl 3 rfl)) ?_;intro w1 s
  refine ai ?_
  refine bH ?_
  replace s:=s.resl (m:=(l.take (d9+1)).length) (ys:=am (l.take (d9+1))) 3 rfl (by rw [kF hd9,List.length_append];rfl) (by rw [kF hd9,eY,k4])
  refine ⟨rfl,_,⟨v11,rfl⟩,s.pick _ ?_⟩
  exact List.Sublist.cons_cons _ (List.Sublist.cons _ (List.Sublist.refl _))
 ·intro D9 A9 w2 hJ9 hq9 s
  obtain ⟨v8,rfl⟩:=hJ9
  replace h:Sl _ {f with defers:={target:=.collected D9,args:=#[]}::f.defers} _ [{target:=.collected D9,args:=#[]}]:=⟨h.size,by rw [h.defers],h.holds⟩
  rw [List.take_length] at s
  refine bH ?_
  refine hK2 _ _ ?_
  refine ak fun K4 hK4=>?_
  refine ag ?_
  refine bX 2 h s cf rfl rfl (rfl) rfl ?_;intro f h
  replace s:=s.nilSl 28 33
  refine ac h (aj (h.ev rfl)) rfl ?_;intro f h
  refine ai ?_
  refine hK4 _ _ ?_
  refine wpIn_ret ?_
  exact lx 1 rfl h s rfl rfl (fun w9 s9=>s9.getSl 2 rfl)
 ·intro D9 d9 A9 w2 hd9 hqd9 hq9 hJ9 s
  cases hqd9
theorem pi (l:List Mb) (vh:Value) (bx:Nat) (w:World) (hR:bO w vh 33 l.length (am l)) (hln:l.length≤1000) (hb:gy w bx #[vh]):Calls Tryz.prog 147 [.func (.func 130) #[] #[.pointer (some ⟨bx,0,none⟩)]].toArray w (cO w (fun v w'=>cH w' w.heap.size 28 33 v l.length (am l))):=by
 refine bh Tryz.func147 rfl Tryz.ntmps147 rfl [(0,.func (.func 130) #[] #[.pointer (some ⟨bx,0,none⟩)])] (by simp) fun f h=>?_
 have s:=St.start w
 refine ak fun K1 hK1=>?_
 refine ag ?_
 refine ac h (aj (h.ev rfl)) rfl ?_;intro f h
 refine ai ?_
 refine hK1 _ _ ?_
 refine ak fun K2 hK2=>?_
 refine ag ?_
 refine ac h (ah (h.ev rfl)) rfl ?_;intro f h
 refine aK h s z7 (qe l vh bx _ (hR.keep s.ext) hln (hb.keep s.ext)) rfl rfl ?_;intro f w1 v4 hT hE h sq;replace s:=s.sl_new hE hT
 refine ac h (aj (h.ev rfl)) rfl ?_;intro f h
 refine ai ?_
 refine hK2 _ _ ?_
 refine wpIn_ret ?_
 exact bu rfl h s rfl ((s.getSl 0 rfl))
theorem uG (l:List Mb) (hg:Rg l) (x9:Id) (v:Value) (bx:Nat) (B9:List Own) (w0 w:World) (s:St w0 (.sl v 28 33 l.length (am l)::B9) w) (hb:gy w0 bx (bD x9)):
 Calls Tryz.prog 148 [v,.func (.func 137) #[] #[.pointer (some ⟨bx,0,none⟩)]].toArray w (fun e w'=>∃ r,e=.returned r∧St w0 (.sl v 28 33 l.length (am (eg x9 l))::B9) w'):=by
 by_cases h0:l.length=0
 ·have hl:l=[]:=List.eq_nil_of_length_eq_zero h0
  subst hl
  obtain ⟨a,c,rfl⟩:=dK (s.getSl 0 rfl)
  refine(Go.Proofs.AnyF.slices_SortFunc_none (P:=Tryz.prog) (ρ:=Tryz.layG_ren) Tryz.layG a c (.func (.func 137) #[] #[.pointer (some ⟨bx,0,none⟩)]) w).mono ?_
  rintro e w' ⟨rfl,rfl⟩
  refine ⟨_,rfl,?_⟩
  rw [xY]
  exact s
 ·obtain ⟨g,cap,rfl,hlt,hgo,hH,hst⟩:=wP s rfl (by omega)
  have hT:∀ m os d,gy (Go.Proofs.sortWorldK ib 33 w g 0 m d os) bx (bD x9):=fun m os d=>by
   obtain ⟨t,fr,h1⟩:=hb
   have h2:=(Array.getElem?_eq_some_iff.1 h1).1
   have h3:=s.ext.le
   refine ⟨t,fr,?_⟩
   rw [kE w g m d os (by omega) (by omega),s.ext.block bx h2]
   exact h1
  have hcon:=Go.Proofs.AnyQ.slices_SortFunc (P:=Tryz.prog) (ρ:=Tryz.layG_ren) Tryz.layG 33 Tryz.isAgg28 Tryz.sizeOf28 ib cj gK (fun x y:Mb=>gd (x.2 - x9) (y.2 - x9)) (xf x9) 137 #[.pointer (some ⟨bx,0,none⟩)] g 0 cap l.toArray w (enters_of Tryz.func137 (by kernel_rfl) rfl) (fun m os dk _ x y=>by
   have h9:=ma x y x9 bx _ (hT m os dk)
   refine h9.mono ?_
   rintro e w' ⟨v,rfl,hv,hE⟩
   obtain rfl:=hv
   exact ⟨rfl,rM hE⟩) hH hlt (by have:=hg.len;rw [List.size_toArray];omega)
  refine hcon.mono ?_
  rintro e w' ⟨rfl,d',n,os,hp,hs,rfl⟩
  have s2:=hst n os d' hp.1
  rw [qq hg x9 hp hs] at s2
  exact ⟨_,rfl,s2⟩
theorem pQ (l:List Mb) (vh:Value) (bv bx:Nat) (x9:Id) (w:World) (hR:bO w vh 33 l.length (am l)) (hln:l.length≤1000) (hg:Rg l) (hv:gy w bv #[vh]) (hb:gy w bx (bD x9)):Calls Tryz.prog 140 [.func (.func 130) #[] #[.pointer (some ⟨bv,0,none⟩)],.func (.func 137) #[] #[.pointer (some ⟨bx,0,none⟩)]].toArray w (cO w (fun v w'=>cH w' w.heap.size 28 33 v l.length (am (eg x9 l)))):=by
 refine bh Tryz.func140 rfl Tryz.ntmps140 rfl [(0,.func (.func 130) #[] #[.pointer (some ⟨bv,0,none⟩)]),(1,.func (.func 137) #[] #[.pointer (some ⟨bx,0,none⟩)])] (by simp) fun f h=>?_
 have s:=St.start w
 refine ak fun K1 hK1=>?_
 refine ag ?_
 refine ac h (aj (h.ev rfl)) rfl ?_;intro f h
 refine ai ?_
 refine hK1 _ _ ?_
 refine ak fun K2 hK2=>?_
 refine ag ?_
 refine ac h (ah (h.ev rfl)) rfl ?_;intro f h
 refine aK h s AC (pi l vh bv _ (hR.keep s.ext) hln (hv.keep s.ext)) rfl rfl ?_;intro f w1 v7 hT hE h sq;replace s:=s.sl_new hE hT
 refine ac h (aj (h.ev rfl)) rfl ?_;intro f h
 refine ai ?_
 refine hK2 _ _ ?_
 refine ak fun K3 hK3=>?_
 refine ag ?_
 refine ac h (ah (h.ev rfl)) rfl ?_;intro f h
 refine ac h (ah (h.ev rfl)) rfl ?_;intro f h
 refine cV [v7,.func (.func 137) #[] #[.pointer (some ⟨bx,0,none⟩)]] h Bg (uG l hg x9 v7 bx [] _ _ s hb) rfl rfl ?_;rintro f w1 v10 s h
 refine ai ?_
 refine hK3 _ _ ?_
 refine ak fun K4 hK4=>?_
 refine ag ?_
 refine ac h (ah (h.ev rfl)) rfl ?_;intro f h
 refine ac h (aj (h.ev rfl)) rfl ?_;intro f h
 refine ai ?_
 refine hK4 _ _ ?_
 refine wpIn_ret ?_
 exact bu rfl h s rfl ((s.getSl 0 rfl))
theorem tu (x9:Id) (l:List Mb) (vh:Value) (w:World) (hR:bO w vh 33 l.length (am l)) (hln:l.length≤1000) (hg:Rg l):Calls Tryz.prog 118 [gI x9,vh].toArray w (cO w (fun v w'=>cH w' w.heap.size 28 33 v l.length (am (eg x9 l)))):=by
 refine bh Tryz.func118 rfl Tryz.ntmps118 rfl [(0,gI x9),(1,vh)] (by simp) fun f h=>?_
 have s:=St.start w
 refine ak fun K1 hK1=>?_
 refine ag ?_
 refine bR (bD x9) h s rfl rfl rfl ?_;intro f w1 b2 h s
 refine ac h (aj (h.ev rfl)) rfl ?_;intro f h
 refine ai ?_
 refine hK1 _ _ ?_
 refine ak fun K2 hK2=>?_
 have hbs:=s.ext.le
 refine' nL 4 [0] [] [[],[0],[],[0,1,2],[0,1,2,3],[0,1,2,3,4]] (is _::(fun v w9=>∃ bx,v=.func (.func 130) #[] #[.pointer (some ⟨bx,0,none⟩)]∧gy w9 bx #[vh])::is _::(fun v w9=>∃ bx,v=.func (.func 137) #[] #[.pointer (some ⟨bx,0,none⟩)]∧gy w9 bx (bD x9))::is undef::is undef::[]) (fun _=>True) h s (by kernel_rfl) (by kernel_rfl) (by kernel_rfl) (by kernel_rfl) rfl (fun _ _ h _=>h) (trivial) ⟨⟨_,rfl⟩,trivial⟩ ⟨bF _,fun _ _ _ h9 hE=>by obtain ⟨b9,h1,h2⟩:=h9;exact ⟨b9,h1,h2.keep hE⟩,bF _,fun _ _ _ h9 hE=>by obtain ⟨b9,h1,h2⟩:=h9;exact ⟨b9,h1,h2.keep hE⟩,bF _,bF _,trivial⟩ (And.intro ?_ (And.intro ?_ (And.intro ?_ (And.intro ?_ (And.intro ?_ (And.intro ?_ (trivial))))))) ?_
 rotate_left 2
 ·refine dS 5 rfl (by decide) ?_
  intro f9 w2 hE hs hl
  have e1:f9.tmps.getD 1 undef=_:=dR hl 1 (by kernel_rfl) (by kernel_rfl) (h.holds 1 _ rfl)
  have h:=aB [(1,_)] hs rfl (holds_lk ⟨e1,trivial⟩)
  refine ac h (ah (h.ev rfl)) rfl ?_;intro f h
  refine ai ?_
  have e9:=h.holds 5 _ rfl
  refine ⟨?_,rfl⟩
  refine e9.trans ?_
  exact rfl
 ·refine cz 6 rfl (by decide) (by decide) ?_
  intro f9 w2 hE hs hd9 hl
  have e5:f9.tmps.getD 5 undef=_:=cd hl 5 0 (by kernel_rfl) (by kernel_rfl)
  have h:=aB [(5,_)] hs hd9 (holds_lk ⟨e5,trivial⟩)
  have s:=s.more hE
  have z:=St.start w2
  refine aK h s zm (qc l vh _ (hR.keep s.ext)) rfl rfl ?_;intro f w3 v3 hT9 hE3 h s
  refine ai ?_
  exact ⟨by rw [h.holds 6 _ rfl];exact hT9,hE3,fun h9=>absurd h9 (by decide)⟩
 ·refine cz 7 rfl (by decide) (by decide) ?_
  intro f9 w2 hE hs hd9 hl
  have e2:f9.tmps.getD 2 undef=_:=dR hl 2 (by kernel_rfl) (by kernel_rfl) (h.holds 2 _ rfl)
  have h:=aB [(2,_)] hs hd9 (holds_lk ⟨e2,trivial⟩)
  have s:=s.more hE
  have z:=St.start w2
  refine ay 0 h s cq rfl rfl (by first|exact aR _|exact aM _ _) rfl ?_;intro f h
  refine ai ?_
  have e9:=h.holds 7 _ rfl
  refine ⟨?_,Ext.refl _,fun h9=>absurd h9 (by decide)⟩
  refine e9.trans ?_
  exact rfl
 ·refine cz 8 rfl (by decide) (by decide) ?_
  intro f9 w2 hE hs hd9 hl
  have e7:f9.tmps.getD 7 undef=_:=cd hl 7 2 (by kernel_rfl) (by kernel_rfl)
  have h:=aB [(7,_)] hs hd9 (holds_lk ⟨e7,trivial⟩)
  have s:=s.more hE
  have z:=St.start w2
  refine aK h s vM (m5 x9 _) rfl rfl ?_;intro f w3 v3 hT9 hE3 h s
  refine ai ?_
  exact ⟨by rw [h.holds 8 _ rfl];exact hT9,hE3,fun h9=>absurd h9 (by decide)⟩
 ·exact gu (by decide) (by decide)
 ·exact gu (by decide) (by decide)
 ·intro f9 w2 hE hs hd9 hWp hT hR hFr hDj
  obtain ⟨u6,hu6⟩:∃ v,f9.tmps.getD 6 undef=v:=⟨_,rfl⟩
  have e6:(fun v w9=>∃ bx,v=.func (.func 130) #[] #[.pointer (some ⟨bx,0,none⟩)]∧gy w9 bx #[vh]) u6 w2:=by rw [← hu6];exact hT 1 6 (by decide) rfl
  obtain ⟨u8,hu8⟩:∃ v,f9.tmps.getD 8 undef=v:=⟨_,rfl⟩
  have e8:(fun v w9=>∃ bx,v=.func (.func 137) #[] #[.pointer (some ⟨bx,0,none⟩)]∧gy w9 bx (bD x9)) u8 w2:=by rw [← hu8];exact hT 3 8 (by decide) rfl
  replace h:=sl_new (ops:=_) [(5,_),(6,u6),(7,_),(8,u8)] h hs hd9 hR ⟨hT 0 5 (by decide) rfl,hu6,hT 2 7 (by decide) rfl,hu8,trivial⟩ (by kernel_rfl)
  replace s:=s.more hE
  clear hT hR hFr hDj
  refine gt.of ?_
  obtain ⟨bv,hbv0,hbv⟩:=e6;subst hbv0;obtain ⟨bx,hbx0,hbx⟩:=e8;subst hbx0
  refine aK h s z8 (pQ l vh bv bx x9 _ (hR.keep s.ext) hln hg hbv hbx) rfl rfl ?_;intro f w1 vr hT hE h sq;replace s:=s.sl_new hE hT
  refine ac h (aj (h.ev rfl)) rfl ?_;intro f h
  refine ai ?_
  refine hK2 _ _ ?_
  refine wpIn_ret ?_
  exact bu rfl h s rfl ((s.getSl 0 rfl))
theorem tg (l:List Mb) (vh:Value) (no many:Int) (w:World) (hR:bO w vh 33 l.length (am l)) (hln:l.length≤1000):Calls Tryz.prog 85 [vh,.int .i64 no,.int .i64 many].toArray w (cO w (fun v w'=>∃ v8,v=.tuple #[v8,.int .i64 (kR l no many)]∧cH w' w.heap.size 28 33 v8 (my l no many).length (am (my l no many)))):=by
 refine bh Tryz.func85 rfl Tryz.ntmps85 rfl [(0,vh),(1,.int .i64 no),(2,.int .i64 many)] (by simp) fun f h=>?_
 have s:=St.start w
 refine ak fun K1 hK1=>?_
 refine ag ?_
 refine ac h (aj (h.ev rfl)) rfl ?_;intro f h
 refine ac h (aj (h.ev rfl)) rfl ?_;intro f h
 refine ai ?_
 refine hK1 _ _ ?_
 refine ak fun K2 hK2=>?_
 refine ak fun K3 hK3=>?_
 cases m0:(decide (many<0):Bool)
 ·skip
  cases m1:(decide (16<many):Bool)
  ·skip
   refine ag ?_
   refine ac h (ah (h.ev rfl)) rfl ?_;intro f h
   refine ac h (aE (.bool false) (cc (h.ev rfl) (h.ev rfl)) (congrArg Value.bool m0)) rfl ?_;intro f h
   refine ac h (ah (h.ev rfl)) rfl ?_;intro f h
   refine a2 h rfl rfl rfl ?_
   refine ac h (ah (h.ev rfl)) rfl ?_;intro f h
   refine a2 h rfl rfl rfl ?_
   refine ac h (aE (.bool false) (f7 (h.ev rfl) (h.ev rfl)) (congrArg Value.bool m1)) rfl ?_;intro f h
   refine ac h (aL (h.ev rfl) (h.ev rfl)) rfl ?_;intro f h
   refine ai ?_
   refine hK3 _ _ ?_
   refine wpIn_cond_false (h.ev rfl) ?_
   refine wpIn_skip ?_
   refine hK2 _ _ ?_
   refine ak fun K4 hK4=>?_
   refine ag ?_
   have hm0:=of_decide_eq_false m0
   have hm1:=of_decide_eq_false m1
   obtain ⟨m9,hm9⟩:∃ m9:Nat,many=(m9:Int):=⟨many.toNat,by omega⟩
   have hae:=oU (l:=l) (no:=no) (show 0≤many by omega) (show many≤16 by omega)
   refine ac h (ah (h.ev rfl)) rfl ?_;intro f h
   refine ac h (ah (h.ev rfl)) rfl ?_;intro f h
   refine aK h s tM (o3 l vh no _ (hR.keep s.ext) hln) rfl rfl ?_;intro f w1 v9 hT hE h s;obtain rfl:=hT
   refine ac h (ah (h.ev rfl)) rfl ?_;intro f h
   refine ac h (aW (h.ev rfl) rfl) rfl ?_;intro f h
   refine ac h (aW (h.ev rfl) rfl) rfl ?_;intro f h
   refine bi (av ap) h s cF rfl rfl ?_;intro f w1 b8 h s
   refine aA 0 h s aJ rfl rfl rfl (al _) (al _) (aX _) ?_;intro w1 s
   refine ac h (aj (h.ev rfl)) rfl ?_;intro f h
   refine ai ?_
   refine hK4 _ _ ?_
   refine ak fun K5 hK5=>?_
   refine ak fun K6 hK6=>?_
   refine ag ?_
   refine ac h (ah (h.ev rfl)) rfl ?_;intro f h
   refine ac h (cJ (h.ev rfl) (h.ev rfl)) rfl ?_;intro f h
   refine ai ?_
   refine hK6 _ _ ?_
   refine bL h rfl (fun hc=>?_) (fun hc=>?_)
   ·have h0:¬ ff l no=0:=by simpa using hc
    refine ak fun K7 hK7=>?_
    refine ag ?_
    refine ac h (ah (h.ev rfl)) rfl ?_;intro f h
    refine ac h (aj (h.ev rfl)) rfl ?_;intro f h
    refine ac h (aj (h.ev rfl)) rfl ?_;intro f h
    refine ai ?_
    refine hK7 _ _ ?_
    refine wpIn_ret ?_
    refine a8 ?_
    exact ny rfl h s rfl rfl (kX (xu (fun h9=>h0 (hae▸h9))) hae (fZ _ _ _ _))
   ·have h0:ff l no=0:=by simpa using hc
    obtain ⟨hr,hg,hf,hm,hno⟩:=wo h0
    refine wpIn_skip ?_
    refine hK5 _ _ ?_
    refine ak fun K8 hK8=>?_
    refine ag ?_
    refine ac h (aq ce (h.ev rfl)) rfl ?_;intro f h
    refine aI (bq.subL (bq.of_own s 0 rfl) 1 32 (D:=bD (_)) (co _)) h cq rfl (by first|exact aR _|exact aM _ _) rfl ?_;intro f h
    refine ac h (ah (h.ev rfl)) rfl ?_;intro f h
    refine aK h s AO (tu (ea l no).2 l vh _ (hR.keep s.ext) hln hg) rfl rfl ?_;intro f w1 vr hT hE h sq;replace s:=s.sl_new hE (hT.seq (gx (ea l no).2 l).symm rfl)
    refine ac h (aj (h.ev rfl)) rfl ?_;intro f h
    refine ai ?_
    refine hK8 _ _ ?_
    refine ak fun K9 hK9=>?_
    refine ag ?_
    refine ac h (ah (h.ev rfl)) rfl ?_;intro f h
    refine sw (n:=m9) (xs:=am (lz l (ea l no) m9 0)) h s Tryz.underlying36 dY cF rfl rfl (hm9) (by omega) (by unfold maxLen;omega) ((yd _).trans (by rw [sM])) (by rw [dC,lC _ _ (Nat.zero_le _)]) rfl ?_;intro f w1 v33 h s
    refine ac h (aj (h.ev rfl)) rfl ?_;intro f h
    refine ai ?_
    refine hK9 _ _ ?_
    refine ak fun K10 hK10=>?_
    refine ak fun K11 hK11=>?_
    refine ag ?_
    refine ac h (ah (h.ev rfl)) rfl ?_;intro f h
    refine da 0 h s Tryz.underlying36 rfl rfl rfl ?_;intro f h
    refine ac h (ah (h.ev rfl)) rfl ?_;intro f h
    refine ai ?_
    refine hK11 _ _ ?_
    refine wpIn_block ?_
    refine wpIn_loop_ghost (fun nn aa ww=>∃ k:Nat,Sl 52 aa [(0,vh),(1,.int .i64 no),(2,.int .i64 many),(8,.pointer (some ⟨b8,0,none⟩)),(31,vr),(33,v33),(10,vr),(11,v33),(34,v33),(35,.int .i64 (m9:Int)),(36,.int .i64 (k:Int))]∧St w [.sl v33 28 33 m9 (am (lz l (ea l no) m9 k)),.sl vr 28 33 (eg (ea l no).2 l).length (am (eg (ea l no).2 l)),.blk b8 (.cells (av (ea l no)) 28)] ww∧nn=m9 - k∧k≤m9) (m9 - (0)) ⟨0,h.only ⟨rfl,rfl,rfl,rfl,rfl,rfl,rfl,rfl,rfl,rfl,rfl,trivial⟩,s.as ⟨rfl,rfl,rfl,trivial⟩,rfl,Nat.zero_le _⟩ ?_
    rintro _ f w1 ⟨k,h,s,hnn,hp0⟩
    refine ak fun K12 hK12=>?_
    refine ag ?_
    refine ac h (cc (h.ev rfl) (h.ev rfl)) rfl ?_;intro f h
    refine ai ?_
    refine hK12 _ _ ?_
    refine ak fun K13 hK13=>?_
    refine bL h rfl (fun hc=>?_) (fun hc=>?_)
    ·replace hc:=of_decide_eq_true hc
     refine wpIn_skip ?_
     refine hK13 _ _ ?_
     refine ak fun K14 hK14=>?_
     refine wpIn_block ?_
     refine ak fun K15 hK15=>?_
     refine ag ?_
     refine ac h (ah (h.ev rfl)) rfl ?_;intro f h
     refine ac h (aj (h.ev rfl)) rfl ?_;intro f h
     refine ai ?_
     refine hK15 _ _ ?_
     refine ag ?_
     refine ac h (ah (h.ev rfl)) rfl ?_;intro f h
     refine ac h (ah (h.ev rfl)) rfl ?_;intro f h
     refine ac h (ah (h.ev rfl)) rfl ?_;intro f h
     refine ac h (ah (h.ev rfl)) rfl ?_;intro f h
     have hkl:k<m9:=by omega
     have hpos:=js hm
     have hml:=Nat.mod_lt (k+1) hpos
     have hrl:=gx (ea l no).2 l
     refine ac h (aE (.int .i64 ((k+1:Nat):Int)) (cp (h.ev rfl) (h.ev rfl) (by omega)) (congrArg (Value.int .i64) (by omega))) rfl ?_;intro f h
     refine ac h (ah (h.ev rfl)) rfl ?_;intro f h
     refine da 1 h s Tryz.underlying36 rfl rfl rfl ?_;intro f h
     refine ac h (aE (.int .i64 (((k+1) % l.length:Nat):Int)) (zT (h.ev rfl) (h.ev rfl) (by omega)) (congrArg (Value.int .i64) (by rw [gx];exact(Int.natCast_emod _ _).symm))) rfl ?_;intro f h
     refine ac h (bU (bO.of_own (s.getSl 1 rfl)) ((k+1) % l.length) Tryz.underlying36 cA (h.ev rfl) (h.ev rfl) (rfl) (by omega)) rfl ?_;intro f h
     refine aI ((bO.of_own (s.getSl 1 rfl)).el ((k+1) % l.length) (by omega) (by decide) (D:=av (p5 l (ea l no) (k+1))) ((cX _ _ (by omega)).trans (by rw [py hg hm]))) h aJ rfl (al _) rfl ?_;intro f h
     refine ac h (bU (bO.of_own (s.getSl 0 rfl)) (k) Tryz.underlying36 cA (h.ev rfl) (h.ev rfl) (rfl) (by omega)) rfl ?_;intro f h
     refine dH 0 (k) h s aJ rfl rfl rfl (al _) (by omega) (aX _) ((qp (l:=(lz l (ea l no) m9 k)) _ (by rw [lC _ _ (by omega)];exact hkl)).trans (by rw [tA _ _ hkl])) ?_;intro w1 s
     refine ai ?_
     refine bH ?_
     refine hK14 _ _ ?_
     refine ag ?_
     refine ac h (cp (h.ev rfl) (h.ev rfl) (by omega)) rfl ?_;intro f h
     refine ac h (ah (h.ev rfl)) rfl ?_;intro f h
     refine ai ?_
     refine ca ?_
     exact ⟨_,by omega,⟨k+1,h.only ⟨rfl,rfl,rfl,rfl,rfl,rfl,rfl,rfl,rfl,rfl,aQ rfl (by omega),trivial⟩,St.as s ⟨rfl,rfl,rfl,trivial⟩,rfl,by omega⟩⟩
    ·replace hc:=of_decide_eq_false hc
     refine wpIn_exit ?_
     refine bN ?_
     refine bN ?_
     refine cG ?_
     refine hK10 _ _ ?_
     refine ak fun K16 hK16=>?_
     refine ag ?_
     refine ac h (ah (h.ev rfl)) rfl ?_;intro f h
     refine ac h (aj (h.ev rfl)) rfl ?_;intro f h
     refine ac h (aj (h.ev rfl)) rfl ?_;intro f h
     refine ai ?_
     refine hK16 _ _ ?_
     refine wpIn_ret ?_
     exact ny rfl h s rfl rfl (kX (x6 hm9 hae h0) (hae.trans h0) (by obtain rfl:k=m9:=(by omega);rw [← uD,lC _ _ (Nat.le_refl _)];exact(s.getSl 0 rfl)))
  ·skip
   refine ag ?_
   refine ac h (ah (h.ev rfl)) rfl ?_;intro f h
   refine ac h (aE (.bool false) (cc (h.ev rfl) (h.ev rfl)) (congrArg Value.bool m0)) rfl ?_;intro f h
   refine ac h (ah (h.ev rfl)) rfl ?_;intro f h
   refine a2 h rfl rfl rfl ?_
   refine ac h (ah (h.ev rfl)) rfl ?_;intro f h
   refine a2 h rfl rfl rfl ?_
   refine ac h (aE (.bool true) (f7 (h.ev rfl) (h.ev rfl)) (congrArg Value.bool m1)) rfl ?_;intro f h
   refine ac h (aL (h.ev rfl) (h.ev rfl)) rfl ?_;intro f h
   refine ai ?_
   refine hK3 _ _ ?_
   refine wpIn_cond_true (h.ev rfl) ?_
   refine ak fun K17 hK17=>?_
   refine ag ?_
   refine ac h (aj (h.ev rfl)) rfl ?_;intro f h
   refine ac h (aj (h.ev rfl)) rfl ?_;intro f h
   refine ai ?_
   refine hK17 _ _ ?_
   refine wpIn_ret ?_
   refine a8 ?_
   exact ny rfl h s rfl rfl (kX (kV (.inr (of_decide_eq_true m1))).2 (kV (.inr (of_decide_eq_true m1))).1 (fZ _ _ _ _))
 ·skip
  refine ag ?_
  refine ac h (ah (h.ev rfl)) rfl ?_;intro f h
  refine ac h (aE (.bool true) (cc (h.ev rfl) (h.ev rfl)) (congrArg Value.bool m0)) rfl ?_;intro f h
  refine ac h (ah (h.ev rfl)) rfl ?_;intro f h
  refine aY (b:=false) h rfl rfl rfl rfl ?_;intro f h
  refine aY (b:=false) h rfl rfl rfl rfl ?_;intro f h
  refine ac h (aO (h.ev rfl) (h.ev rfl)) rfl ?_;intro f h
  refine ai ?_
  refine hK3 _ _ ?_
  refine wpIn_cond_true (h.ev rfl) ?_
  refine ak fun K18 hK18=>?_
  refine ag ?_
  refine ac h (aj (h.ev rfl)) rfl ?_;intro f h
  refine ac h (aj (h.ev rfl)) rfl ?_;intro f h
  refine ai ?_
  refine hK18 _ _ ?_
  refine wpIn_ret ?_
  refine a8 ?_
  exact ny rfl h s rfl rfl (kX (kV (.inl (of_decide_eq_true m0))).2 (kV (.inl (of_decide_eq_true m0))).1 (fZ _ _ _ _))
theorem zO (l:List Mb) (vh:Value) (m:Mb) (w:World) (hR:bO w vh 33 l.length (am l)) (hln:l.length≤1000) (hg:Rg l) (hm:m∈l):Calls Tryz.prog 50 [vh,.agg (av m)].toArray w (cO w (DH w 28 l m)):=by
 refine bh Tryz.func50 rfl Tryz.ntmps50 rfl [(0,vh),(1,.agg (av m))] (by simp) fun f h=>?_
 have s:=St.start w
 refine ak fun K1 hK1=>?_
 refine ag ?_
 refine bR ((av m)) h s rfl rfl rfl ?_;intro f w1 b3 h s
 refine bi (av ap) h s cF rfl rfl ?_;intro f w1 b4 h s
 refine ac h (aj (h.ev rfl)) rfl ?_;intro f h
 refine ai ?_
 refine hK1 _ _ ?_
 refine ak fun K2 hK2=>?_
 refine ag ?_
 refine ac h (ah (h.ev rfl)) rfl ?_;intro f h
 refine ac h (bK (hR.keep s.ext) Tryz.underlying36 (h.ev rfl)) rfl ?_;intro f h
 refine ac h (fq (h.ev rfl) (h.ev rfl) (by omega)) rfl ?_;intro f h
 refine ac h (aj (h.ev rfl)) rfl ?_;intro f h
 refine ai ?_
 refine hK2 _ _ ?_
 refine ak fun K3 hK3=>?_
 refine ak fun K4 hK4=>?_
 refine ag ?_
 refine ac h (ah (h.ev rfl)) rfl ?_;intro f h
 refine ac h (cb (h.ev rfl) (h.ev rfl)) rfl ?_;intro f h
 refine ai ?_
 refine hK4 _ _ ?_
 refine bL h rfl (fun hc=>?_) (fun hc=>?_)
 ·have h1:l.length=1:=by have:=of_decide_eq_true hc;omega
  refine ak fun K5 hK5=>?_
  refine jP 1 [[],[],[1],[0],[0,1,2,3]] [[],[],[],[5],[]] [fun _=>[],fun _=>[],fun v=>[.sl (v 2) 28 33 [m].length (am [m])],fun v=>[.blk b4 (.cells (av c4) 28)],fun _=>[]] [[.blk b4 (.cells (av ap) 28)]] [fun v=>v 0=.agg (av c4),fun v=>v 1=.agg (av m),fun _=>True,fun _=>True,fun v=>v 4=(v 2)] [.blk b3 (.cells ((av m)) 28)] h s rfl (by kernel_rfl) (by kernel_rfl) (by kernel_rfl) (And.intro ?_ (And.intro ?_ (And.intro ?_ (And.intro ?_ (And.intro ?_ (trivial)))))) [0,1,2,3,4] (by kernel_rfl) ?_
  ·intro f9 w2 vl3 E9 hs9 hd9 hl hF s
   have h:=aB [] (hs9.trans h.size) (hd9.trans h.defers) (holds_lk trivial)
   replace s:St w (.blk b3 (.cells ((av m)) 28)::E9) _:=s
   refine aK h s yS (mz _) rfl rfl ?_;intro f w1 v9 hT hE h s;obtain rfl:=hT
   exact ai ⟨_,a6 16 rfl (h.holds 16 _ rfl),rfl,s⟩
  ·intro f9 w2 vl3 E9 hs9 hd9 hl hF s
   have e3:f9.tmps.getD 3 undef=_:=cK hl 3 (by kernel_rfl) (by kernel_rfl) (h.holds 3 _ rfl)
   have h:=aB [(3,_)] (hs9.trans h.size) (hd9.trans h.defers) (holds_lk ⟨e3,trivial⟩)
   replace s:St w (.blk b3 (.cells ((av m)) 28)::E9) _:=s
   refine ay 0 h s aJ rfl rfl (al _) rfl ?_;intro f h
   exact ai ⟨_,a6 17 rfl (h.holds 17 _ rfl),rfl,s⟩
  ·intro f9 w2 vl3 E9 hs9 hd9 hl hF s
   have e17:f9.tmps.getD 17 undef=.agg (av m):=(bc hl 17 1 (by kernel_rfl) (by kernel_rfl)).trans (hF 1 (by decide))
   have h:=aB [(17,.agg (av m))] (hs9.trans h.size) (hd9.trans h.defers) (holds_lk ⟨e17,trivial⟩)
   replace s:St w (.blk b3 (.cells ((av m)) 28)::E9) _:=s
   refine cW (vs:=[.agg (av m)]) [.tmp 17] h s Tryz.underlying36 dY rfl rfl (jb _) rfl rfl rfl ?_;intro f w1 v18 h s
   replace s:=s.resl (m:=[m].length) (ys:=am [m]) 0 rfl rfl (by rw [eY,dU])
   exact ai ⟨_,a6 18 rfl (h.holds 18 _ rfl),trivial,s⟩
  ·intro f9 w2 vl3 E9 hs9 hd9 hl hF s
   have e4:f9.tmps.getD 4 undef=_:=cK hl 4 (by kernel_rfl) (by kernel_rfl) (h.holds 4 _ rfl)
   have e16:f9.tmps.getD 16 undef=.agg (av c4):=(bc hl 16 0 (by kernel_rfl) (by kernel_rfl)).trans (hF 0 (by decide))
   have h:=aB [(4,_),(16,.agg (av c4))] (hs9.trans h.size) (hd9.trans h.defers) (holds_lk ⟨e4,e16,trivial⟩)
   replace s:St w (.blk b4 (.cells (av ap) 28)::.blk b3 (.cells ((av m)) 28)::E9) _:=s
   refine aA 0 h s aJ rfl rfl rfl (al _) (al _) (aX _) ?_;intro w1 s
   exact ai ⟨undef,fM rfl,trivial,s⟩
  ·intro f9 w2 vl3 E9 hs9 hd9 hl hF s
   have e18:f9.tmps.getD 18 undef=(vl3 2):=bc hl 18 2 (by kernel_rfl) (by kernel_rfl)
   have h:=aB [(18,(vl3 2))] (hs9.trans h.size) (hd9.trans h.defers) (holds_lk ⟨e18,trivial⟩)
   replace s:St w (.blk b3 (.cells ((av m)) 28)::E9) _:=s
   refine ac h (aj (h.ev rfl)) rfl ?_;intro f h
   exact ai ⟨_,a6 5 rfl (h.holds 5 _ rfl),rfl,s⟩
  intro f w1 vl3 hs9 hd9 hv hr hF s
  replace h:=j5 (ops:=_) [(16,.agg (av c4)),(17,.agg (av m)),(18,(vl3 2)),(5,(vl3 2))] h hs9 hd9 hr ⟨(hv 0 16 rfl).trans (hF 0 (by kernel_rfl)),(hv 1 17 rfl).trans (hF 1 (by kernel_rfl)),hv 2 18 rfl,(hv 4 5 rfl).trans (hF 4 (by kernel_rfl)),trivial⟩ (by kernel_rfl)
  replace s:St w [.sl (vl3 2) 28 33 [m].length (am [m]),.blk b4 (.cells (av c4) 28),.blk b3 (.cells ((av m)) 28)] _:=s
  refine hK5 _ _ ?_
  refine wpIn_ret ?_
  refine a8 ?_
  exact bS 1 rfl h s aJ rfl rfl (al _) rfl (yr h1 (s.getSl 0 rfl))
 ·have h1:¬ l.length=1:=by have:=of_decide_eq_false hc;omega
  have hpos:=js hm
  refine wpIn_skip ?_
  refine hK3 _ _ ?_
  refine ak fun K6 hK6=>?_
  refine ag ?_
  refine ac h (ah (h.ev rfl)) rfl ?_;intro f h
  refine ac h (aq aP (h.ev rfl)) rfl ?_;intro f h
  refine aC (ax (bq.of_own s 1 rfl) 0 (aV _)) h bV rfl rfl ?_;intro f h
  refine aK h s BT (qE l vh m.1 _ (hR.keep s.ext) hln) rfl rfl ?_;intro f w1 v9 hT hE h s;obtain rfl:=hT
  refine ac h (ah (h.ev rfl)) rfl ?_;intro f h
  refine ac h (aW (h.ev rfl) rfl) rfl ?_;intro f h
  refine ac h (aW (h.ev rfl) rfl) rfl ?_;intro f h
  refine bi (av ap) h s cF rfl rfl ?_;intro f w1 b7 h s
  refine aA 0 h s aJ rfl rfl rfl (al _) (al _) (aX _) ?_;intro w1 s
  refine ac h (aj (h.ev rfl)) rfl ?_;intro f h
  refine ai ?_
  refine hK6 _ _ ?_
  refine ak fun K7 hK7=>?_
  refine ag ?_
  refine ac h (ah (h.ev rfl)) rfl ?_;intro f h
  refine ac h (aq aP (h.ev rfl)) rfl ?_;intro f h
  refine aC (ax (bq.of_own s 2 rfl) 0 (aV _)) h bV rfl rfl ?_;intro f h
  refine ac h (ah (h.ev rfl)) rfl ?_;intro f h
  refine ac h (aE (.int .i64 ((min (l.length - 1) 4:Nat):Int)) (nq (h.ev rfl) (h.ev rfl)) (congrArg (Value.int .i64) (by omega))) rfl ?_;intro f h
  have haf:=AB hg hm (n:=min (l.length - 1) 4) (by omega)
  refine aK h s Cj (tg l vh m.1 ((min (l.length - 1) 4:Nat):Int) _ (hR.keep s.ext) hln) rfl rfl ?_;rintro f w1 v9 ⟨va,rfl,hT⟩ hE h sq;rw [haf.2] at hT;replace s:=s.sl_new hE hT
  refine ac h (ah (h.ev rfl)) rfl ?_;intro f h
  refine ac h (aW (h.ev rfl) rfl) rfl ?_;intro f h
  refine ac h (aW (h.ev rfl) rfl) rfl ?_;intro f h
  refine ac h (aj (h.ev rfl)) rfl ?_;intro f h
  refine ac h (aj (h.ev rfl)) rfl ?_;intro f h
  refine ai ?_
  refine hK7 _ _ ?_
  refine ak fun K8 hK8=>?_
  refine ag ?_
  refine ay 1 h s aJ rfl rfl (al _) rfl ?_;intro f h
  refine ac h (ah (h.ev rfl)) rfl ?_;intro f h
  refine aA 2 h s aJ rfl rfl rfl (al _) (al _) (aX _) ?_;intro w1 s
  refine ac h (aj (h.ev rfl)) rfl ?_;intro f h
  refine ai ?_
  refine hK8 _ _ ?_
  refine wpIn_ret ?_
  exact bS 2 rfl h s aJ rfl rfl (al _) rfl ((by rw [z1 hg hm];exact yc h1 (s.getSl 0 rfl)))
theorem o4 (L:List N3) (vo:Value) (w:World) (hO:cI w vo L) (hL:L.length≤40) (hb:RwB L):Calls Tryz.prog 12 [.agg #[vo]].toArray w (cO w (is (.bool (gD L)))):=by
 have hml:(ae L).length≤1000:=by rw [List.length_map];omega
 refine dZ Tryz.func12 rfl Tryz.ntmps12 rfl [(0,.agg #[vo])] (by simp) fun f h=>?_
 have s:=St.start w
 refine ak fun K1 hK1=>?_
 refine ag ?_
 refine bR (#[vo]) h s rfl rfl rfl ?_;intro f w1 b1 h s
 refine bi (#[.bool false]) h s q8 rfl rfl ?_;intro f w1 b2 h s
 refine ai ?_
 refine hK1 _ _ ?_
 refine ak fun K2 hK2=>?_
 refine ak fun K3 hK3=>?_
 cases r0:(fH L:Bool)
 ·skip
  refine ag ?_
  refine ay 1 h s a7 rfl rfl (rfl) rfl ?_;intro f h
  refine aK h s iE (aT (.bool false) (dn L vo _ (hO.keep s.ext) hL hb) (congrArg Value.bool r0)) rfl rfl ?_;intro f w1 v9 hT hE h s;obtain rfl:=hT
  refine ac h (aE (.bool true) (bI (h.ev rfl)) rfl) rfl ?_;intro f h
  refine ai ?_
  refine hK3 _ _ ?_
  refine wpIn_cond_true (h.ev rfl) ?_
  refine ak fun K4 hK4=>?_
  refine ag ?_
  refine bk 0 h s eU rfl rfl rfl (by simp) (rfl) ?_;intro w1 s
  refine ai ?_
  refine hK4 _ _ ?_
  refine wpIn_ret ?_
  refine a8 ?_
  exact l9 0 rfl h s eU rfl rfl rfl (fun w9=>by show _=_;rw [Cz r0];rfl)
 ·skip
  refine ag ?_
  refine ay 1 h s a7 rfl rfl (rfl) rfl ?_;intro f h
  refine aK h s iE (aT (.bool true) (dn L vo _ (hO.keep s.ext) hL hb) (congrArg Value.bool r0)) rfl rfl ?_;intro f w1 v9 hT hE h s;obtain rfl:=hT
  refine ac h (aE (.bool false) (bI (h.ev rfl)) rfl) rfl ?_;intro f h
  refine ai ?_
  refine hK3 _ _ ?_
  refine wpIn_cond_false (h.ev rfl) ?_
  refine wpIn_skip ?_
  refine hK2 _ _ ?_
  refine ak fun K5 hK5=>?_
  refine ag ?_
  have hrg:=(ef r0).rs.ring
  refine ay 1 h s a7 rfl rfl (rfl) rfl ?_;intro f h
  refine aK h s pb (eA L vo _ (hO.keep s.ext) hL) rfl rfl ?_;intro f w1 v11 hT hE h sq;replace s:=s.sl_new hE hT
  refine bi (#[.slice none 0 0]) h s qM rfl rfl ?_;intro f w1 b3 h s
  refine bk 0 h s cf rfl rfl rfl (by simp) (bo (s.getSl 1 rfl)) ?_;intro w1 s
  refine ai ?_
  refine hK5 _ _ ?_
  refine ak fun K6 hK6=>?_
  refine ak fun K7 hK7=>?_
  refine ag ?_
  refine ay 3 h s a7 rfl rfl (rfl) rfl ?_;intro f h
  refine cV [.agg #[vo]] h ko (eV vo _ _ _ s) rfl rfl ?_;rintro f w1 r ⟨bn,rfl,s⟩ h
  refine ai ?_
  refine hK7 _ _ ?_
  refine wpIn_block ?_
  refine dJ (fun d A9=>A9=[.blk b3 (.cells #[v11] 36),.sl v11 28 33 (ae L).length (am (ae L)),.blk b2 (.cells #[.bool false] 4),.blk b1 (.cells #[vo] 24)]) [.blk b3 (.cells #[v11] 36),.sl v11 28 33 (ae L).length (am (ae L)),.blk b2 (.cells #[.bool false] 4),.blk b1 (.cells #[vo] 24)] [.blk bn (.cells #[vo] 24)] (L.length) (tF L) (fun d=>[Value.pointer (some (aF vo (d*68)))]) h s rfl kv (List.Perm.refl _) (rfl) (fun _=>rfl) ?_ ?_ ?_ ?_
  ·intro lp w2 GG g0 hg0 s2 hY;exact ep L.length (by omega) vo _ _ hO.1 lp bn (tF L) GG g0 w w2 s2 hg0 hY
  ·intro lp D9 d9 rc R9 A9 w2 hd9 hq9 hJ9 s
   obtain rfl:=hJ9
   have h:=Sl.round1 (p:=14) (V:=.pointer (some (aF vo (d9*68)))) h rfl
   have hdl9:=hd9
   refine ag ?_
   refine ac h (aj (h.ev rfl)) rfl ?_;intro f h
   refine ai ?_
   refine ca ?_
   refine ⟨_,s,fun w3 s=>?_⟩
   refine wpIn_block ?_
   refine ak fun K8 hK8=>?_
   refine jP 0 [[],[],[1],[1,2],[1,2,3],[0,1,2,3,4],[0,1,2,3,4,5],[0,1,2,3,4,5,6],[0,1,2,3,4,5,6],[],[0,1,2,3,4,5,6,7,9],[0,1,2,3,4,5,6,7,8,9,10]] [[],[],[],[],[],[],[],[],[],[],[9],[]] [fun _=>[],fun _=>[],fun _=>[],fun _=>[],fun _=>[],fun v=>[.sl (fv (v 5)) 28 33 (oB (ae L) (L.getD d9 z3).1.me).length (am (oB (ae L) (L.getD d9 z3).1.me))],fun _=>[],fun _=>[],fun _=>[],fun v=>[.blk (wH (v 9)) (.cells (av ap) 28)],fun v=>[.blk (wH (v 9)) (.cells (av (jx (ae L) (L.getD d9 z3).1.me)) 28)],fun _=>[]] [] [fun v=>v 0=v11,fun v=>v 1=.pointer (some (aF vo (d9*68))),fun v=>v 2=.pointer (some (aF vo (d9*68))),fun v=>v 3=.pointer (some (aF vo (d9*68+0))),fun v=>v 4=.agg (av (L.getD d9 z3).1.me),fun v=>v 5=.tuple #[.agg (av (jx (ae L) (L.getD d9 z3).1.me)),(fv (v 5))],fun v=>v 6=.tuple #[.agg (av (jx (ae L) (L.getD d9 z3).1.me)),(fv (v 5))],fun v=>v 7=.agg (av (jx (ae L) (L.getD d9 z3).1.me)),fun v=>v 8=(fv (v 5)),fun v=>∃ b,v 9=.pointer (some ⟨b,0,none⟩),fun _=>True,fun v=>v 11=(fv (v 5))] (.blk lp (.loop (rc .busy))::.blk D9 (.deferred (some []))::.blk b3 (.cells (#[v11]) 36)::.sl v11 28 33 (ae L).length (am (ae L))::.blk b2 (.cells (#[.bool false]) 4)::.blk b1 (.cells (#[vo]) 24)::R9) h s rfl (by kernel_rfl) (by kernel_rfl) (by kernel_rfl) (And.intro ?_ (And.intro ?_ (And.intro ?_ (And.intro ?_ (And.intro ?_ (And.intro ?_ (And.intro ?_ (And.intro ?_ (And.intro ?_ (And.intro ?_ (And.intro ?_ (And.intro ?_ (trivial))))))))))))) [0,1,2,3,4,5,6,7,8,10,11] (by kernel_rfl) ?_
   ·intro f9 w2 vl6 E9 hs9 hd9 hl hF s
    have e3:f9.tmps.getD 3 undef=_:=cK hl 3 (by kernel_rfl) (by kernel_rfl) (h.holds 3 _ rfl)
    have h:=aB [(3,_)] (hs9.trans h.size) (hd9.trans h.defers) (holds_lk ⟨e3,trivial⟩)
    replace s:St w (.blk lp (.loop (rc .busy))::.blk D9 (.deferred (some []))::.blk b3 (.cells (#[v11]) 36)::.sl v11 28 33 (ae L).length (am (ae L))::.blk b2 (.cells (#[.bool false]) 4)::.blk b1 (.cells (#[vo]) 24)::(R9++E9)) _:=s
    refine bX 2 h s cf rfl rfl (rfl) rfl ?_;intro f h
    exact ai ⟨_,a6 16 rfl (h.holds 16 _ rfl),rfl,s⟩
   ·intro f9 w2 vl6 E9 hs9 hd9 hl hF s
    have e4:f9.tmps.getD 4 undef=_:=cK hl 4 (by kernel_rfl) (by kernel_rfl) (h.holds 4 _ rfl)
    have h:=aB [(4,_)] (hs9.trans h.size) (hd9.trans h.defers) (holds_lk ⟨e4,trivial⟩)
    replace s:St w (.blk lp (.loop (rc .busy))::.blk D9 (.deferred (some []))::.blk b3 (.cells (#[v11]) 36)::.sl v11 28 33 (ae L).length (am (ae L))::.blk b2 (.cells (#[.bool false]) 4)::.blk b1 (.cells (#[vo]) 24)::(R9++E9)) _:=s
    refine ac h (ah (h.ev rfl)) rfl ?_;intro f h
    exact ai ⟨_,a6 17 rfl (h.holds 17 _ rfl),rfl,s⟩
   ·intro f9 w2 vl6 E9 hs9 hd9 hl hF s
    have e17:f9.tmps.getD 17 undef=.pointer (some (aF vo (d9*68))):=(bc hl 17 1 (by kernel_rfl) (by kernel_rfl)).trans (hF 1 (by decide))
    have h:=aB [(17,.pointer (some (aF vo (d9*68))))] (hs9.trans h.size) (hd9.trans h.defers) (holds_lk ⟨e17,trivial⟩)
    replace s:St w (.blk lp (.loop (rc .busy))::.blk D9 (.deferred (some []))::.blk b3 (.cells (#[v11]) 36)::.sl v11 28 33 (ae L).length (am (ae L))::.blk b2 (.cells (#[.bool false]) 4)::.blk b1 (.cells (#[vo]) 24)::(R9++E9)) _:=s
    refine ac h (aZ (h.ev rfl)) rfl ?_;intro f h
    exact ai ⟨_,a6 18 rfl (h.holds 18 _ rfl),rfl,s⟩
   ·intro f9 w2 vl6 E9 hs9 hd9 hl hF s
    have e18:f9.tmps.getD 18 undef=.pointer (some (aF vo (d9*68))):=(bc hl 18 2 (by kernel_rfl) (by kernel_rfl)).trans (hF 2 (by decide))
    have h:=aB [(18,.pointer (some (aF vo (d9*68))))] (hs9.trans h.size) (hd9.trans h.defers) (holds_lk ⟨e18,trivial⟩)
    replace s:St w (.blk lp (.loop (rc .busy))::.blk D9 (.deferred (some []))::.blk b3 (.cells (#[v11]) 36)::.sl v11 28 33 (ae L).length (am (ae L))::.blk b2 (.cells (#[.bool false]) 4)::.blk b1 (.cells (#[vo]) 24)::(R9++E9)) _:=s
    refine ac h (bB bA (h.ev rfl) ((hO.1.keep s.ext).some (by omega))) rfl ?_;intro f h
    exact ai ⟨_,a6 19 rfl (h.holds 19 _ rfl),rfl,s⟩
   ·intro f9 w2 vl6 E9 hs9 hd9 hl hF s
    have e19:f9.tmps.getD 19 undef=.pointer (some (aF vo (d9*68+0))):=(bc hl 19 3 (by kernel_rfl) (by kernel_rfl)).trans (hF 3 (by decide))
    have h:=aB [(19,.pointer (some (aF vo (d9*68+0))))] (hs9.trans h.size) (hd9.trans h.defers) (holds_lk ⟨e19,trivial⟩)
    replace s:St w (.blk lp (.loop (rc .busy))::.blk D9 (.deferred (some []))::.blk b3 (.cells (#[v11]) 36)::.sl v11 28 33 (ae L).length (am (ae L))::.blk b2 (.cells (#[.bool false]) 4)::.blk b1 (.cells (#[vo]) 24)::(R9++E9)) _:=s
    refine aI (bO.elF (hO.1.keep s.ext) (d9) 0 33 (by omega) (by decide) (C:=au (L.getD d9 z3).1.me (L.getD d9 z3).1.pr (L.getD d9 z3).2.1 (L.getD d9 z3).2.2) (cR L d9 hdl9) (D:=av (L.getD d9 z3).1.me) (bZ _ _ _ _)) h aJ rfl (al _) rfl ?_;intro f h
    exact ai ⟨_,a6 20 rfl (h.holds 20 _ rfl),rfl,s⟩
   ·intro f9 w2 vl6 E9 hs9 hd9 hl hF s
    have e16:f9.tmps.getD 16 undef=v11:=(bc hl 16 0 (by kernel_rfl) (by kernel_rfl)).trans (hF 0 (by decide))
    have e20:f9.tmps.getD 20 undef=.agg (av (L.getD d9 z3).1.me):=(bc hl 20 4 (by kernel_rfl) (by kernel_rfl)).trans (hF 4 (by decide))
    have h:=aB [(16,v11),(20,.agg (av (L.getD d9 z3).1.me))] (hs9.trans h.size) (hd9.trans h.defers) (holds_lk ⟨e16,e20,trivial⟩)
    replace s:St w (.blk lp (.loop (rc .busy))::.blk D9 (.deferred (some []))::.blk b3 (.cells (#[v11]) 36)::.sl v11 28 33 (ae L).length (am (ae L))::.blk b2 (.cells (#[.bool false]) 4)::.blk b1 (.cells (#[vo]) 24)::(R9++E9)) _:=s
    refine aK h s Cx (zO (ae L) v11 (L.getD d9 z3).1.me _ (bO.of_own (s.getSl 3 rfl)) hml hrg (List.mem_map.2 ⟨_,bj hdl9,rfl⟩)) rfl rfl ?_;rintro f w1 v21 ⟨u9,hv9,hO9⟩ hE h sq;replace s:=s.sl_new hE hO9
    have h1v:u9=fv v21:=by rw [hv9];rfl
    clear hO9
    subst h1v
    exact ai ⟨_,a6 21 rfl (h.holds 21 _ rfl),hv9,s⟩
   ·intro f9 w2 vl6 E9 hs9 hd9 hl hF s
    have e21:f9.tmps.getD 21 undef=.tuple #[.agg (av (jx (ae L) (L.getD d9 z3).1.me)),(fv (vl6 5))]:=(bc hl 21 5 (by kernel_rfl) (by kernel_rfl)).trans (hF 5 (by decide))
    have h:=aB [(21,.tuple #[.agg (av (jx (ae L) (L.getD d9 z3).1.me)),(fv (vl6 5))])] (hs9.trans h.size) (hd9.trans h.defers) (holds_lk ⟨e21,trivial⟩)
    replace s:St w (.blk lp (.loop (rc .busy))::.blk D9 (.deferred (some []))::.blk b3 (.cells (#[v11]) 36)::.sl v11 28 33 (ae L).length (am (ae L))::.blk b2 (.cells (#[.bool false]) 4)::.blk b1 (.cells (#[vo]) 24)::(R9++E9)) _:=s
    refine ac h (ah (h.ev rfl)) rfl ?_;intro f h
    exact ai ⟨_,a6 15 rfl (h.holds 15 _ rfl),rfl,s⟩
   ·intro f9 w2 vl6 E9 hs9 hd9 hl hF s
    have e15:f9.tmps.getD 15 undef=.tuple #[.agg (av (jx (ae L) (L.getD d9 z3).1.me)),(fv (vl6 5))]:=(bc hl 15 6 (by kernel_rfl) (by kernel_rfl)).trans (hF 6 (by decide))
    have h:=aB [(15,.tuple #[.agg (av (jx (ae L) (L.getD d9 z3).1.me)),(fv (vl6 5))])] (hs9.trans h.size) (hd9.trans h.defers) (holds_lk ⟨e15,trivial⟩)
    replace s:St w (.blk lp (.loop (rc .busy))::.blk D9 (.deferred (some []))::.blk b3 (.cells (#[v11]) 36)::.sl v11 28 33 (ae L).length (am (ae L))::.blk b2 (.cells (#[.bool false]) 4)::.blk b1 (.cells (#[vo]) 24)::(R9++E9)) _:=s
    refine ac h (aW (h.ev rfl) rfl) rfl ?_;intro f h
    exact ai ⟨_,a6 22 rfl (h.holds 22 _ rfl),rfl,s⟩
   ·intro f9 w2 vl6 E9 hs9 hd9 hl hF s
    have e15:f9.tmps.getD 15 undef=.tuple #[.agg (av (jx (ae L) (L.getD d9 z3).1.me)),(fv (vl6 5))]:=(bc hl 15 6 (by kernel_rfl) (by kernel_rfl)).trans (hF 6 (by decide))
    have h:=aB [(15,.tuple #[.agg (av (jx (ae L) (L.getD d9 z3).1.me)),(fv (vl6 5))])] (hs9.trans h.size) (hd9.trans h.defers) (holds_lk ⟨e15,trivial⟩)
    replace s:St w (.blk lp (.loop (rc .busy))::.blk D9 (.deferred (some []))::.blk b3 (.cells (#[v11]) 36)::.sl v11 28 33 (ae L).length (am (ae L))::.blk b2 (.cells (#[.bool false]) 4)::.blk b1 (.cells (#[vo]) 24)::(R9++E9)) _:=s
    refine ac h (aW (h.ev rfl) rfl) rfl ?_;intro f h
    exact ai ⟨_,a6 23 rfl (h.holds 23 _ rfl),rfl,s⟩
   ·intro f9 w2 vl6 E9 hs9 hd9 hl hF s
    have h:=aB [] (hs9.trans h.size) (hd9.trans h.defers) (holds_lk trivial)
    replace s:St w (.blk lp (.loop (rc .busy))::.blk D9 (.deferred (some []))::.blk b3 (.cells (#[v11]) 36)::.sl v11 28 33 (ae L).length (am (ae L))::.blk b2 (.cells (#[.bool false]) 4)::.blk b1 (.cells (#[vo]) 24)::(R9++E9)) _:=s
    refine bi (av ap) h s cF rfl rfl ?_;intro f w1 b5 h s
    exact ai ⟨_,a6 5 rfl (h.holds 5 _ rfl),⟨_,rfl⟩,s⟩
   ·intro f9 w2 vl6 E9 hs9 hd9 hl hF s
    obtain ⟨b5,hb5⟩:∃ b,vl6 9=.pointer (some ⟨b,0,none⟩):=hF 9 (by decide)
    have e5:f9.tmps.getD 5 undef=.pointer (some ⟨b5,0,none⟩):=(bc hl 5 9 (by kernel_rfl) (by kernel_rfl)).trans hb5
    have e22:f9.tmps.getD 22 undef=.agg (av (jx (ae L) (L.getD d9 z3).1.me)):=(bc hl 22 7 (by kernel_rfl) (by kernel_rfl)).trans (hF 7 (by decide))
    have h:=aB [(5,.pointer (some ⟨b5,0,none⟩)),(22,.agg (av (jx (ae L) (L.getD d9 z3).1.me)))] (hs9.trans h.size) (hd9.trans h.defers) (holds_lk ⟨e5,e22,trivial⟩)
    replace s:St w (.blk (wH (vl6 9)) (.cells (av ap) 28)::.blk lp (.loop (rc .busy))::.blk D9 (.deferred (some []))::.blk b3 (.cells (#[v11]) 36)::.sl v11 28 33 (ae L).length (am (ae L))::.blk b2 (.cells (#[.bool false]) 4)::.blk b1 (.cells (#[vo]) 24)::(R9++E9)) _:=s
    rw [hb5] at s
    replace s:St w (.blk b5 (.cells (av ap) 28)::.blk lp (.loop (rc .busy))::.blk D9 (.deferred (some []))::.blk b3 (.cells (#[v11]) 36)::.sl v11 28 33 (ae L).length (am (ae L))::.blk b2 (.cells (#[.bool false]) 4)::.blk b1 (.cells (#[vo]) 24)::(R9++E9)) _:=s
    refine aA 0 h s aJ rfl rfl rfl (al _) (al _) (aX _) ?_;intro w1 s
    refine ai ⟨undef,fM rfl,trivial,?_⟩
    have z:=s
    rw [← show wH (vl6 9)=b5 from by rw [hb5];rfl] at z
    exact z
   ·intro f9 w2 vl6 E9 hs9 hd9 hl hF s
    have e23:f9.tmps.getD 23 undef=(fv (vl6 5)):=(bc hl 23 8 (by kernel_rfl) (by kernel_rfl)).trans (hF 8 (by decide))
    have h:=aB [(23,(fv (vl6 5)))] (hs9.trans h.size) (hd9.trans h.defers) (holds_lk ⟨e23,trivial⟩)
    replace s:St w (.blk lp (.loop (rc .busy))::.blk D9 (.deferred (some []))::.blk b3 (.cells (#[v11]) 36)::.sl v11 28 33 (ae L).length (am (ae L))::.blk b2 (.cells (#[.bool false]) 4)::.blk b1 (.cells (#[vo]) 24)::(R9++E9)) _:=s
    refine ac h (aj (h.ev rfl)) rfl ?_;intro f h
    exact ai ⟨_,a6 6 rfl (h.holds 6 _ rfl),rfl,s⟩
   intro f w1 vl6 hs9 hd9 hv hr hF s
   obtain ⟨b5,hb5⟩:∃ b,vl6 9=.pointer (some ⟨b,0,none⟩):=hF 9 (by kernel_rfl)
   replace h:=j5 (ops:=_) [(16,v11),(17,.pointer (some (aF vo (d9*68)))),(18,.pointer (some (aF vo (d9*68)))),(19,.pointer (some (aF vo (d9*68+0)))),(20,.agg (av (L.getD d9 z3).1.me)),(21,.tuple #[.agg (av (jx (ae L) (L.getD d9 z3).1.me)),(fv (vl6 5))]),(15,.tuple #[.agg (av (jx (ae L) (L.getD d9 z3).1.me)),(fv (vl6 5))]),(22,.agg (av (jx (ae L) (L.getD d9 z3).1.me))),(23,(fv (vl6 5))),(5,.pointer (some ⟨b5,0,none⟩)),(6,(fv (vl6 5)))] h hs9 hd9 hr ⟨(hv 0 16 rfl).trans (hF 0 (by kernel_rfl)),(hv 1 17 rfl).trans (hF 1 (by kernel_rfl)),(hv 2 18 rfl).trans (hF 2 (by kernel_rfl)),(hv 3 19 rfl).trans (hF 3 (by kernel_rfl)),(hv 4 20 rfl).trans (hF 4 (by kernel_rfl)),(hv 5 21 rfl).trans (hF 5 (by kernel_rfl)),(hv 6 15 rfl).trans (hF 6 (by kernel_rfl)),(hv 7 22 rfl).trans (hF 7 (by kernel_rfl)),(hv 8 23 rfl).trans (hF 8 (by kernel_rfl)),(hv 9 5 rfl).trans hb5,(hv 11 6 rfl).trans (hF 11 (by kernel_rfl)),trivial⟩ (by kernel_rfl)
   replace s:St w (.sl (fv (vl6 5)) 28 33 (oB (ae L) (L.getD d9 z3).1.me).length (am (oB (ae L) (L.getD d9 z3).1.me))::.blk (wH (vl6 9)) (.cells (av (jx (ae L) (L.getD d9 z3).1.me)) 28)::.blk lp (.loop (rc .busy))::.blk D9 (.deferred (some []))::.blk b3 (.cells (#[v11]) 36)::.sl v11 28 33 (ae L).length (am (ae L))::.blk b2 (.cells (#[.bool false]) 4)::.blk b1 (.cells (#[vo]) 24)::R9) _:=s
   rw [hb5] at s
   replace s:St w (.sl (fv (vl6 5)) 28 33 (oB (ae L) (L.getD d9 z3).1.me).length (am (oB (ae L) (L.getD d9 z3).1.me))::.blk b5 (.cells (av (jx (ae L) (L.getD d9 z3).1.me)) 28)::.blk lp (.loop (rc .busy))::.blk D9 (.deferred (some []))::.blk b3 (.cells (#[v11]) 36)::.sl v11 28 33 (ae L).length (am (ae L))::.blk b2 (.cells (#[.bool false]) 4)::.blk b1 (.cells (#[vo]) 24)::R9) _:=s
   refine hK8 _ _ ?_
   refine ak fun K9 hK9=>?_
   cases q0:(decide ((L.getD d9 z3).1.pr=(jx (ae L) (L.getD d9 z3).1.me)):Bool)
   ·skip
    refine bG 15 [[],[0],[0,1],[0,1,2],[],[0,1,2,3,4],[0,1,2,3,4,5],[0,1,2,3,4,5,6],[0,1,2,3,4,5,6,7],[0,1,2,3,4,5,6,7,8],[0,1,2,3,4,5,6,7,8,9],[0,1,2,3,4,5,6],[0,1,2,3,4,5,6,7,8,9,10,11],[0,1,2,3,4,5,6,7,8,9,10,11,12],[0,1,2,3,4,5,6,7,8,9,10,11,12,13]] h (by kernel_rfl) (by kernel_rfl) (by kernel_rfl) ?_
    have hx9:=hb.each _ (bj hdl9)
    refine ao h (ah (h.ev rfl)) rfl ?_;intro f h
    refine ao h (aZ (h.ev rfl)) rfl ?_;intro f h
    refine ao h (bB cx (h.ev rfl) ((hO.1.keep s.ext).some (by omega))) rfl ?_;intro f h
    refine bg (bO.elF (hO.1.keep s.ext) (d9) 33 33 (by omega) (by decide) (C:=au (L.getD d9 z3).1.me (L.getD d9 z3).1.pr (L.getD d9 z3).2.1 (L.getD d9 z3).2.2) (cR L d9 hdl9) (D:=av (L.getD d9 z3).1.pr) (cN _ _ _ _)) h aJ rfl (al _) rfl ?_;intro f h
    refine bC 1 h s aJ rfl rfl (al _) rfl ?_;intro f h
    refine ao h (aE (.bool true) (fh (i9 _ _) (by kernel_rfl) (by decide) (h.ev rfl) (h.ev rfl) (decide ((L.getD d9 z3).1.pr=(jx (ae L) (L.getD d9 z3).1.me))) (er _ _)) (by rw [q0];rfl)) rfl ?_;intro f h
    refine ao h (ah (h.ev rfl)) rfl ?_;intro f h
    refine ba (b:=false) h rfl rfl rfl rfl ?_;intro f h
    refine ba (b:=false) h rfl rfl rfl rfl ?_;intro f h
    refine ba (b:=false) h rfl rfl rfl rfl ?_;intro f h
    refine ba (b:=false) h rfl rfl rfl rfl ?_;intro f h
    refine ba (b:=false) h rfl rfl rfl rfl ?_;intro f h
    refine ba (b:=false) h rfl rfl rfl rfl ?_;intro f h
    refine ba (b:=false) h rfl rfl rfl rfl ?_;intro f h
    refine ao h (aO (h.ev rfl) (h.ev rfl)) rfl ?_;intro f h
    refine cn s fun w1 s=>?_
    refine ai ?_
    refine hK9 _ _ ?_
    refine wpIn_cond_true (h.ev rfl) ?_
    refine ak fun K10 hK10=>?_
    refine ag ?_
    refine bk 6 h s eU rfl rfl rfl (by simp) (rfl) ?_;intro w1 s
    refine ai ?_
    refine hK10 _ _ ?_
    refine wpIn_ret ?_
    refine bT ?_
    refine ⟨(Cw q0),_,rfl,s.pick _ ?_⟩
    exact List.Sublist.cons _ (List.Sublist.cons _ (List.Sublist.cons_cons _ (List.Sublist.refl _)))
   ·skip
    cases q1:(decide ((L.getD d9 z3).1.sc=(oB (ae L) (L.getD d9 z3).1.me)):Bool)
    ·skip
     refine bG 15 [[],[0],[0,1],[0,1,2],[],[0,1,2,3,4],[0,1,2,3,4,5],[0,1,2,3,4,5,6],[0,1,2,3,4,5,6,7],[0,1,2,3,4,5,6,7,8],[0,1,2,3,4,5,6,7,8,9],[0,1,2,3,4,5,6],[0,1,2,3,4,5,6,7,8,9,10,11],[0,1,2,3,4,5,6,7,8,9,10,11,12],[0,1,2,3,4,5,6,7,8,9,10,11,12,13]] h (by kernel_rfl) (by kernel_rfl) (by kernel_rfl) ?_
     have hx9:=hb.each _ (bj hdl9)
     refine ao h (ah (h.ev rfl)) rfl ?_;intro f h
     refine ao h (aZ (h.ev rfl)) rfl ?_;intro f h
     refine ao h (bB cx (h.ev rfl) ((hO.1.keep s.ext).some (by omega))) rfl ?_;intro f h
     refine bg (bO.elF (hO.1.keep s.ext) (d9) 33 33 (by omega) (by decide) (C:=au (L.getD d9 z3).1.me (L.getD d9 z3).1.pr (L.getD d9 z3).2.1 (L.getD d9 z3).2.2) (cR L d9 hdl9) (D:=av (L.getD d9 z3).1.pr) (cN _ _ _ _)) h aJ rfl (al _) rfl ?_;intro f h
     refine bC 1 h s aJ rfl rfl (al _) rfl ?_;intro f h
     refine ao h (aE (.bool false) (fh (i9 _ _) (by kernel_rfl) (by decide) (h.ev rfl) (h.ev rfl) (decide ((L.getD d9 z3).1.pr=(jx (ae L) (L.getD d9 z3).1.me))) (er _ _)) (by rw [q0];rfl)) rfl ?_;intro f h
     refine ao h (ah (h.ev rfl)) rfl ?_;intro f h
     refine bf h rfl rfl rfl ?_
     refine ao h (ah (h.ev rfl)) rfl ?_;intro f h
     refine bf h rfl rfl rfl ?_
     refine ao h (aZ (h.ev rfl)) rfl ?_;intro f h
     refine bf h rfl rfl rfl ?_
     refine ao h (bB cC (h.ev rfl) ((hO.1.keep s.ext).some (by omega))) rfl ?_;intro f h
     refine bf h rfl rfl rfl ?_
     refine bz (V:=(L.getD d9 z3).2.1) (dq (hO.1.keep s.ext) (d9*68+66) (gW L d9 hdl9)) h cf rfl rfl ?_;intro f h
     refine bf h rfl rfl rfl ?_
     refine ao h (ah (h.ev rfl)) rfl ?_;intro f h
     refine bf h rfl rfl rfl ?_
     refine cm h zw (fun w9 hE9=>aT (.bool false) (na (L.getD d9 z3).1.sc (oB (ae L) (L.getD d9 z3).1.me) (L.getD d9 z3).2.1 (fv (vl6 5)) w9 ((hO.2 _ (bj hdl9)).1.keep (s.ext.trans hE9)) ((bO.of_own (s.getSl 0 rfl)).keep hE9) (by omega) (by have:=yJ (ae L) (L.getD d9 z3).1.me;omega)) (congrArg Value.bool q1)) rfl rfl ?_;intro f h
     refine bf h rfl rfl rfl ?_
     refine ao h (aE (.bool true) (bI (h.ev rfl)) rfl) rfl ?_;intro f h
     refine ao h (aL (h.ev rfl) (h.ev rfl)) rfl ?_;intro f h
     refine cn s fun w1 s=>?_
     refine ai ?_
     refine hK9 _ _ ?_
     refine wpIn_cond_true (h.ev rfl) ?_
     refine ak fun K11 hK11=>?_
     refine ag ?_
     refine bk 6 h s eU rfl rfl rfl (by simp) (rfl) ?_;intro w1 s
     refine ai ?_
     refine hK11 _ _ ?_
     refine wpIn_ret ?_
     refine bT ?_
     refine ⟨((zi q0).trans (by rw [q1];rfl)),_,rfl,s.pick _ ?_⟩
     exact List.Sublist.cons _ (List.Sublist.cons _ (List.Sublist.cons_cons _ (List.Sublist.refl _)))
    ·skip
     refine bG 15 [[],[0],[0,1],[0,1,2],[],[0,1,2,3,4],[0,1,2,3,4,5],[0,1,2,3,4,5,6],[0,1,2,3,4,5,6,7],[0,1,2,3,4,5,6,7,8],[0,1,2,3,4,5,6,7,8,9],[0,1,2,3,4,5,6],[0,1,2,3,4,5,6,7,8,9,10,11],[0,1,2,3,4,5,6,7,8,9,10,11,12],[0,1,2,3,4,5,6,7,8,9,10,11,12,13]] h (by kernel_rfl) (by kernel_rfl) (by kernel_rfl) ?_
     have hx9:=hb.each _ (bj hdl9)
     refine ao h (ah (h.ev rfl)) rfl ?_;intro f h
     refine ao h (aZ (h.ev rfl)) rfl ?_;intro f h
     refine ao h (bB cx (h.ev rfl) ((hO.1.keep s.ext).some (by omega))) rfl ?_;intro f h
     refine bg (bO.elF (hO.1.keep s.ext) (d9) 33 33 (by omega) (by decide) (C:=au (L.getD d9 z3).1.me (L.getD d9 z3).1.pr (L.getD d9 z3).2.1 (L.getD d9 z3).2.2) (cR L d9 hdl9) (D:=av (L.getD d9 z3).1.pr) (cN _ _ _ _)) h aJ rfl (al _) rfl ?_;intro f h
     refine bC 1 h s aJ rfl rfl (al _) rfl ?_;intro f h
     refine ao h (aE (.bool false) (fh (i9 _ _) (by kernel_rfl) (by decide) (h.ev rfl) (h.ev rfl) (decide ((L.getD d9 z3).1.pr=(jx (ae L) (L.getD d9 z3).1.me))) (er _ _)) (by rw [q0];rfl)) rfl ?_;intro f h
     refine ao h (ah (h.ev rfl)) rfl ?_;intro f h
     refine bf h rfl rfl rfl ?_
     refine ao h (ah (h.ev rfl)) rfl ?_;intro f h
     refine bf h rfl rfl rfl ?_
     refine ao h (aZ (h.ev rfl)) rfl ?_;intro f h
     refine bf h rfl rfl rfl ?_
     refine ao h (bB cC (h.ev rfl) ((hO.1.keep s.ext).some (by omega))) rfl ?_;intro f h
     refine bf h rfl rfl rfl ?_
     refine bz (V:=(L.getD d9 z3).2.1) (dq (hO.1.keep s.ext) (d9*68+66) (gW L d9 hdl9)) h cf rfl rfl ?_;intro f h
     refine bf h rfl rfl rfl ?_
     refine ao h (ah (h.ev rfl)) rfl ?_;intro f h
     refine bf h rfl rfl rfl ?_
     refine cm h zw (fun w9 hE9=>aT (.bool true) (na (L.getD d9 z3).1.sc (oB (ae L) (L.getD d9 z3).1.me) (L.getD d9 z3).2.1 (fv (vl6 5)) w9 ((hO.2 _ (bj hdl9)).1.keep (s.ext.trans hE9)) ((bO.of_own (s.getSl 0 rfl)).keep hE9) (by omega) (by have:=yJ (ae L) (L.getD d9 z3).1.me;omega)) (congrArg Value.bool q1)) rfl rfl ?_;intro f h
     refine bf h rfl rfl rfl ?_
     refine ao h (aE (.bool false) (bI (h.ev rfl)) rfl) rfl ?_;intro f h
     refine ao h (aL (h.ev rfl) (h.ev rfl)) rfl ?_;intro f h
     refine cn s fun w1 s=>?_
     refine ai ?_
     refine hK9 _ _ ?_
     refine wpIn_cond_false (h.ev rfl) ?_
     refine wpIn_skip ?_
     refine bH ?_
     refine ⟨((zi q0).trans (by rw [q1];rfl)),_,rfl,s.pick _ ?_⟩
     exact List.Sublist.cons _ (List.Sublist.cons _ (List.Sublist.cons_cons _ (List.Sublist.refl _)))
  ·intro D9 A9 w2 hJ9 hq9 s
   obtain rfl:=hJ9
   replace h:Sl _ {f with defers:={target:=.collected D9,args:=#[]}::f.defers} _ [{target:=.collected D9,args:=#[]}]:=⟨h.size,by rw [h.defers],h.holds⟩
   refine bH ?_
   refine hK6 _ _ ?_
   refine ak fun K12 hK12=>?_
   refine ag ?_
   refine bk 4 h s eU rfl rfl rfl (by simp) (rfl) ?_;intro w1 s
   refine ai ?_
   refine hK12 _ _ ?_
   refine wpIn_ret ?_
   exact eM 4 0 rfl h s eU rfl rfl rfl rfl rfl (fun w9=>(congrArg Value.bool (yE r0 hq9)).symm)
  ·intro D9 d9 A9 w2 hd9 hqd9 hq9 hJ9 s
   obtain rfl:=hJ9
   replace h:Sl _ {f with defers:={target:=.collected D9,args:=#[]}::f.defers} _ [{target:=.collected D9,args:=#[]}]:=⟨h.size,by rw [h.defers],h.holds⟩
   refine bT ?_
   refine a8 ?_
   exact eM 4 0 rfl h s eU rfl rfl rfl rfl rfl (fun w9=>(congrArg Value.bool (xl r0 hd9 hqd9)).symm)
end Go.Proofs.YthggibfkgofncaaGreat
