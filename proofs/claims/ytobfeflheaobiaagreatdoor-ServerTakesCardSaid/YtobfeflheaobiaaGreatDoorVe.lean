/- Which entries, stacks and messages may be, and which are the same, by the references. -/
import Derived.Test.YtobfeflheaobiaaGreatDoorCon
set_option linter.unusedVariables false
set_option linter.unusedSimpArgs false
set_option linter.unusedSectionVars false
namespace Go.Proofs.YtobfeflheaobiaaGreatDoor
open Go.RowKit
theorem Gf (e:cU) (hk:e.1=1) (w:World):Calls Tryz.prog 30 [.agg (bg e)].toArray w (cp w (is (.bool (fK e)))):=by
 refine bF Tryz.func30 rfl Tryz.ntmps30 rfl fun f h s=>qr (aZ (bg e) h s rfl rfl rfl fun f w1 b1 h s=>e9 ab 1 h rfl fun f h=>bH ab 1 h rfl fun f h=>al (bZ ab 1 h rfl fun f h=>ar (aG.subL (aG.of_own s 0 rfl) 1 32 (D:=aA (_)) (fR _)) h aN rfl (by first|exact ai _|exact ah _ _) rfl fun f h=>e9 ab 1 h rfl fun f h=>wpIn_block (wpIn_loop_ghost (fun nn aa ww=>∃ k:Nat,Sl 43 aa [(0,.agg (bg e)),(1,.pointer (some ⟨b1,0,none⟩)),(3,.bool (zB e.2.1 k)),(7,.agg (aA e.2.1)),(8,.int .i64 (k:Int))]∧St w [.blk b1 (.cells (bg e) 28)] ww∧nn=32 - k∧k≤32) (32 - (0)) ⟨0,h.only ⟨rfl,rfl,rfl,rfl,aq rfl (by omega),trivial⟩,s.as ⟨rfl,trivial⟩,rfl,Nat.zero_le _⟩ ?_)))
 rintro _ f w1 ⟨k,h,s,hnn,hp0⟩
 refine bH ab 1 h rfl fun f h=>al (cV h rfl (fun hc=>?_) (fun hc=>?_))
 ·refine kt (al (wpIn_block (qr (ae h (o5 d8 (k) (h.ev rfl) (h.ev rfl) (by omega) (by omega)) rfl fun f h=>e9 ab 1 h rfl fun f h=>?_))))
  refine rs ab 1 h rfl fun f h=>cZ ab h rfl (fun hz f h=>?_) (fun hz f h=>?_)
  ·refine am ab 4 h rfl fun f h=>av (ba (aE (aF (ae h (a6 (h.ev rfl) (h.ev rfl) (by omega)) rfl fun f h=>e9 ab 1 h rfl fun f h=>?_))))
   exact ⟨_,by omega,⟨k+1,h.only ⟨rfl,rfl,d5 rfl (by rw [pP,hz];rfl),rfl,aq rfl (by omega),trivial⟩,St.as s ⟨rfl,trivial⟩,rfl,by omega⟩⟩
  ·refine am ab 4 h rfl fun f h=>av (ba (aE (aF (ae h (a6 (h.ev rfl) (h.ev rfl) (by omega)) rfl fun f h=>e9 ab 1 h rfl fun f h=>?_))))
   exact ⟨_,by omega,⟨k+1,h.only ⟨rfl,rfl,d5 rfl (by rw [pP,hz];simp),rfl,aq rfl (by omega),trivial⟩,St.as s ⟨rfl,trivial⟩,rfl,by omega⟩⟩
 ·refine wpIn_exit (aU (aU (bR (aE (al ?_)))))
  refine rs ab 1 h rfl fun f h=>ag (ac (aG.of_own s 0 rfl) 0 (d7 _)) h bo rfl rfl fun f h=>fm ab h rfl (decide_eq_true (hk)) fun f h=>am ab 2 h rfl fun f h=>bf h rfl (ag (ac (aG.of_own s 0 rfl) 33 (dO _)) h bo rfl rfl fun f h=>bf h rfl (cZ ab h rfl (fun hh f h=>?_) (fun hh f h=>?_)))
  ·refine am ab 3 h rfl fun f h=>bf h rfl (ag (ac (aG.of_own s 0 rfl) 0 (d7 _)) h bo rfl rfl fun f h=>bf h rfl (gE ab h rfl (decide_eq_false (by omega)) fun f h=>e9 ab 15 h rfl fun f h=>wpIn_ret (aH rfl h s rfl (by show _=_;rw [sQ _ hk,hh]))))
  ·refine am ab 6 h rfl fun f h=>cw h rfl rfl rfl rfl ?_;intro f h
   refine am ab 2 h rfl fun f h=>cw h rfl rfl rfl rfl ?_;intro f h
   refine cw h rfl rfl rfl rfl ?_;intro f h
   refine cw h rfl rfl rfl rfl ?_;intro f h
   refine am ab 2 h rfl fun f h=>cw h rfl rfl rfl rfl ?_;intro f h
   refine cw h rfl rfl rfl rfl ?_;intro f h
   refine cw h rfl rfl rfl rfl ?_;intro f h
   refine e9 ab 3 h rfl fun f h=>wpIn_ret (aH rfl h s rfl (by show _=_;rw [sQ _ hk,hh]))
theorem E4 (e:cU) (hk:e.1≠1) (w:World):Calls Tryz.prog 30 [.agg (bg e)].toArray w (cp w (is (.bool (fK e)))):=by
 refine bF Tryz.func30 rfl Tryz.ntmps30 rfl fun f h s=>qr (aZ (bg e) h s rfl rfl rfl fun f w1 b1 h s=>e9 ab 1 h rfl fun f h=>bH ab 1 h rfl fun f h=>al (bZ ab 1 h rfl fun f h=>ar (aG.subL (aG.of_own s 0 rfl) 1 32 (D:=aA (_)) (fR _)) h aN rfl (by first|exact ai _|exact ah _ _) rfl fun f h=>e9 ab 1 h rfl fun f h=>wpIn_block (wpIn_loop_ghost (fun nn aa ww=>∃ k:Nat,Sl 43 aa [(0,.agg (bg e)),(1,.pointer (some ⟨b1,0,none⟩)),(3,.bool (zB e.2.1 k)),(7,.agg (aA e.2.1)),(8,.int .i64 (k:Int))]∧St w [.blk b1 (.cells (bg e) 28)] ww∧nn=32 - k∧k≤32) (32 - (0)) ⟨0,h.only ⟨rfl,rfl,rfl,rfl,aq rfl (by omega),trivial⟩,s.as ⟨rfl,trivial⟩,rfl,Nat.zero_le _⟩ ?_)))
 rintro _ f w1 ⟨k,h,s,hnn,hp0⟩
 refine bH ab 1 h rfl fun f h=>al (cV h rfl (fun hc=>?_) (fun hc=>?_))
 ·refine kt (al (wpIn_block (qr (ae h (o5 d8 (k) (h.ev rfl) (h.ev rfl) (by omega) (by omega)) rfl fun f h=>e9 ab 1 h rfl fun f h=>?_))))
  refine rs ab 1 h rfl fun f h=>cZ ab h rfl (fun hz f h=>?_) (fun hz f h=>?_)
  ·refine am ab 4 h rfl fun f h=>av (ba (aE (aF (ae h (a6 (h.ev rfl) (h.ev rfl) (by omega)) rfl fun f h=>e9 ab 1 h rfl fun f h=>?_))))
   exact ⟨_,by omega,⟨k+1,h.only ⟨rfl,rfl,d5 rfl (by rw [pP,hz];rfl),rfl,aq rfl (by omega),trivial⟩,St.as s ⟨rfl,trivial⟩,rfl,by omega⟩⟩
  ·refine am ab 4 h rfl fun f h=>av (ba (aE (aF (ae h (a6 (h.ev rfl) (h.ev rfl) (by omega)) rfl fun f h=>e9 ab 1 h rfl fun f h=>?_))))
   exact ⟨_,by omega,⟨k+1,h.only ⟨rfl,rfl,d5 rfl (by rw [pP,hz];simp),rfl,aq rfl (by omega),trivial⟩,St.as s ⟨rfl,trivial⟩,rfl,by omega⟩⟩
 ·refine wpIn_exit (aU (aU (bR (aE (al ?_)))))
  refine rs ab 1 h rfl fun f h=>ag (ac (aG.of_own s 0 rfl) 0 (d7 _)) h bo rfl rfl fun f h=>gE ab h rfl (decide_eq_false (hk)) fun f h=>am ab 7 h rfl fun f h=>bf h rfl (ag (ac (aG.of_own s 0 rfl) 0 (d7 _)) h bo rfl rfl fun f h=>bf h rfl (cZ ab h rfl (fun h2 f h=>?_) (fun h2 f h=>?_)))
  ·refine e9 ab 15 h rfl fun f h=>wpIn_ret ?_
   obtain rfl:k=32:=by omega
   exact aH rfl h s rfl (by show _=_;rw [vp _ hk (of_decide_eq_false h2)])
  ·skip
   refine am ab 1 h rfl fun f h=>bf h rfl (cZ ab h rfl (fun hz f h=>?_) (fun hz f h=>?_))
   ·refine e9 ab 13 h rfl fun f h=>wpIn_ret ?_
    obtain rfl:k=32:=by omega
    exact aH rfl h s rfl (by show _=_;rw [mu _ (of_decide_eq_true h2),← xD,hz];rfl)
   ·skip
    refine am ab 3 h rfl fun f h=>bf h rfl (ag (ac (aG.of_own s 0 rfl) 33 (dO _)) h bo rfl rfl fun f h=>bf h rfl (cZ ab h rfl (fun hg f h=>?_) (fun hg f h=>?_)))
    ·refine e9 ab 8 h rfl fun f h=>wpIn_ret ?_
     obtain rfl:k=32:=by omega
     exact aH rfl h s rfl (by show _=_;rw [mu _ (of_decide_eq_true h2),← xD,hz,hg];rfl)
    ·refine am ab 3 h rfl fun f h=>bf h rfl (ag (ac (aG.of_own s 0 rfl) 33 (dO _)) h bo rfl rfl fun f h=>e9 ab 4 h rfl fun f h=>wpIn_ret ?_)
     obtain rfl:k=32:=by omega
     exact aH rfl h s rfl (by show _=_;rw [mu _ (of_decide_eq_true h2),← xD,hz,hg];simp;omega)
theorem tR (e:cU) (w:World):Calls Tryz.prog 30 [.agg (bg e)].toArray w (cp w (is (.bool (fK e)))):=by
 by_cases h:e.1=1
 ·exact Gf e h w
 ·exact E4 e h w
theorem EG (l:List cU) (vh:Value) (w:World) (hv:bI w vh 34 l.length (br l)) (hln:l.length≤1000000):Calls Tryz.prog 52 [vh].toArray w (cp w (is (.bool (l.all fK)))):=by
 refine bF Tryz.func52 rfl Tryz.ntmps52 rfl fun f h s=>bH ab 1 h rfl fun f h=>al (bZ ab 1 h rfl fun f h=>dN h (hv.keep s.ext) Tryz.underlying29 rfl rfl fun f h=>e9 ab 1 h rfl fun f h=>wpIn_block (wpIn_loop_ghost (fun nn aa ww=>∃ k:Nat,Sl 15 aa [(0,vh),(5,vh),(6,.int .i64 (l.length:Int)),(7,.int .i64 (k:Int))]∧St w [] ww∧nn=l.length - k∧k≤l.length∧∀ i (hi:i<l.length),i<k→fK l[i]=true) (l.length - (0)) ⟨0,h.only ⟨rfl,rfl,rfl,aq rfl (by omega),trivial⟩,s.as trivial,rfl,Nat.zero_le _,fun i hi h9=>absurd h9 (Nat.not_lt_zero _)⟩ ?_))
 rintro _ f w1 ⟨k,h,s,hnn,hp0,hp1⟩
 refine bH ab 1 h rfl fun f h=>al (cV h rfl (fun hc=>?_) (fun hc=>?_))
 ·refine kt (al (wpIn_block (qr ?_)))
  have hkl:k<l.length:=by omega
  refine ae h (a7 (hv.keep s.ext) (k) Tryz.underlying29 fp (h.ev rfl) (h.ev rfl) (by omega) (by omega)) rfl fun f h=>ar ((hv.keep s.ext).el (k) (by omega) (by decide) (D:=bg l[k]) (CZ l k hkl)) h bY rfl (aC _) rfl fun f h=>aK (bg (0,0#256,0)) h s ob rfl rfl fun f w1 b4 h s=>aj 0 h s bY rfl rfl rfl (aC _) (aC _) (fD _) fun w1 s=>nt (qr (ak 0 h s bY rfl rfl (aC _) rfl fun f h=>c7 h s Cg (tR _ _) rfl rfl fun f w1 h s=>e9 ab 1 h rfl fun f h=>cd h rfl (fun hc=>?_) (fun hc=>?_)))
  ·refine bH ab 1 h rfl fun f h=>wpIn_ret (ck (bK (bK (ck (bK (aH rfl h s rfl (congrArg Value.bool (CQ hkl hc))))))))
  ·refine wpIn_skip (ba (aE (aF (ae h (a6 (h.ev rfl) (h.ev rfl) (by omega)) rfl fun f h=>e9 ab 1 h rfl fun f h=>?_))))
   exact ⟨_,by omega,⟨k+1,h.only ⟨rfl,rfl,rfl,aq rfl (by omega),trivial⟩,St.as (s.pick _ (List.sublist_append_right [_] _)) trivial,rfl,by omega,u5 (fun y=>fK y=true) hp1 hkl (by simpa using hc)⟩⟩
 ·refine wpIn_exit (aU (aU (bR (aE (bH ab 1 h rfl fun f h=>wpIn_ret (aH rfl h s rfl (congrArg Value.bool (zP (by omega) hp1))))))))
theorem qb (l:List cU) (vh:Value) (w:World) (hv:bI w vh 34 l.length (br l)) (hln:l.length≤1000000):Calls Tryz.prog 31 [vh].toArray w (cp w (is (.bool (gi l)))):=by
 refine bF Tryz.func31 rfl Tryz.ntmps31 rfl fun f h s=>bH ab 1 h rfl fun f h=>al ?_
 refine rs ab 1 h rfl fun f h=>dN h (hv.keep s.ext) Tryz.underlying29 rfl rfl fun f h=>nX ab (decide (0<l.length)) h rfl ((decide_eq_decide.2 (by omega))) (fun h1 f h=>?_) (fun h1 f h=>?_)
 ·refine e9 ab 10 h rfl fun f h=>wpIn_ret (aH rfl h s rfl (by show _=_;unfold gi;rw [h1];rfl))
 ·skip
  refine am ab 2 h rfl fun f h=>bf h rfl (dN h (hv.keep s.ext) Tryz.underlying29 rfl rfl fun f h=>bf h rfl (nX ab (decide (l.length≤4)) h rfl ((decide_eq_decide.2 (by omega))) (fun h2 f h=>?_) (fun h2 f h=>?_)))
  ·refine e9 ab 6 h rfl fun f h=>wpIn_ret (aH rfl h s rfl (by show _=_;unfold gi;rw [h1,h2];rfl))
  ·refine am ab 3 h rfl fun f h=>bf h rfl (c7 h s Nb (EG l vh _ (hv.keep s.ext) hln) rfl rfl fun f w1 h s=>e9 ab 2 h rfl fun f h=>wpIn_ret (aH rfl h s rfl (by show _=_;unfold gi;rw [h1,h2];rfl)))
theorem Ai (l m:List cU) (vh vu:Value) (w:World) (hv:bI w vh 34 l.length (br l)) (hu:bI w vu 34 m.length (br m)) (hln:l.length≤1000000) (hmn:m.length≤1000000):Calls Tryz.prog 61 [vh,vu].toArray w (cp w (is (.bool (decide (l=m))))):=by
 refine bF Tryz.func61 rfl Tryz.ntmps61 rfl fun f h s=>bH ab 1 h rfl fun f h=>al (bZ ab 1 h rfl fun f h=>dN h (hv.keep s.ext) Tryz.underlying29 rfl rfl fun f h=>am ab 1 h rfl fun f h=>dN h (hu.keep s.ext) Tryz.underlying29 rfl rfl fun f h=>e9 ab 1 h rfl fun f h=>cV h rfl (fun hc=>?_) (fun hc=>?_))
 ·refine bH ab 1 h rfl fun f h=>rt (aH rfl h s rfl (congrArg Value.bool (decide_eq_false (fun h9=>by rw [h9] at hc;omega)).symm))
 ·have hlm:l.length=m.length:=by omega
  refine kt (al (bZ ab 1 h rfl fun f h=>dN h (hv.keep s.ext) Tryz.underlying29 rfl rfl fun f h=>e9 ab 1 h rfl fun f h=>wpIn_block (wpIn_loop_ghost (fun nn aa ww=>∃ k:Nat,Sl 26 aa [(0,vh),(1,vu),(11,vh),(12,.int .i64 (l.length:Int)),(13,.int .i64 (k:Int))]∧St w [] ww∧nn=l.length - k∧k≤l.length∧∀ i (hi:i<l.length),i<k→l[i]? = m[i]?) (l.length - (0)) ⟨0,h.only ⟨rfl,rfl,rfl,rfl,aq rfl (by omega),trivial⟩,s.as trivial,rfl,Nat.zero_le _,fun i hi h9=>absurd h9 (Nat.not_lt_zero _)⟩ ?_)))
  rintro _ f w1 ⟨k,h,s,hnn,hp0,hp1⟩
  refine qr ?_
  skip
  refine e9 ab 1 h rfl fun f h=>al (cV h rfl (fun hc=>?_) (fun hc=>?_))
  ·refine kt (al (wpIn_block (bH ab 2 h rfl fun f h=>al (eo 9 h (by kernel_rfl) (az ab 2 h rfl fun f h=>?_)))))
   have hkl:k<l.length:=by omega
   have hkm:k<m.length:=by omega
   refine au h (a7 (hv.keep s.ext) (k) Tryz.underlying29 fp (h.ev rfl) (h.ev rfl) (by omega) (by omega)) rfl fun f h=>bj ((hv.keep s.ext).el (k) (by omega) (by decide) (D:=bg l[k]) (CZ l k hkl)) h bY rfl (aC _) rfl fun f h=>az ab 2 h rfl fun f h=>au h (a7 (hu.keep s.ext) (k) Tryz.underlying29 fp (h.ev rfl) (h.ev rfl) (by omega) (by omega)) rfl fun f h=>bj ((hu.keep s.ext).el (k) (by omega) (by decide) (D:=bg m[k]) (CZ m k hkm)) h bY rfl (aC _) rfl fun f h=>au h (iE (xP _ _) (by kernel_rfl) (by decide) (h.ev rfl) (h.ev rfl) (decide (l[k]=m[k])) (BR _ _)) rfl fun f h=>cj s fun w1 s=>nt (cd h rfl (fun hc=>?_) (fun hc=>?_))
   ·refine bH ab 1 h rfl fun f h=>wpIn_ret (ck (bK (bK (ck (bK (aH rfl h s rfl (congrArg Value.bool (Fk hkl hkm hc))))))))
   ·refine wpIn_skip (ba (aE (aF (ae h (a6 (h.ev rfl) (h.ev rfl) (by omega)) rfl fun f h=>e9 ab 1 h rfl fun f h=>?_))))
    exact ⟨_,by omega,⟨k+1,h.only ⟨rfl,rfl,rfl,rfl,aq rfl (by omega),trivial⟩,St.as s trivial,rfl,by omega,Al hp1 hkl hkm hc⟩⟩
  ·refine wpIn_exit (aU (aU (bR (aE (bH ab 1 h rfl fun f h=>wpIn_ret (aH rfl h s rfl (congrArg Value.bool (DE hlm (by omega) hp1))))))))
theorem fe (k:Int) (f9:Int) (w:World):Calls Tryz.prog 29 [.int .i64 k,.int .u8 f9].toArray w (cp w (is (.bool (lQ k f9)))):=by
 have hsz4:=Hd k
 refine bF Tryz.func29 rfl Tryz.ntmps29 rfl fun f h s=>bH ab 1 h rfl fun f h=>al (al ?_)
 refine rs ab 1 h rfl fun f h=>cZ ab h rfl (fun ha f h=>?_) (fun ha f h=>?_)
 ·skip
  refine am ab 2 h rfl fun f h=>bf h rfl (cZ ab h rfl (fun hb f h=>?_) (fun hb f h=>?_))
  ·refine e9 ab 1 h rfl fun f h=>iU h rfl (qr ?_)
   have hka:=of_decide_eq_false ha
   have hkb:=of_decide_eq_false hb
   refine bn (vs:=[.string ⟨#[]⟩,.string ⟨#[115,110,100]⟩,.string ⟨#[105,116,110]⟩,.string ⟨#[105,116,111]⟩,.string ⟨#[105,116,110,111]⟩,.string ⟨#[105,116]⟩,.string ⟨#[105,116,111]⟩,.string ⟨#[105]⟩,.string ⟨#[105,110]⟩,.string ⟨#[105,110]⟩,.string ⟨#[105,110]⟩]) [.const (.string ⟨#[]⟩),.const (.string ⟨#[115,110,100]⟩),.const (.string ⟨#[105,116,110]⟩),.const (.string ⟨#[105,116,111]⟩),.const (.string ⟨#[105,116,110,111]⟩),.const (.string ⟨#[105,116]⟩),.const (.string ⟨#[105,116,111]⟩),.const (.string ⟨#[105]⟩),.const (.string ⟨#[105,110]⟩),.const (.string ⟨#[105,110]⟩),.const (.string ⟨#[105,110]⟩)] h s Tryz.underlying101 JY rfl rfl (by simp [Value.cells]) rfl rfl rfl fun f w1 v13 h s=>?_
   have s:=s.as (B':=[.sl v13 9 1 11 (r7.map Value.string)]) ⟨eJ rfl rfl,trivial⟩
   refine am ab 1 h rfl fun f h=>ae h (a7 (bI.of_own (s.getSl 0 rfl)) (k.toNat) Tryz.underlying101 O0 (h.ev rfl) (h.ev rfl) (by omega) (by omega)) rfl fun f h=>ag ((bI.of_own (s.getSl 0 rfl)).el1 (k.toNat) (V:=.string (fS k)) (Ji (by omega) (by omega))) h dG rfl rfl fun f h=>e9 ab 1 h rfl fun f h=>al (bH ab 1 h rfl fun f h=>wpIn_block (wpIn_loop_ghost (fun nn aa ww=>∃ j:Nat,Sl 28 aa [(0,.int .i64 k),(1,.int .u8 f9),(13,v13),(5,.string (fS k)),(6,.int .i64 (j:Int))]∧St w [.sl v13 9 1 11 (r7.map Value.string)] ww∧nn=(fS k).size - j∧j≤(fS k).size∧∀ i,i<j→¬ ((sb (fS k) i:Nat):Int)=f9) ((fS k).size - (0)) ⟨0,h.only ⟨rfl,rfl,rfl,rfl,aq rfl rfl,trivial⟩,s.as ⟨rfl,trivial⟩,rfl,Nat.zero_le _,fun i h9=>absurd h9 (Nat.not_lt_zero _)⟩ ?_))
   rintro _ f w1 ⟨j,h,s,hnn,hp0,hp1⟩
   refine al (bZ ab 2 h rfl fun f h=>ae h (ct Tryz.underlying9 (h.ev rfl)) rfl fun f h=>e9 ab 1 h rfl fun f h=>cV h rfl (fun hc=>?_) (fun hc=>?_))
   ·refine kt (al (wpIn_block (bZ ab 2 h rfl fun f h=>?_)))
    have hjl:j<(fS k).size:=by omega
    refine ae h (vd Tryz.underlying9 (j) (h.ev rfl) (h.ev rfl) (by omega) (by omega)) rfl fun f h=>e9 ab 2 h rfl fun f h=>cV h rfl (fun hc=>?_) (fun hc=>?_)
    ·refine bH ab 1 h rfl fun f h=>wpIn_ret (ck (bK (bK (ck (bK (aH rfl h s rfl (by show _=_;exact congrArg Value.bool (C8 (by omega) (by omega) hjl hc))))))))
    ·refine wpIn_skip (ba (aE (rs ab 1 h rfl fun f h=>ae h (a6 (h.ev rfl) (h.ev rfl) (by omega)) rfl fun f h=>e9 ab 1 h rfl fun f h=>?_)))
     exact ⟨_,by omega,⟨j+1,h.only ⟨rfl,rfl,rfl,rfl,aq rfl (by omega),trivial⟩,St.as s ⟨rfl,trivial⟩,rfl,by omega,fun i h9=>(Nat.lt_succ_iff_lt_or_eq.1 h9).elim (hp1 i) (fun e=>by subst e;exact hc)⟩⟩
   ·refine wpIn_exit (aU (aU (bR (aE (bH ab 1 h rfl fun f h=>wpIn_ret (aH rfl h s rfl (by show _=_;exact congrArg Value.bool (G5 (fun i h9=>hp1 i (by omega))))))))))
  ·refine e9 ab 1 h rfl fun f h=>cy h rfl (bH ab 1 h rfl fun f h=>rt (aH rfl h s rfl (by show _=_;exact congrArg Value.bool (FW (of_decide_eq_true hb)))))
 ·refine e9 ab 4 h rfl fun f h=>cy h rfl (bH ab 1 h rfl fun f h=>rt (aH rfl h s rfl (by show _=_;exact congrArg Value.bool (Hz (of_decide_eq_true ha)))))
set_option maxHeartbeats 4000000 in
theorem lK (m:Mg) (vs:Value) (w:World) (hv:bI w vs 34 m.l.length (br m.l)) (hln:m.l.length≤1000000):Calls Tryz.prog 12 [.agg (aP m vs)].toArray w (cp w (is (.bool (bD m)))):=by
 refine bF Tryz.func12 rfl Tryz.ntmps12 rfl fun f h s=>qr (aZ (aP m vs) h s rfl rfl rfl fun f w1 b1 h s=>e9 ab 1 h rfl fun f h=>al (al ?_))
 refine rs ab 1 h rfl fun f h=>ag (ac (aG.of_own s 0 rfl) 0 (cN _ _)) h bo rfl rfl fun f h=>cZ ab h rfl (fun g1 f h=>?_) (fun g1 f h=>?_)
 ·skip
  refine am ab 2 h rfl fun f h=>bf h rfl (ag (ac (aG.of_own s 0 rfl) 0 (cN _ _)) h bo rfl rfl fun f h=>bf h rfl (cZ ab h rfl (fun g2 f h=>?_) (fun g2 f h=>?_)))
  ·skip
   refine am ab 3 h rfl fun f h=>bf h rfl (ag (ac (aG.of_own s 0 rfl) 68 (ee _ _)) h bo rfl rfl fun f h=>bf h rfl (cZ ab h rfl (fun g3 f h=>?_) (fun g3 f h=>?_)))
   ·skip
    refine am ab 3 h rfl fun f h=>bf h rfl (ag (ac (aG.of_own s 0 rfl) 68 (ee _ _)) h bo rfl rfl fun f h=>bf h rfl (cZ ab h rfl (fun g4 f h=>?_) (fun g4 f h=>?_)))
    ·skip
     refine am ab 3 h rfl fun f h=>bf h rfl (ag (ac (aG.of_own s 0 rfl) 70 (fx _ _)) h dG rfl rfl fun f h=>bf h rfl (ae h (ct Tryz.underlying9 (h.ev rfl)) rfl fun f h=>bf h rfl (cZ ab h rfl (fun g5 f h=>?_) (fun g5 f h=>?_))))
     ·refine e9 ab 1 h rfl fun f h=>iU h rfl (qr (ae h (ft li) rfl fun f h=>aK (aP mZ aI) h s kQ rfl rfl fun f w1 b3 h s=>aj 0 h s bL rfl rfl rfl (ax _ _) (ax _ _) (cX _ _ rfl) fun w1 s=>nt (al (al (pW (fun aa ww=>Sl 115 aa [(0,.agg (aP m vs)),(1,.pointer (some ⟨b1,0,none⟩)),(3,.pointer (some ⟨b3,0,none⟩)),(64,.bool (tj m))]∧St w [.blk b3 (.cells (aP mZ aI) 31),.blk b1 (.cells (aP m vs) 31)] ww) ?_ ?_)))))
      ·skip
       refine rs ab 1 h rfl fun f h=>ag (ac (aG.of_own s 1 rfl) 0 (cN _ _)) h bo rfl rfl fun f h=>nT (i5 m.k) h s jj (fe m.k 105 _) ((IS m.k)) rfl rfl (fun hI f w1 h s=>?_) (fun hI f w1 h s=>?_)
       ·skip
        cases xi:(decide (m.i≠0#256):Bool)
        ·skip
         refine am ab 3 h rfl fun f h=>bf h rfl (ar (aG.subL (aG.of_own s 1 rfl) 1 32 (D:=aA (_)) (cQ _ _)) h aN rfl (by first|exact ai _|exact ah _ _) rfl fun f h=>am ab 1 h rfl fun f h=>bf h rfl (ar (aG.subL (aG.of_own s 0 rfl) 1 32 (D:=aA (_)) (cQ _ _)) h aN rfl (by first|exact ai _|exact ah _ _) rfl fun f h=>bf h rfl (ae h (aV (.bool false) (sn d8 (h.ev rfl) (h.ev rfl)) (congrArg Value.bool xi)) rfl fun f h=>am ab 3 h rfl fun f h=>bf h rfl (ag (ac (aG.of_own s 1 rfl) 0 (cN _ _)) h bo rfl rfl fun f h=>bf h rfl (nT (gH m.k) h s jj (fe m.k 116 _) ((x0 m.k)) rfl rfl (fun hT f w1 h s=>?_) (fun hT f w1 h s=>?_))))))
         ·skip
          cases xt:(decide (m.t=(0,0#256,0)):Bool)
          ·refine am ab 3 h rfl fun f h=>bf h rfl (ar (aG.subL (aG.of_own s 1 rfl) 33 34 (D:=bg (_)) (cI _ _)) h bY rfl (aC _) rfl fun f h=>am ab 1 h rfl fun f h=>bf h rfl (ar (aG.subL (aG.of_own s 0 rfl) 33 34 (D:=bg (_)) (cI _ _)) h bY rfl (aC _) rfl fun f h=>bf h rfl (ae h (aV (.bool true) (iE (xP _ _) (by kernel_rfl) (by decide) (h.ev rfl) (h.ev rfl) (decide (m.t=(0,0#256,0))) (NR _ _)) (congrArg Value.bool (by rw [xt];rfl))) rfl fun f h=>am ab 8 h rfl fun f h=>cw h rfl rfl rfl rfl ?_)));intro f h
           refine cw h rfl rfl rfl rfl ?_;intro f h
           refine cw h rfl rfl rfl rfl ?_;intro f h
           refine cw h rfl rfl rfl rfl ?_;intro f h
           refine e9 ab 2 h rfl fun f h=>?_
           exact ⟨h.only ⟨rfl,rfl,rfl,cv rfl (congrArg Value.bool (by unfold tj;rw [hI,xi,hT,xt];rfl)),trivial⟩,St.as s ⟨rfl,rfl,trivial⟩⟩
          ·skip
           refine am ab 3 h rfl fun f h=>bf h rfl (ar (aG.subL (aG.of_own s 1 rfl) 33 34 (D:=bg (_)) (cI _ _)) h bY rfl (aC _) rfl fun f h=>am ab 1 h rfl fun f h=>bf h rfl (ar (aG.subL (aG.of_own s 0 rfl) 33 34 (D:=bg (_)) (cI _ _)) h bY rfl (aC _) rfl fun f h=>bf h rfl (ae h (aV (.bool false) (iE (xP _ _) (by kernel_rfl) (by decide) (h.ev rfl) (h.ev rfl) (decide (m.t=(0,0#256,0))) (NR _ _)) (congrArg Value.bool (by rw [xt];rfl))) rfl fun f h=>am ab 4 h rfl fun f h=>bf h rfl (ag (ac (aG.of_own s 1 rfl) 0 (cN _ _)) h bo rfl rfl fun f h=>bf h rfl (nT (fI m.k) h s jj (fe m.k 115 _) ((oK m.k)) rfl rfl (fun hS f w1 h s=>?_) (fun hS f w1 h s=>?_))))))
           ·skip
            cases xs:(decide (0<m.l.length):Bool)
            ·refine am ab 3 h rfl fun f h=>bf h rfl (ag (ac (aG.of_own s 1 rfl) 67 (dq _ _)) h cG rfl rfl fun f h=>bf h rfl (dN h (hv.keep s.ext) Tryz.underlying29 rfl rfl fun f h=>bf h rfl (gE ab h rfl (Eq.trans (decide_eq_decide.2 (by omega)) xs) fun f h=>e9 ab 2 h rfl fun f h=>?_)))
             exact ⟨h.only ⟨rfl,rfl,rfl,cv rfl (congrArg Value.bool (by unfold tj;rw [hI,xi,hT,xt,hS,xs];rfl)),trivial⟩,St.as s ⟨rfl,rfl,trivial⟩⟩
            ·refine am ab 3 h rfl fun f h=>bf h rfl (ag (ac (aG.of_own s 1 rfl) 67 (dq _ _)) h cG rfl rfl fun f h=>bf h rfl (dN h (hv.keep s.ext) Tryz.underlying29 rfl rfl fun f h=>bf h rfl (fm ab h rfl (Eq.trans (decide_eq_decide.2 (by omega)) xs) fun f h=>e9 ab 2 h rfl fun f h=>?_)))
             exact ⟨h.only ⟨rfl,rfl,rfl,cv rfl (congrArg Value.bool (by unfold tj;rw [hI,xi,hT,xt,hS,xs];rfl)),trivial⟩,St.as s ⟨rfl,rfl,trivial⟩⟩
           ·refine e9 ab 8 h rfl fun f h=>?_
            exact ⟨h.only ⟨rfl,rfl,rfl,cv rfl (congrArg Value.bool (by unfold tj;rw [hI,xi,hT,xt,hS];rfl)),trivial⟩,St.as s ⟨rfl,rfl,trivial⟩⟩
         ·skip
          refine am ab 11 h rfl fun f h=>bf h rfl (ag (ac (aG.of_own s 1 rfl) 0 (cN _ _)) h bo rfl rfl fun f h=>bf h rfl (nT (fI m.k) h s jj (fe m.k 115 _) ((oK m.k)) rfl rfl (fun hS f w1 h s=>?_) (fun hS f w1 h s=>?_)))
          ·skip
           cases xs:(decide (0<m.l.length):Bool)
           ·refine am ab 3 h rfl fun f h=>bf h rfl (ag (ac (aG.of_own s 1 rfl) 67 (dq _ _)) h cG rfl rfl fun f h=>bf h rfl (dN h (hv.keep s.ext) Tryz.underlying29 rfl rfl fun f h=>bf h rfl (gE ab h rfl (Eq.trans (decide_eq_decide.2 (by omega)) xs) fun f h=>e9 ab 2 h rfl fun f h=>?_)))
            exact ⟨h.only ⟨rfl,rfl,rfl,cv rfl (congrArg Value.bool (by unfold tj;rw [hI,xi,hT,hS,xs];rfl)),trivial⟩,St.as s ⟨rfl,rfl,trivial⟩⟩
           ·refine am ab 3 h rfl fun f h=>bf h rfl (ag (ac (aG.of_own s 1 rfl) 67 (dq _ _)) h cG rfl rfl fun f h=>bf h rfl (dN h (hv.keep s.ext) Tryz.underlying29 rfl rfl fun f h=>bf h rfl (fm ab h rfl (Eq.trans (decide_eq_decide.2 (by omega)) xs) fun f h=>e9 ab 2 h rfl fun f h=>?_)))
            exact ⟨h.only ⟨rfl,rfl,rfl,cv rfl (congrArg Value.bool (by unfold tj;rw [hI,xi,hT,hS,xs];rfl)),trivial⟩,St.as s ⟨rfl,rfl,trivial⟩⟩
          ·refine e9 ab 8 h rfl fun f h=>?_
           exact ⟨h.only ⟨rfl,rfl,rfl,cv rfl (congrArg Value.bool (by unfold tj;rw [hI,xi,hT,hS];rfl)),trivial⟩,St.as s ⟨rfl,rfl,trivial⟩⟩
        ·refine am ab 3 h rfl fun f h=>bf h rfl (ar (aG.subL (aG.of_own s 1 rfl) 1 32 (D:=aA (_)) (cQ _ _)) h aN rfl (by first|exact ai _|exact ah _ _) rfl fun f h=>am ab 1 h rfl fun f h=>bf h rfl (ar (aG.subL (aG.of_own s 0 rfl) 1 32 (D:=aA (_)) (cQ _ _)) h aN rfl (by first|exact ai _|exact ah _ _) rfl fun f h=>bf h rfl (ae h (aV (.bool true) (sn d8 (h.ev rfl) (h.ev rfl)) (congrArg Value.bool xi)) rfl fun f h=>am ab 7 h rfl fun f h=>cw h rfl rfl rfl rfl ?_)));intro f h
         refine cw h rfl rfl rfl rfl ?_;intro f h
         refine cw h rfl rfl rfl rfl ?_;intro f h
         refine cw h rfl rfl rfl rfl ?_;intro f h
         refine cw h rfl rfl rfl rfl ?_;intro f h
         refine am ab 8 h rfl fun f h=>cw h rfl rfl rfl rfl ?_;intro f h
         refine cw h rfl rfl rfl rfl ?_;intro f h
         refine cw h rfl rfl rfl rfl ?_;intro f h
         refine cw h rfl rfl rfl rfl ?_;intro f h
         refine e9 ab 2 h rfl fun f h=>?_
         exact ⟨h.only ⟨rfl,rfl,rfl,cv rfl (congrArg Value.bool (by unfold tj;rw [hI,xi];rfl)),trivial⟩,St.as s ⟨rfl,rfl,trivial⟩⟩
       ·skip
        refine am ab 10 h rfl fun f h=>bf h rfl (ag (ac (aG.of_own s 1 rfl) 0 (cN _ _)) h bo rfl rfl fun f h=>bf h rfl (nT (gH m.k) h s jj (fe m.k 116 _) ((x0 m.k)) rfl rfl (fun hT f w1 h s=>?_) (fun hT f w1 h s=>?_)))
        ·skip
         cases xt:(decide (m.t=(0,0#256,0)):Bool)
         ·refine am ab 3 h rfl fun f h=>bf h rfl (ar (aG.subL (aG.of_own s 1 rfl) 33 34 (D:=bg (_)) (cI _ _)) h bY rfl (aC _) rfl fun f h=>am ab 1 h rfl fun f h=>bf h rfl (ar (aG.subL (aG.of_own s 0 rfl) 33 34 (D:=bg (_)) (cI _ _)) h bY rfl (aC _) rfl fun f h=>bf h rfl (ae h (aV (.bool true) (iE (xP _ _) (by kernel_rfl) (by decide) (h.ev rfl) (h.ev rfl) (decide (m.t=(0,0#256,0))) (NR _ _)) (congrArg Value.bool (by rw [xt];rfl))) rfl fun f h=>am ab 8 h rfl fun f h=>cw h rfl rfl rfl rfl ?_)));intro f h
          refine cw h rfl rfl rfl rfl ?_;intro f h
          refine cw h rfl rfl rfl rfl ?_;intro f h
          refine cw h rfl rfl rfl rfl ?_;intro f h
          refine e9 ab 2 h rfl fun f h=>?_
          exact ⟨h.only ⟨rfl,rfl,rfl,cv rfl (congrArg Value.bool (by unfold tj;rw [hI,hT,xt];rfl)),trivial⟩,St.as s ⟨rfl,rfl,trivial⟩⟩
         ·skip
          refine am ab 3 h rfl fun f h=>bf h rfl (ar (aG.subL (aG.of_own s 1 rfl) 33 34 (D:=bg (_)) (cI _ _)) h bY rfl (aC _) rfl fun f h=>am ab 1 h rfl fun f h=>bf h rfl (ar (aG.subL (aG.of_own s 0 rfl) 33 34 (D:=bg (_)) (cI _ _)) h bY rfl (aC _) rfl fun f h=>bf h rfl (ae h (aV (.bool false) (iE (xP _ _) (by kernel_rfl) (by decide) (h.ev rfl) (h.ev rfl) (decide (m.t=(0,0#256,0))) (NR _ _)) (congrArg Value.bool (by rw [xt];rfl))) rfl fun f h=>am ab 4 h rfl fun f h=>bf h rfl (ag (ac (aG.of_own s 1 rfl) 0 (cN _ _)) h bo rfl rfl fun f h=>bf h rfl (nT (fI m.k) h s jj (fe m.k 115 _) ((oK m.k)) rfl rfl (fun hS f w1 h s=>?_) (fun hS f w1 h s=>?_))))))
          ·skip
           cases xs:(decide (0<m.l.length):Bool)
           ·refine am ab 3 h rfl fun f h=>bf h rfl (ag (ac (aG.of_own s 1 rfl) 67 (dq _ _)) h cG rfl rfl fun f h=>bf h rfl (dN h (hv.keep s.ext) Tryz.underlying29 rfl rfl fun f h=>bf h rfl (gE ab h rfl (Eq.trans (decide_eq_decide.2 (by omega)) xs) fun f h=>e9 ab 2 h rfl fun f h=>?_)))
            exact ⟨h.only ⟨rfl,rfl,rfl,cv rfl (congrArg Value.bool (by unfold tj;rw [hI,hT,xt,hS,xs];rfl)),trivial⟩,St.as s ⟨rfl,rfl,trivial⟩⟩
           ·refine am ab 3 h rfl fun f h=>bf h rfl (ag (ac (aG.of_own s 1 rfl) 67 (dq _ _)) h cG rfl rfl fun f h=>bf h rfl (dN h (hv.keep s.ext) Tryz.underlying29 rfl rfl fun f h=>bf h rfl (fm ab h rfl (Eq.trans (decide_eq_decide.2 (by omega)) xs) fun f h=>e9 ab 2 h rfl fun f h=>?_)))
            exact ⟨h.only ⟨rfl,rfl,rfl,cv rfl (congrArg Value.bool (by unfold tj;rw [hI,hT,xt,hS,xs];rfl)),trivial⟩,St.as s ⟨rfl,rfl,trivial⟩⟩
          ·refine e9 ab 8 h rfl fun f h=>?_
           exact ⟨h.only ⟨rfl,rfl,rfl,cv rfl (congrArg Value.bool (by unfold tj;rw [hI,hT,xt,hS];rfl)),trivial⟩,St.as s ⟨rfl,rfl,trivial⟩⟩
        ·skip
         refine am ab 11 h rfl fun f h=>bf h rfl (ag (ac (aG.of_own s 1 rfl) 0 (cN _ _)) h bo rfl rfl fun f h=>bf h rfl (nT (fI m.k) h s jj (fe m.k 115 _) ((oK m.k)) rfl rfl (fun hS f w1 h s=>?_) (fun hS f w1 h s=>?_)))
         ·skip
          cases xs:(decide (0<m.l.length):Bool)
          ·refine am ab 3 h rfl fun f h=>bf h rfl (ag (ac (aG.of_own s 1 rfl) 67 (dq _ _)) h cG rfl rfl fun f h=>bf h rfl (dN h (hv.keep s.ext) Tryz.underlying29 rfl rfl fun f h=>bf h rfl (gE ab h rfl (Eq.trans (decide_eq_decide.2 (by omega)) xs) fun f h=>e9 ab 2 h rfl fun f h=>?_)))
           exact ⟨h.only ⟨rfl,rfl,rfl,cv rfl (congrArg Value.bool (by unfold tj;rw [hI,hT,hS,xs];rfl)),trivial⟩,St.as s ⟨rfl,rfl,trivial⟩⟩
          ·refine am ab 3 h rfl fun f h=>bf h rfl (ag (ac (aG.of_own s 1 rfl) 67 (dq _ _)) h cG rfl rfl fun f h=>bf h rfl (dN h (hv.keep s.ext) Tryz.underlying29 rfl rfl fun f h=>bf h rfl (fm ab h rfl (Eq.trans (decide_eq_decide.2 (by omega)) xs) fun f h=>e9 ab 2 h rfl fun f h=>?_)))
           exact ⟨h.only ⟨rfl,rfl,rfl,cv rfl (congrArg Value.bool (by unfold tj;rw [hI,hT,hS,xs];rfl)),trivial⟩,St.as s ⟨rfl,rfl,trivial⟩⟩
         ·refine e9 ab 8 h rfl fun f h=>?_
          exact ⟨h.only ⟨rfl,rfl,rfl,cv rfl (congrArg Value.bool (by unfold tj;rw [hI,hT,hS];rfl)),trivial⟩,St.as s ⟨rfl,rfl,trivial⟩⟩
      rintro f w1 ⟨h,s⟩
      refine aE (cd h rfl (fun hc=>?_) (fun hc=>?_))
      ·refine bH ab 1 h rfl fun f h=>rt (aH rfl h s rfl (by show _=_;rw [i1 (of_decide_eq_false g1) (of_decide_eq_false g2) (of_decide_eq_false g3) (of_decide_eq_false g4) (of_decide_eq_false g5),hc];rfl))
      ·have hb4:=hc
       refine kt (al (al (pW (fun aa ww=>Sl 115 aa [(0,.agg (aP m vs)),(1,.pointer (some ⟨b1,0,none⟩)),(3,.pointer (some ⟨b3,0,none⟩)),(84,.bool (Dn m))]∧St w [.blk b3 (.cells (aP mZ aI) 31),.blk b1 (.cells (aP m vs) 31)] ww) ?_ ?_)))
       ·skip
        refine rs ab 1 h rfl fun f h=>ag (ac (aG.of_own s 1 rfl) 0 (cN _ _)) h bo rfl rfl fun f h=>nT (iu m.k) h s jj (fe m.k 110 _) ((Ks m.k)) rfl rfl (fun hN f w1 h s=>?_) (fun hN f w1 h s=>?_)
        ·skip
         refine am ab 3 h rfl fun f h=>bf h rfl (ag (ac (aG.of_own s 1 rfl) 68 (ee _ _)) h bo rfl rfl fun f h=>bf h rfl (cZ ab h rfl (fun xn f h=>?_) (fun xn f h=>?_)))
         ·skip
          refine am ab 3 h rfl fun f h=>bf h rfl (ag (ac (aG.of_own s 1 rfl) 0 (cN _ _)) h bo rfl rfl fun f h=>bf h rfl (nT (i6 m.k) h s jj (fe m.k 100 _) ((D4 m.k)) rfl rfl (fun hD f w1 h s=>?_) (fun hD f w1 h s=>?_)))
          ·skip
           cases xd:(decide (m.d≠⟨#[]⟩):Bool)
           ·refine am ab 3 h rfl fun f h=>bf h rfl (ag (ac (aG.of_own s 1 rfl) 70 (fx _ _)) h dG rfl rfl fun f h=>bf h rfl (ae h (aV (.bool false) (i3 (h.ev rfl) (h.ev rfl)) (congrArg Value.bool xd)) rfl fun f h=>e9 ab 2 h rfl fun f h=>?_))
            exact ⟨h.only ⟨rfl,rfl,rfl,cv rfl (congrArg Value.bool (by unfold Dn;rw [hN,xn,hD,xd];rfl)),trivial⟩,St.as s ⟨rfl,rfl,trivial⟩⟩
           ·refine am ab 3 h rfl fun f h=>bf h rfl (ag (ac (aG.of_own s 1 rfl) 70 (fx _ _)) h dG rfl rfl fun f h=>bf h rfl (ae h (aV (.bool true) (i3 (h.ev rfl) (h.ev rfl)) (congrArg Value.bool xd)) rfl fun f h=>e9 ab 2 h rfl fun f h=>?_))
            exact ⟨h.only ⟨rfl,rfl,rfl,cv rfl (congrArg Value.bool (by unfold Dn;rw [hN,xn,hD,xd];rfl)),trivial⟩,St.as s ⟨rfl,rfl,trivial⟩⟩
          ·refine e9 ab 7 h rfl fun f h=>?_
           exact ⟨h.only ⟨rfl,rfl,rfl,cv rfl (congrArg Value.bool (by unfold Dn;rw [hN,xn,hD];rfl)),trivial⟩,St.as s ⟨rfl,rfl,trivial⟩⟩
         ·refine am ab 7 h rfl fun f h=>cw h rfl rfl rfl rfl ?_;intro f h
          refine cw h rfl rfl rfl rfl ?_;intro f h
          refine cw h rfl rfl rfl rfl ?_;intro f h
          refine e9 ab 2 h rfl fun f h=>?_
          exact ⟨h.only ⟨rfl,rfl,rfl,cv rfl (congrArg Value.bool (by unfold Dn;rw [hN,xn];rfl)),trivial⟩,St.as s ⟨rfl,rfl,trivial⟩⟩
        ·skip
         refine am ab 8 h rfl fun f h=>bf h rfl (ag (ac (aG.of_own s 1 rfl) 0 (cN _ _)) h bo rfl rfl fun f h=>bf h rfl (nT (i6 m.k) h s jj (fe m.k 100 _) ((D4 m.k)) rfl rfl (fun hD f w1 h s=>?_) (fun hD f w1 h s=>?_)))
         ·skip
          cases xd:(decide (m.d≠⟨#[]⟩):Bool)
          ·refine am ab 3 h rfl fun f h=>bf h rfl (ag (ac (aG.of_own s 1 rfl) 70 (fx _ _)) h dG rfl rfl fun f h=>bf h rfl (ae h (aV (.bool false) (i3 (h.ev rfl) (h.ev rfl)) (congrArg Value.bool xd)) rfl fun f h=>e9 ab 2 h rfl fun f h=>?_))
           exact ⟨h.only ⟨rfl,rfl,rfl,cv rfl (congrArg Value.bool (by unfold Dn;rw [hN,hD,xd];rfl)),trivial⟩,St.as s ⟨rfl,rfl,trivial⟩⟩
          ·refine am ab 3 h rfl fun f h=>bf h rfl (ag (ac (aG.of_own s 1 rfl) 70 (fx _ _)) h dG rfl rfl fun f h=>bf h rfl (ae h (aV (.bool true) (i3 (h.ev rfl) (h.ev rfl)) (congrArg Value.bool xd)) rfl fun f h=>e9 ab 2 h rfl fun f h=>?_))
           exact ⟨h.only ⟨rfl,rfl,rfl,cv rfl (congrArg Value.bool (by unfold Dn;rw [hN,hD,xd];rfl)),trivial⟩,St.as s ⟨rfl,rfl,trivial⟩⟩
         ·refine e9 ab 7 h rfl fun f h=>?_
          exact ⟨h.only ⟨rfl,rfl,rfl,cv rfl (congrArg Value.bool (by unfold Dn;rw [hN,hD];rfl)),trivial⟩,St.as s ⟨rfl,rfl,trivial⟩⟩
       rintro f w1 ⟨h,s⟩
       refine aE (cd h rfl (fun hc=>?_) (fun hc=>?_))
       ·refine bH ab 1 h rfl fun f h=>rt (aH rfl h s rfl (by show _=_;rw [i1 (of_decide_eq_false g1) (of_decide_eq_false g2) (of_decide_eq_false g3) (of_decide_eq_false g4) (of_decide_eq_false g5),hb4,hc];rfl))
       ·have hb6:=hc
        refine kt (al (al (pW (fun aa ww=>Sl 115 aa [(0,.agg (aP m vs)),(1,.pointer (some ⟨b1,0,none⟩)),(3,.pointer (some ⟨b3,0,none⟩)),(104,.bool (DK m))]∧St w [.blk b3 (.cells (aP mZ aI) 31),.blk b1 (.cells (aP m vs) 31)] ww) ?_ ?_)))
        ·skip
         refine rs ab 1 h rfl fun f h=>ag (ac (aG.of_own s 1 rfl) 0 (cN _ _)) h bo rfl rfl fun f h=>nT (gH m.k) h s jj (fe m.k 116 _) ((x0 m.k)) rfl rfl (fun hT f w1 h s=>?_) (fun hT f w1 h s=>?_)
         ·skip
          refine am ab 8 h rfl fun f h=>bf h rfl (ag (ac (aG.of_own s 1 rfl) 0 (cN _ _)) h bo rfl rfl fun f h=>bf h rfl (nT (fI m.k) h s jj (fe m.k 115 _) ((oK m.k)) rfl rfl (fun hS f w1 h s=>?_) (fun hS f w1 h s=>?_)))
          ·refine e9 ab 7 h rfl fun f h=>?_
           exact ⟨h.only ⟨rfl,rfl,rfl,cv rfl (congrArg Value.bool (by unfold DK;rw [hT,hS];rfl)),trivial⟩,St.as s ⟨rfl,rfl,trivial⟩⟩
          ·skip
           refine am ab 2 h rfl fun f h=>bf h rfl (ag (ac (aG.of_own s 1 rfl) 67 (dq _ _)) h cG rfl rfl fun f h=>bf h rfl (gg h s HJ (qb m.l _ _ (hv.keep s.ext) hln) rfl rfl (fun xs f w1 h s=>?_) (fun xs f w1 h s=>?_)))
           ·refine e9 ab 3 h rfl fun f h=>?_
            exact ⟨h.only ⟨rfl,rfl,rfl,cv rfl (congrArg Value.bool (by unfold DK;rw [hT,hS,xs];rfl)),trivial⟩,St.as s ⟨rfl,rfl,trivial⟩⟩
           ·refine e9 ab 3 h rfl fun f h=>?_
            exact ⟨h.only ⟨rfl,rfl,rfl,cv rfl (congrArg Value.bool (by unfold DK;rw [hT,hS,xs];rfl)),trivial⟩,St.as s ⟨rfl,rfl,trivial⟩⟩
         ·skip
          refine am ab 2 h rfl fun f h=>bf h rfl (ar (aG.subL (aG.of_own s 1 rfl) 33 34 (D:=bg (_)) (cI _ _)) h bY rfl (aC _) rfl fun f h=>bf h rfl (gg h s Cg (tR _ _) rfl rfl (fun xt f w1 h s=>?_) (fun xt f w1 h s=>?_)))
          ·refine am ab 7 h rfl fun f h=>cw h rfl rfl rfl rfl ?_;intro f h
           refine cw h rfl rfl rfl rfl ?_;intro f h
           refine cw h rfl rfl rfl rfl ?_;intro f h
           refine cw h rfl rfl rfl rfl ?_;intro f h
           refine e9 ab 2 h rfl fun f h=>?_
           exact ⟨h.only ⟨rfl,rfl,rfl,cv rfl (congrArg Value.bool (by unfold DK;rw [hT,xt];rfl)),trivial⟩,St.as s ⟨rfl,rfl,trivial⟩⟩
          ·skip
           refine am ab 4 h rfl fun f h=>bf h rfl (ag (ac (aG.of_own s 1 rfl) 0 (cN _ _)) h bo rfl rfl fun f h=>bf h rfl (nT (fI m.k) h s jj (fe m.k 115 _) ((oK m.k)) rfl rfl (fun hS f w1 h s=>?_) (fun hS f w1 h s=>?_)))
           ·refine e9 ab 7 h rfl fun f h=>?_
            exact ⟨h.only ⟨rfl,rfl,rfl,cv rfl (congrArg Value.bool (by unfold DK;rw [hT,xt,hS];rfl)),trivial⟩,St.as s ⟨rfl,rfl,trivial⟩⟩
           ·skip
            refine am ab 2 h rfl fun f h=>bf h rfl (ag (ac (aG.of_own s 1 rfl) 67 (dq _ _)) h cG rfl rfl fun f h=>bf h rfl (gg h s HJ (qb m.l _ _ (hv.keep s.ext) hln) rfl rfl (fun xs f w1 h s=>?_) (fun xs f w1 h s=>?_)))
            ·refine e9 ab 3 h rfl fun f h=>?_
             exact ⟨h.only ⟨rfl,rfl,rfl,cv rfl (congrArg Value.bool (by unfold DK;rw [hT,xt,hS,xs];rfl)),trivial⟩,St.as s ⟨rfl,rfl,trivial⟩⟩
            ·refine e9 ab 3 h rfl fun f h=>?_
             exact ⟨h.only ⟨rfl,rfl,rfl,cv rfl (congrArg Value.bool (by unfold DK;rw [hT,xt,hS,xs];rfl)),trivial⟩,St.as s ⟨rfl,rfl,trivial⟩⟩
        rintro f w1 ⟨h,s⟩
        refine aE (cd h rfl (fun hc=>?_) (fun hc=>?_))
        ·refine bH ab 1 h rfl fun f h=>rt (aH rfl h s rfl (by show _=_;rw [i1 (of_decide_eq_false g1) (of_decide_eq_false g2) (of_decide_eq_false g3) (of_decide_eq_false g4) (of_decide_eq_false g5),hb4,hb6,hc];rfl))
        ·have hb8:=hc
         refine kt (al (bZ ab 1 h rfl fun f h=>ag (ac (aG.of_own s 1 rfl) 0 (cN _ _)) h bo rfl rfl fun f h=>c7 h s jj (bG (.bool (lz m.k)) (fe m.k 111 _) (congrArg Value.bool (Jf m.k))) rfl rfl fun f w1 h s=>nt (cd h rfl (fun hc=>?_) (fun hc=>?_))))
         ·refine bZ ab 1 h rfl fun f h=>ag (ac (aG.of_own s 1 rfl) 69 (eW _ _)) h dG rfl rfl fun f h=>ae h (ct Tryz.underlying9 (h.ev rfl)) rfl fun f h=>qh ab (.bool (decide (m.o.size=16))) h rfl (congrArg Value.bool (decide_eq_decide.2 (by omega))) rfl fun f h=>e9 ab 1 h rfl fun f h=>rt (aH rfl h s rfl (by show _=_;rw [i1 (of_decide_eq_false g1) (of_decide_eq_false g2) (of_decide_eq_false g3) (of_decide_eq_false g4) (of_decide_eq_false g5),hb4,hb6,hb8];show _=Value.bool (c5 m);unfold c5;rw [hc];rfl))
         ·refine kt (bZ ab 1 h rfl fun f h=>ag (ac (aG.of_own s 1 rfl) 69 (eW _ _)) h dG rfl rfl fun f h=>ae h (cS (h.ev rfl) (h.ev rfl)) rfl fun f h=>e9 ab 1 h rfl fun f h=>wpIn_ret (aH rfl h s rfl (by show _=_;rw [i1 (of_decide_eq_false g1) (of_decide_eq_false g2) (of_decide_eq_false g3) (of_decide_eq_false g4) (of_decide_eq_false g5),hb4,hb6,hb8];show _=Value.bool (c5 m);unfold c5;rw [hc];rfl)))
     ·refine e9 ab 1 h rfl fun f h=>cy h rfl (bH ab 1 h rfl fun f h=>rt (aH rfl h s rfl (by show _=_;exact congrArg Value.bool (Fc (of_decide_eq_true g5)))))
    ·refine e9 ab 7 h rfl fun f h=>cy h rfl (bH ab 1 h rfl fun f h=>rt (aH rfl h s rfl (by show _=_;exact congrArg Value.bool (Cf (of_decide_eq_true g4)))))
   ·refine e9 ab 12 h rfl fun f h=>cy h rfl (bH ab 1 h rfl fun f h=>rt (aH rfl h s rfl (by show _=_;exact congrArg Value.bool (BG (of_decide_eq_true g3)))))
  ·refine e9 ab 17 h rfl fun f h=>cy h rfl (bH ab 1 h rfl fun f h=>rt (aH rfl h s rfl (by show _=_;exact congrArg Value.bool (Dp (of_decide_eq_true g2)))))
 ·refine e9 ab 21 h rfl fun f h=>cy h rfl (bH ab 1 h rfl fun f h=>rt (aH rfl h s rfl (by show _=_;exact congrArg Value.bool (BC (of_decide_eq_true g1)))))
set_option maxHeartbeats 2000000 in
theorem se (a b:Mg) (va vb:Value) (w:World) (hva:bI w va 34 a.l.length (br a.l)) (hvb:bI w vb 34 b.l.length (br b.l)) (hla:a.l.length≤1000000) (hlb:b.l.length≤1000000):Calls Tryz.prog 36 [.agg (aP a va),.agg (aP b vb)].toArray w (cp w (is (.bool (iC a b)))):=by
 refine bF Tryz.func36 rfl Tryz.ntmps36 rfl fun f h s=>qr (aZ (aP a va) h s rfl rfl rfl fun f w1 b2 h s=>aZ (aP b vb) h s rfl rfl rfl fun f w1 b3 h s=>e9 ab 1 h rfl fun f h=>al ?_)
 refine rs ab 1 h rfl fun f h=>ag (ac (aG.of_own s 1 rfl) 0 (cN _ _)) h bo rfl rfl fun f h=>am ab 1 h rfl fun f h=>ag (ac (aG.of_own s 0 rfl) 0 (cN _ _)) h bo rfl rfl fun f h=>cZ ab h rfl (fun e1 f h=>?_) (fun e1 f h=>?_)
 ·refine e9 ab 43 h rfl fun f h=>wpIn_ret (aH rfl h s rfl (congrArg Value.bool (KT e1)))
 ·skip
  cases e2:(decide (a.i=b.i):Bool)
  ·refine am ab 2 h rfl fun f h=>bf h rfl (ar (aG.subL (aG.of_own s 1 rfl) 1 32 (D:=aA (_)) (cQ _ _)) h aN rfl (by first|exact ai _|exact ah _ _) rfl fun f h=>am ab 1 h rfl fun f h=>bf h rfl (ar (aG.subL (aG.of_own s 0 rfl) 1 32 (D:=aA (_)) (cQ _ _)) h aN rfl (by first|exact ai _|exact ah _ _) rfl fun f h=>bf h rfl (ae h (aV (.bool false) (cn d8 (h.ev rfl) (h.ev rfl)) (congrArg Value.bool e2)) rfl fun f h=>e9 ab 37 h rfl fun f h=>wpIn_ret (aH rfl h s rfl (congrArg Value.bool (Kh e2))))))
  ·skip
   cases e3:(decide (a.t=b.t):Bool)
   ·refine am ab 2 h rfl fun f h=>bf h rfl (ar (aG.subL (aG.of_own s 1 rfl) 1 32 (D:=aA (_)) (cQ _ _)) h aN rfl (by first|exact ai _|exact ah _ _) rfl fun f h=>am ab 1 h rfl fun f h=>bf h rfl (ar (aG.subL (aG.of_own s 0 rfl) 1 32 (D:=aA (_)) (cQ _ _)) h aN rfl (by first|exact ai _|exact ah _ _) rfl fun f h=>bf h rfl (ae h (aV (.bool true) (cn d8 (h.ev rfl) (h.ev rfl)) (congrArg Value.bool e2)) rfl fun f h=>am ab 3 h rfl fun f h=>bf h rfl (ar (aG.subL (aG.of_own s 1 rfl) 33 34 (D:=bg (_)) (cI _ _)) h bY rfl (aC _) rfl fun f h=>am ab 1 h rfl fun f h=>bf h rfl (ar (aG.subL (aG.of_own s 0 rfl) 33 34 (D:=bg (_)) (cI _ _)) h bY rfl (aC _) rfl fun f h=>bf h rfl (ae h (aV (.bool false) (fU (xP _ _) (by kernel_rfl) (by decide) (h.ev rfl) (h.ev rfl) (decide (a.t=b.t)) (BR _ _)) (congrArg Value.bool e3)) rfl fun f h=>e9 ab 30 h rfl fun f h=>wpIn_ret (aH rfl h s rfl (congrArg Value.bool (J7 e3)))))))))
   ·skip
    refine am ab 2 h rfl fun f h=>bf h rfl (ar (aG.subL (aG.of_own s 1 rfl) 1 32 (D:=aA (_)) (cQ _ _)) h aN rfl (by first|exact ai _|exact ah _ _) rfl fun f h=>am ab 1 h rfl fun f h=>bf h rfl (ar (aG.subL (aG.of_own s 0 rfl) 1 32 (D:=aA (_)) (cQ _ _)) h aN rfl (by first|exact ai _|exact ah _ _) rfl fun f h=>bf h rfl (ae h (aV (.bool true) (cn d8 (h.ev rfl) (h.ev rfl)) (congrArg Value.bool e2)) rfl fun f h=>am ab 3 h rfl fun f h=>bf h rfl (ar (aG.subL (aG.of_own s 1 rfl) 33 34 (D:=bg (_)) (cI _ _)) h bY rfl (aC _) rfl fun f h=>am ab 1 h rfl fun f h=>bf h rfl (ar (aG.subL (aG.of_own s 0 rfl) 33 34 (D:=bg (_)) (cI _ _)) h bY rfl (aC _) rfl fun f h=>bf h rfl (ae h (aV (.bool true) (fU (xP _ _) (by kernel_rfl) (by decide) (h.ev rfl) (h.ev rfl) (decide (a.t=b.t)) (BR _ _)) (congrArg Value.bool e3)) rfl fun f h=>am ab 3 h rfl fun f h=>bf h rfl (ag (ac (aG.of_own s 1 rfl) 67 (dq _ _)) h cG rfl rfl fun f h=>am ab 1 h rfl fun f h=>bf h rfl (ag (ac (aG.of_own s 0 rfl) 67 (dq _ _)) h cG rfl rfl fun f h=>bf h rfl (gg h s Nh (Ai a.l b.l _ _ _ (hva.keep s.ext) (hvb.keep s.ext) hla hlb) rfl rfl (fun e4 f w1 h s=>?_) (fun e4 f w1 h s=>?_))))))))))
    ·refine e9 ab 23 h rfl fun f h=>wpIn_ret (aH rfl h s rfl (congrArg Value.bool (K2 e4)))
    ·skip
     refine am ab 3 h rfl fun f h=>bf h rfl (ag (ac (aG.of_own s 1 rfl) 68 (ee _ _)) h bo rfl rfl fun f h=>am ab 1 h rfl fun f h=>bf h rfl (ag (ac (aG.of_own s 0 rfl) 68 (ee _ _)) h bo rfl rfl fun f h=>bf h rfl (cZ ab h rfl (fun e5 f h=>?_) (fun e5 f h=>?_))))
     ·refine e9 ab 16 h rfl fun f h=>wpIn_ret (aH rfl h s rfl (congrArg Value.bool (JO e5)))
     ·skip
      cases e6:(decide (a.o=b.o):Bool)
      ·refine am ab 3 h rfl fun f h=>bf h rfl (ag (ac (aG.of_own s 1 rfl) 69 (eW _ _)) h dG rfl rfl fun f h=>am ab 1 h rfl fun f h=>bf h rfl (ag (ac (aG.of_own s 0 rfl) 69 (eW _ _)) h dG rfl rfl fun f h=>bf h rfl (ae h (aV (.bool false) (cS (h.ev rfl) (h.ev rfl)) (congrArg Value.bool e6)) rfl fun f h=>e9 ab 9 h rfl fun f h=>wpIn_ret (aH rfl h s rfl (congrArg Value.bool (IT e6))))))
      ·skip
       cases e7:(decide (a.d=b.d):Bool)
       ·refine am ab 3 h rfl fun f h=>bf h rfl (ag (ac (aG.of_own s 1 rfl) 69 (eW _ _)) h dG rfl rfl fun f h=>am ab 1 h rfl fun f h=>bf h rfl (ag (ac (aG.of_own s 0 rfl) 69 (eW _ _)) h dG rfl rfl fun f h=>bf h rfl (ae h (aV (.bool true) (cS (h.ev rfl) (h.ev rfl)) (congrArg Value.bool e6)) rfl fun f h=>am ab 3 h rfl fun f h=>bf h rfl (ag (ac (aG.of_own s 1 rfl) 70 (fx _ _)) h dG rfl rfl fun f h=>am ab 1 h rfl fun f h=>bf h rfl (ag (ac (aG.of_own s 0 rfl) 70 (fx _ _)) h dG rfl rfl fun f h=>bf h rfl (ae h (aV (.bool false) (cS (h.ev rfl) (h.ev rfl)) (congrArg Value.bool e7)) rfl fun f h=>e9 ab 2 h rfl fun f h=>wpIn_ret (aH rfl h s rfl (congrArg Value.bool (JQ e7)))))))))
       ·refine am ab 3 h rfl fun f h=>bf h rfl (ag (ac (aG.of_own s 1 rfl) 69 (eW _ _)) h dG rfl rfl fun f h=>am ab 1 h rfl fun f h=>bf h rfl (ag (ac (aG.of_own s 0 rfl) 69 (eW _ _)) h dG rfl rfl fun f h=>bf h rfl (ae h (aV (.bool true) (cS (h.ev rfl) (h.ev rfl)) (congrArg Value.bool e6)) rfl fun f h=>am ab 3 h rfl fun f h=>bf h rfl (ag (ac (aG.of_own s 1 rfl) 70 (fx _ _)) h dG rfl rfl fun f h=>am ab 1 h rfl fun f h=>bf h rfl (ag (ac (aG.of_own s 0 rfl) 70 (fx _ _)) h dG rfl rfl fun f h=>bf h rfl (ae h (aV (.bool true) (cS (h.ev rfl) (h.ev rfl)) (congrArg Value.bool e7)) rfl fun f h=>e9 ab 2 h rfl fun f h=>wpIn_ret (aH rfl h s rfl (congrArg Value.bool (CD e1 e2 e3 e4 e5 e6 e7)))))))))
end Go.Proofs.YtobfeflheaobiaaGreatDoor
