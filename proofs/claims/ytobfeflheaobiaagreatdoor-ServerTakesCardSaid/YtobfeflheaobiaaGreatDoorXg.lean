/- What package guard answers: the map of functions, Judge, Trigger. -/
import Derived.Test.YtobfeflheaobiaaGreatDoorXk
import Derived.Test.YtobfeflheaobiaaGreatDoorVc
set_option linter.unusedVariables false
set_option linter.unusedSimpArgs false
set_option linter.unusedSectionVars false
namespace Go.Proofs.YtobfeflheaobiaaGreatDoor
open Go.RowKit
theorem oz (b:Bool) (x:Int) (w:World):Calls Tryz.prog 112 [.bool b,.int .i64 x].toArray w (cp w (is (.int .i64 (bif b then x else 4)))):=by
 refine bF Tryz.func112 rfl Tryz.ntmps112 rfl fun f h s=>bH ab 1 h rfl fun f h=>al (bH ab 1 h rfl fun f h=>cd h rfl (fun hc=>?_) (fun hc=>?_))
 ·refine bH ab 2 h rfl fun f h=>rt (aH rfl h s rfl (by show _=_;rw [hc];rfl))
 ·refine kt (bH ab 1 h rfl fun f h=>wpIn_ret (aH rfl h s rfl (by show _=_;rw [hc];rfl)))
theorem qK (sx:ByteArray) (m:Mg) (vs:Value) (bx:Nat) (w:World) (hsx:sx.size≤64) (hbx:ff w bx #[.string sx]) (hV:dM w vs m.l) (hh1:((m.t.2.2.toNat:Nat):Int)=m.t.2.2) (hh2:m.t.2.2.toNat<16) (hH:ff w 0 (wF jp 8)) (hK:ff w 1 (wF iJ 64)):Calls Tryz.prog 109 [.agg (aP m vs),.pointer (some ⟨bx,0,none⟩)].toArray w (cp w (is (.string (Az sx m)))):=by
 refine bF Tryz.func109 rfl Tryz.ntmps109 rfl fun f h s=>qr (aZ (aP m vs) h s rfl rfl rfl fun f w1 b2 h s=>e9 ab 1 h rfl fun f h=>qr (ag (V:=.string sx) (ac (aG.of_tab (hbx.keep s.ext)) 0 (rfl)) h dG rfl rfl fun f h=>am ab 1 h rfl fun f h=>ar (aG.subL (aG.of_own s 0 rfl) 1 32 (D:=aA (_)) (cQ _ _)) h aN rfl (by first|exact ai _|exact ah _ _) rfl fun f h=>am ab 2 h rfl fun f h=>ag (V:=.int .i64 ((m.t.2.2.toNat:Nat):Int)) (ac (aG.of_own s 0 rfl) 66 ((by rw [pJ,hh1]))) h bo rfl rfl fun f h=>c7 h s Kb (EK sx hsx m.i m.t.2.2.toNat hh2 _ (hH.keep s.ext) (hK.keep s.ext)) rfl rfl fun f w1 h s=>e9 ab 5 h rfl fun f h=>bH ab 2 h rfl fun f h=>wpIn_ret (aH rfl h s rfl (rfl))))
theorem CL (sx:ByteArray) (m:Mg) (vs:Value) (bx by9:Nat) (w:World) (hk:m.k=2) (ha:cC m=true) (hsx:sx.size≤64) (hbx:ff w bx #[.string sx]) (hby:ff w by9 #[(.func (.func 109) #[] #[.pointer (some ⟨bx,0,none⟩)])]) (hV:dM w vs m.l) (hH:ff w 0 (wF jp 8)) (hK:ff w 1 (wF iJ 64)):Calls Tryz.prog 111 [.agg (aP m vs),.pointer (some ⟨by9,0,none⟩)].toArray w (cp w (is (.tuple #[.int .i64 (cD sx m),.agg (aP (dC sx m) aI)]))):=by
 obtain ⟨hh1,hh2⟩:=oH (fP ha).1
 have hie:=(fP ha).1
 refine bF Tryz.func111 rfl Tryz.ntmps111 rfl fun f h s=>qr (aZ (aP m vs) h s rfl rfl rfl fun f w1 b2 h s=>am ab 1 h rfl fun f h=>aK (aP mZ aI) h s kQ rfl rfl fun f w1 b4 h s=>nt (al (bZ ab 2 h rfl fun f h=>ag (ac (aG.of_own s 1 rfl) 33 (tL _ _)) h bo rfl rfl fun f h=>e9 ab 1 h rfl fun f h=>cd h rfl (fun hc=>?_) (fun hc=>?_))))
 ·obtain ⟨q1,q2⟩:=KP (s:=sx) hk (of_decide_eq_true hc)
  refine al (eo 9 h (by kernel_rfl) (az ab 1 h rfl fun f h=>bj (aG.subL (aG.of_own s 1 rfl) 1 32 (D:=aA (_)) (cQ _ _)) h aN rfl (by first|exact ai _|exact ah _ _) rfl fun f h=>az ab 1 h rfl fun f h=>bj (aG.subL (aG.of_own s 1 rfl) 33 34 (D:=bg (_)) (cI _ _)) h bY rfl (aC _) rfl fun f h=>ay (V:=(.func (.func 109) #[] #[.pointer (some ⟨bx,0,none⟩)])) (ac (aG.of_tab (hby.keep s.ext)) 0 (rfl)) h qv rfl rfl fun f h=>bh 1 h s bL rfl rfl (ax _ _) rfl fun f h=>l6 [.agg (aP m vs)] (caps:=[.pointer (some ⟨bx,0,none⟩)]) h Dd rfl (fun w9 h9=>qK sx m vs bx w9 hsx (hbx.keep (s.ext.trans h9)) (hV.keep (s.ext.trans h9)) hh1 hh2 (hH.keep (s.ext.trans h9)) (hK.keep (s.ext.trans h9))) rfl rfl ?_));intro f h
  refine au h (lx li rfl (h.ev rfl) (h.ev rfl) (h.ev rfl)) rfl fun f h=>az ab 1 h rfl fun f h=>cj s fun w1 s=>aj 0 h s bL rfl rfl rfl (ax _ _) (ax _ _) (cX _ _ rfl) fun w1 s=>nt (rt ?_)
  exact kV 0 rfl h s bL rfl rfl rfl (ax _ _) (by rw [q1,q2];rfl)
 ·obtain ⟨q1,q2⟩:=IR (s:=sx) hk hie (of_decide_eq_false hc)
  refine kt (bZ ab 1 h rfl fun f h=>ar (aG.subL (aG.of_own s 1 rfl) 1 32 (D:=aA (_)) (cQ _ _)) h aN rfl (by first|exact ai _|exact ah _ _) rfl fun f h=>am ab 2 h rfl fun f h=>ar (aG.subL (aG.of_own s 1 rfl) 34 32 (D:=aA (_)) (yA _ _)) h aN rfl (by first|exact ai _|exact ah _ _) rfl fun f h=>c7 h s Jd (Ax m.i m.t.2.1 _ (hH.keep s.ext) (hK.keep s.ext)) rfl rfl fun f w1 h s=>c7 h s wD (oz (gV m.i m.t.2.1) 2 _) rfl rfl fun f w1 h s=>ae h (ft li) rfl fun f h=>am ab 1 h rfl fun f h=>aj 0 h s bL rfl rfl rfl (ax _ _) (ax _ _) (cX _ _ rfl) fun w1 s=>nt (wpIn_ret ?_))
  exact kV 0 rfl h s bL rfl rfl rfl (ax _ _) (by rw [q1,q2];rfl)
theorem po (bx:Nat) (x:Int) (w:World):Calls Tryz.prog 114 [(.func (.func 109) #[] #[.pointer (some ⟨bx,0,none⟩)]),.int .i64 x].toArray w (cp w (fun v w'=>St w [.grp [gF v 0,gF v 1] (zK 129 (.func (.func 109) #[] #[.pointer (some ⟨bx,0,none⟩)]) (.int .i64 x) v)] w')):=by
 refine bF Tryz.func114 rfl Tryz.ntmps114 rfl fun f h s=>qr (aZ (#[(.func (.func 109) #[] #[.pointer (some ⟨bx,0,none⟩)])]) h s rfl rfl rfl fun f w1 b2 h s=>aZ (#[.int .i64 x]) h s rfl rfl rfl fun f w1 b3 h s=>e9 ab 1 h rfl fun f h=>qr (ae h (fj [.pointer (some ⟨b2,0,none⟩),.pointer (some ⟨b3,0,none⟩)] (qJ h rfl)) rfl fun f h=>e9 ab 1 h rfl fun f h=>wpIn_ret (aH rfl h s rfl (Hn (s.sel [1,0] rfl (by decide)) rfl))))
theorem uK (sx:ByteArray) (m:Mg) (vs:Value) (bx c1 c2:Nat) (x:Int) (w:World) (hk:(m.k=4∧x=2)∨(m.k=6∧x=3)) (ha:cC m=true) (hsx:sx.size≤64) (hbx:ff w bx #[.string sx]) (hc1:ff w c1 #[(.func (.func 109) #[] #[.pointer (some ⟨bx,0,none⟩)])]) (hc2:ff w c2 #[.int .i64 x]) (hV:dM w vs m.l) (hH:ff w 0 (wF jp 8)) (hK:ff w 1 (wF iJ 64)):Calls Tryz.prog 129 [.agg (aP m vs),.pointer (some ⟨c1,0,none⟩),.pointer (some ⟨c2,0,none⟩)].toArray w (cp w (is (.tuple #[.int .i64 (cD sx m),.agg (aP (dC sx m) aI)]))):=by
 obtain ⟨hh1,hh2⟩:=oH (fP ha).1
 have hie:=(fP ha).1
 obtain ⟨q1,q2⟩:=JL (s:=sx) hk hie
 refine bF Tryz.func129 rfl Tryz.ntmps129 rfl fun f h s=>qr (aZ (aP m vs) h s rfl rfl rfl fun f w1 b3 h s=>am ab 1 h rfl fun f h=>aK (aP mZ aI) h s kQ rfl rfl fun f w1 b5 h s=>nt (al ?_))
 refine eo 16 h (by kernel_rfl) (az ab 2 h rfl fun f h=>ay (ac (aG.of_own s 1 rfl) 33 (tL _ _)) h bo rfl rfl fun f h=>FD ab h rfl (fun t0 f h=>?_) (fun t0 f h=>?_))
 ·refine az ab 8 h rfl fun f h=>ay (V:=.int .i64 x) (ac (aG.of_tab (hc2.keep s.ext)) 0 (rfl)) h bo rfl rfl fun f h=>aY h wD (fun w9 hE9=>oz false x w9) rfl rfl fun f h=>au h (ft li) rfl fun f h=>az ab 1 h rfl fun f h=>cj s fun w1 s=>aj 0 h s bL rfl rfl rfl (ax _ _) (ax _ _) (cX _ _ rfl) fun w1 s=>nt (wpIn_ret ?_)
  exact kV 0 rfl h s bL rfl rfl rfl (ax _ _) (by rw [q1,q2,t0];rfl)
 ·refine az ab 2 h rfl fun f h=>bA h rfl (ay (ac (aG.of_own s 1 rfl) 69 (eW _ _)) h dG rfl rfl fun f h=>bA h rfl (ay (V:=(.func (.func 109) #[] #[.pointer (some ⟨bx,0,none⟩)])) (ac (aG.of_tab (hc1.keep s.ext)) 0 (rfl)) h qv rfl rfl fun f h=>bA h rfl (bh 1 h s bL rfl rfl (ax _ _) rfl fun f h=>bA h rfl (l6 [.agg (aP m vs)] (caps:=[.pointer (some ⟨bx,0,none⟩)]) h Dd rfl (fun w9 h9=>qK sx m vs bx w9 hsx (hbx.keep (s.ext.trans h9)) (hV.keep (s.ext.trans h9)) hh1 hh2 (hH.keep (s.ext.trans h9)) (hK.keep (s.ext.trans h9))) rfl rfl ?_))));intro f h
  refine bA h rfl (au h (cS (h.ev rfl) (h.ev rfl)) rfl fun f h=>az ab 1 h rfl fun f h=>ay (V:=.int .i64 x) (ac (aG.of_tab (hc2.keep s.ext)) 0 (rfl)) h bo rfl rfl fun f h=>aY h wD (fun w9 hE9=>oz (decide (m.o=Az sx m)) x w9) rfl rfl fun f h=>au h (ft li) rfl fun f h=>az ab 1 h rfl fun f h=>cj s fun w1 s=>aj 0 h s bL rfl rfl rfl (ax _ _) (ax _ _) (cX _ _ rfl) fun w1 s=>nt (wpIn_ret ?_))
  exact kV 0 rfl h s bL rfl rfl rfl (ax _ _) (by rw [q1,q2,t0];rfl)
theorem FP {w w1:World} {sx:ByteArray} {b1 b3:Nat} {vm va vb:Value} {t1 t3:TypeId} (s:St w [.grp [gF va 0,gF va 1] (zK 129 (.func (.func 109) #[] #[.pointer (some ⟨b1,0,none⟩)]) (.int .i64 2) va),.grp [gF vb 0,gF vb 1] (zK 129 (.func (.func 109) #[] #[.pointer (some ⟨b1,0,none⟩)]) (.int .i64 3) vb),rp true true true true vm (.func (.func 111) #[] #[.pointer (some ⟨b3,0,none⟩)]) va vb,.blk b3 (.cells #[(.func (.func 109) #[] #[.pointer (some ⟨b1,0,none⟩)])] t3),.blk b1 (.cells #[.string sx] t1)] w1):Ph Tryz.prog sx w (.map (some (o6 vm))) w1:=by
 refine ⟨o6 vm,_,gM true true true (.func (.func 111) #[] #[.pointer (some ⟨b3,0,none⟩)]) va vb,rfl,(St.group (A:=[.grp [gF va 0,gF va 1] (zK 129 (.func (.func 109) #[] #[.pointer (some ⟨b1,0,none⟩)]) (.int .i64 2) va),.grp [gF vb 0,gF vb 1] (zK 129 (.func (.func 109) #[] #[.pointer (some ⟨b1,0,none⟩)]) (.int .i64 3) vb),rp true true true true vm (.func (.func 111) #[] #[.pointer (some ⟨b3,0,none⟩)]) va vb,.blk b3 (.cells #[(.func (.func 109) #[] #[.pointer (some ⟨b1,0,none⟩)])] t3),.blk b1 (.cells #[.string sx] t1)]) (B:=[]) s).weak fun w9 h9=>?_⟩
 have hb1:ff w9 b1 #[.string sx]:=⟨t1,(0,0),h9 (.blk b1 (.cells #[.string sx] t1)) (by simp)⟩
 have hb3:ff w9 b3 #[(.func (.func 109) #[] #[.pointer (some ⟨b1,0,none⟩)])]:=⟨t3,(0,0),h9 (.blk b3 (.cells #[(.func (.func 109) #[] #[.pointer (some ⟨b1,0,none⟩)])] t3)) (by simp)⟩
 obtain ⟨a1,a2,hva,hA1,hA2⟩:=(h9 (.grp [gF va 0,gF va 1] (zK 129 (.func (.func 109) #[] #[.pointer (some ⟨b1,0,none⟩)]) (.int .i64 2) va)) (by simp)).2 w9 fun _ _=>rfl
 obtain ⟨d1,d2,hvb,hD1,hD2⟩:=(h9 (.grp [gF vb 0,gF vb 1] (zK 129 (.func (.func 109) #[] #[.pointer (some ⟨b1,0,none⟩)]) (.int .i64 3) vb)) (by simp)).2 w9 fun _ _=>rfl
 refine ⟨(h9 (rp true true true true vm (.func (.func 111) #[] #[.pointer (some ⟨b3,0,none⟩)]) va vb) (by simp)).2 w9 (fun _ _=>rfl) rfl,M5,fun k hk=>?_⟩
 rcases yJ.1 hk with rfl|rfl|rfl
 ·exact ⟨_,rfl,_,[.pointer (some ⟨b3,0,none⟩)],rfl,IE,fun m vs h1 h2 h3 h4 h5 h6=>CL sx m vs b1 b3 w9 h1 h2 h3 hb1 hb3 h4 h5 h6⟩
 ·exact ⟨_,rfl,_,[.pointer (some ⟨a1,0,none⟩),.pointer (some ⟨a2,0,none⟩)],hva,Bm,fun m vs h1 h2 h3 h4 h5 h6=>uK sx m vs b1 a1 a2 2 w9 (.inl ⟨h1,rfl⟩) h2 h3 hb1 hA1 hA2 h4 h5 h6⟩
 ·exact ⟨_,rfl,_,[.pointer (some ⟨d1,0,none⟩),.pointer (some ⟨d2,0,none⟩)],hvb,Bm,fun m vs h1 h2 h3 h4 h5 h6=>uK sx m vs b1 d1 d2 3 w9 (.inr ⟨h1,rfl⟩) h2 h3 hb1 hD1 hD2 h4 h5 h6⟩
theorem ui (sx:ByteArray) (w:World):Calls Tryz.prog 94 [.string sx].toArray w (cp w (Ph Tryz.prog sx w)):=by
 refine bF Tryz.func94 rfl Tryz.ntmps94 rfl fun f h s=>qr (aZ (#[.string sx]) h s rfl rfl rfl fun f w1 b1 h s=>e9 ab 1 h rfl fun f h=>qr (ae h (fj [.pointer (some ⟨b1,0,none⟩)] (qJ h rfl)) rfl fun f h=>aK (#[.nilFunc]) h s GH rfl rfl fun f w1 b3 h s=>bN 0 h s qv rfl rfl rfl (by simp) (rfl) fun w1 s=>nt (al ?_)))
 replace s:St w [rp false false false false undef (.func (.func 111) #[] #[.pointer (some ⟨b3,0,none⟩)]) undef undef,.blk b3 (.cells (#[(.func (.func 109) #[] #[.pointer (some ⟨b1,0,none⟩)])]) 167),.blk b1 (.cells (#[.string sx]) 9)] _:=s.grp0 (fun w9 h9=>by cases h9)
 refine JI 0 [[],[],[0,1],[],[3],[0,3,4],[],[3,4,6],[0,3,4,6,7],[0,1,2,3,4,5,6,7,8],[0,1,2,3,4,5,6,7,8,9]] [[],[],[],[],[],[],[],[],[],[],[]] [] [] [.f (fun v=>v 0=.map (some (o6 (v 0)))),.v (.func (.func 111) #[] #[.pointer (some ⟨b3,0,none⟩)]),.n,.v (.func (.func 109) #[] #[.pointer (some ⟨b1,0,none⟩)]),.m (fun v=>[.grp [gF (v 4) 0,gF (v 4) 1] (zK 129 (.func (.func 109) #[] #[.pointer (some ⟨b1,0,none⟩)]) (.int .i64 2) (v 4))]),.n,.v (.func (.func 109) #[] #[.pointer (some ⟨b1,0,none⟩)]),.m (fun v=>[.grp [gF (v 7) 0,gF (v 7) 1] (zK 129 (.func (.func 109) #[] #[.pointer (some ⟨b1,0,none⟩)]) (.int .i64 3) (v 7))]),.n,.f (fun v=>v 9=.map (some (o6 (v 0)))),.f (fun v=>v 10=.map (some (o6 (v 0))))] (fun l v=>[rp (l 0) (l 2) (l 5) (l 8) (v 0) (.func (.func 111) #[] #[.pointer (some ⟨b3,0,none⟩)]) (v 4) (v 7)]) _ h s rfl (by kernel_rfl) (by kernel_rfl) (by kernel_rfl) (by kernel_rfl) (cF ?_ (cF ?_ (cF ?_ (cF ?_ (cF ?_ (cF ?_ (cF ?_ (cF ?_ (cF ?_ (cF ?_ (cF ?_ (trivial)))))))))))) [0,1,2,3,4,5,6,7,8,9,10] (by kernel_rfl) ?_
 ·intro f9 w2 vl2 E9 lst9 hlo hlc hlz hs9 hd9 hl hF hR9 s
  have h:=aD [] (hs9.trans h.size) (hd9.trans h.defers) (holds_lk trivial)
  replace s:St w (rp (lst9 0) (lst9 2) (lst9 5) (lst9 8) (vl2 0) (.func (.func 111) #[] #[.pointer (some ⟨b3,0,none⟩)]) (vl2 4) (vl2 7)::.blk b3 (.cells (#[(.func (.func 109) #[] #[.pointer (some ⟨b1,0,none⟩)])]) 167)::.blk b1 (.cells (#[.string sx]) 9)::E9) _:=s
  rw [hlo] at s
  refine wN h s rfl ?_;intro f w1 V9 hV9 h s
  have l2:=ve hlz 0 2 hlo rfl
  have l5:=ve hlz 0 5 hlo rfl
  have l8:=ve hlz 0 8 hlo rfl
  replace s:St w (rp true (lst9 2) (lst9 5) (lst9 8) V9 (.func (.func 111) #[] #[.pointer (some ⟨b3,0,none⟩)]) (vl2 4) (vl2 7)::.blk b3 (.cells #[(.func (.func 109) #[] #[.pointer (some ⟨b1,0,none⟩)])] 167)::.blk b1 (.cells #[.string sx] 9)::E9) w1:=by rw [l2,l5,l8];exact s
  exact av ⟨_,bw 5 h rfl rfl,hV9,s⟩
 ·intro f9 w2 vl2 E9 lst9 hlo hlc hlz hs9 hd9 hl hF hR9 s
  have h:=dh [(3,_)] h hs9 hd9 ⟨gN hl 3 (by kernel_rfl) (h.holds 3 _ rfl),trivial⟩
  refine ae h (fj [.pointer (some ⟨b3,0,none⟩)] (qJ h rfl)) rfl fun f h=>av ⟨_,bw 6 h rfl rfl,rfl,s⟩
 ·intro f9 w2 vl2 E9 lst9 hlo hlc hlz hs9 hd9 hl hF hR9 s
  have h:=dh [(5,.map (some (o6 (vl2 0)))),(6,_)] h hs9 hd9 ⟨bu hl 5 0 (by kernel_rfl) (hF 0 (by decide)),bu hl 6 1 (by kernel_rfl) (hF 1 (by decide)),trivial⟩
  replace s:St w (rp (lst9 0) (lst9 2) (lst9 5) (lst9 8) (vl2 0) (.func (.func 111) #[] #[.pointer (some ⟨b3,0,none⟩)]) (vl2 4) (vl2 7)::.blk b3 (.cells (#[(.func (.func 109) #[] #[.pointer (some ⟨b1,0,none⟩)])]) 167)::.blk b1 (.cells (#[.string sx]) 9)::E9) _:=s
  have l0:=hlc 0 (by decide)
  rw [l0,hlo] at s
  refine oe (c2:=true) (c4:=(lst9 5)) (c6:=(lst9 8)) 2 h s Tryz.underlying147 Tryz.underlying3 rfl rfl rfl rfl (OC _ _ _ _ _) ?_;intro w1 s
  replace s:St w (rp (lst9 0) true (lst9 5) (lst9 8) (vl2 0) (.func (.func 111) #[] #[.pointer (some ⟨b3,0,none⟩)]) (vl2 4) (vl2 7)::.blk b3 (.cells #[(.func (.func 109) #[] #[.pointer (some ⟨b1,0,none⟩)])] 167)::.blk b1 (.cells #[.string sx] 9)::E9) w1:=by rw [l0];exact s
  exact av ⟨undef,iL rfl,trivial,s⟩
 ·intro f9 w2 vl2 E9 lst9 hlo hlc hlz hs9 hd9 hl hF hR9 s
  have h:=dh [(3,_)] h hs9 hd9 ⟨gN hl 3 (by kernel_rfl) (h.holds 3 _ rfl),trivial⟩
  refine fw 1 h s qv rfl rfl (rfl) rfl fun f h=>av ⟨_,bw 7 h rfl rfl,rfl,s⟩
 ·intro f9 w2 vl2 E9 lst9 hlo hlc hlz hs9 hd9 hl hF hR9 s
  have h:=dh [(7,_)] h hs9 hd9 ⟨bu hl 7 3 (by kernel_rfl) (hF 3 (by decide)),trivial⟩
  replace s:St w (rp (lst9 0) (lst9 2) (lst9 5) (lst9 8) (vl2 0) (.func (.func 111) #[] #[.pointer (some ⟨b3,0,none⟩)]) (vl2 4) (vl2 7)::.blk b3 (.cells (#[(.func (.func 109) #[] #[.pointer (some ⟨b1,0,none⟩)])]) 167)::.blk b1 (.cells (#[.string sx]) 9)::E9) _:=s
  refine bq h s BQ (po b1 2 _) rfl rfl ?_;intro f w1 V9 hG9 hE9 h sq;replace s:=s.add hG9;clear hG9
  have lb:=ve hlz 4 5 hlo rfl
  replace s:St w (.grp [gF V9 0,gF V9 1] (zK 129 (.func (.func 109) #[] #[.pointer (some ⟨b1,0,none⟩)]) (.int .i64 2) V9)::rp (lst9 0) (lst9 2) (lst9 5) (lst9 8) (vl2 0) (.func (.func 111) #[] #[.pointer (some ⟨b3,0,none⟩)]) V9 (vl2 7)::.blk b3 (.cells #[(.func (.func 109) #[] #[.pointer (some ⟨b1,0,none⟩)])] 167)::.blk b1 (.cells #[.string sx] 9)::E9) w1:=by rw [lb] at s ⊢;exact s
  exact av ⟨_,bw 8 h rfl rfl,trivial,s⟩
 ·intro f9 w2 vl2 E9 lst9 hlo hlc hlz hs9 hd9 hl hF hR9 s
  have e5:f9.tmps.getD 5 undef=.map (some (o6 (vl2 0))):=(dK hl 5 0 (by kernel_rfl) (by kernel_rfl)).trans (hF 0 (by decide))
  have e8:f9.tmps.getD 8 undef=(vl2 4):=dK hl 8 4 (by kernel_rfl) (by kernel_rfl)
  have h:=aD [(5,.map (some (o6 (vl2 0)))),(8,(vl2 4))] (hs9.trans h.size) (hd9.trans h.defers) (holds_lk ⟨e5,e8,trivial⟩)
  replace s:St w (rp (lst9 0) (lst9 2) (lst9 5) (lst9 8) (vl2 0) (.func (.func 111) #[] #[.pointer (some ⟨b3,0,none⟩)]) (vl2 4) (vl2 7)::.blk b3 (.cells (#[(.func (.func 109) #[] #[.pointer (some ⟨b1,0,none⟩)])]) 167)::.blk b1 (.cells (#[.string sx]) 9)::E9) _:=s
  have l0:=hlc 0 (by decide)
  rw [l0,hlo] at s
  refine oe (c2:=(lst9 2)) (c4:=true) (c6:=(lst9 8)) 4 h s Tryz.underlying147 Tryz.underlying3 rfl rfl rfl rfl (Og _ _ _ _ _) ?_;intro w1 s
  replace s:St w (rp (lst9 0) (lst9 2) true (lst9 8) (vl2 0) (.func (.func 111) #[] #[.pointer (some ⟨b3,0,none⟩)]) (vl2 4) (vl2 7)::.blk b3 (.cells #[(.func (.func 109) #[] #[.pointer (some ⟨b1,0,none⟩)])] 167)::.blk b1 (.cells #[.string sx] 9)::E9) w1:=by rw [l0];exact s
  exact av ⟨undef,iL rfl,trivial,s⟩
 ·intro f9 w2 vl2 E9 lst9 hlo hlc hlz hs9 hd9 hl hF hR9 s
  have h:=dh [(3,_)] h hs9 hd9 ⟨gN hl 3 (by kernel_rfl) (h.holds 3 _ rfl),trivial⟩
  refine fw 1 h s qv rfl rfl (rfl) rfl fun f h=>av ⟨_,bw 9 h rfl rfl,rfl,s⟩
 ·intro f9 w2 vl2 E9 lst9 hlo hlc hlz hs9 hd9 hl hF hR9 s
  have h:=dh [(9,_)] h hs9 hd9 ⟨bu hl 9 6 (by kernel_rfl) (hF 6 (by decide)),trivial⟩
  replace s:St w (rp (lst9 0) (lst9 2) (lst9 5) (lst9 8) (vl2 0) (.func (.func 111) #[] #[.pointer (some ⟨b3,0,none⟩)]) (vl2 4) (vl2 7)::.blk b3 (.cells (#[(.func (.func 109) #[] #[.pointer (some ⟨b1,0,none⟩)])]) 167)::.blk b1 (.cells (#[.string sx]) 9)::E9) _:=s
  refine bq h s BQ (po b1 3 _) rfl rfl ?_;intro f w1 V9 hG9 hE9 h sq;replace s:=s.add hG9;clear hG9
  have lb:=ve hlz 7 8 hlo rfl
  replace s:St w (.grp [gF V9 0,gF V9 1] (zK 129 (.func (.func 109) #[] #[.pointer (some ⟨b1,0,none⟩)]) (.int .i64 3) V9)::rp (lst9 0) (lst9 2) (lst9 5) (lst9 8) (vl2 0) (.func (.func 111) #[] #[.pointer (some ⟨b3,0,none⟩)]) (vl2 4) V9::.blk b3 (.cells #[(.func (.func 109) #[] #[.pointer (some ⟨b1,0,none⟩)])] 167)::.blk b1 (.cells #[.string sx] 9)::E9) w1:=by rw [lb] at s ⊢;exact s
  exact av ⟨_,bw 10 h rfl rfl,trivial,s⟩
 ·intro f9 w2 vl2 E9 lst9 hlo hlc hlz hs9 hd9 hl hF hR9 s
  have e5:f9.tmps.getD 5 undef=.map (some (o6 (vl2 0))):=(dK hl 5 0 (by kernel_rfl) (by kernel_rfl)).trans (hF 0 (by decide))
  have e10:f9.tmps.getD 10 undef=(vl2 7):=dK hl 10 7 (by kernel_rfl) (by kernel_rfl)
  have h:=aD [(5,.map (some (o6 (vl2 0)))),(10,(vl2 7))] (hs9.trans h.size) (hd9.trans h.defers) (holds_lk ⟨e5,e10,trivial⟩)
  replace s:St w (rp (lst9 0) (lst9 2) (lst9 5) (lst9 8) (vl2 0) (.func (.func 111) #[] #[.pointer (some ⟨b3,0,none⟩)]) (vl2 4) (vl2 7)::.blk b3 (.cells (#[(.func (.func 109) #[] #[.pointer (some ⟨b1,0,none⟩)])]) 167)::.blk b1 (.cells (#[.string sx]) 9)::E9) _:=s
  have l0:=hlc 0 (by decide)
  rw [l0,hlo] at s
  refine oe (c2:=(lst9 2)) (c4:=(lst9 5)) (c6:=true) 6 h s Tryz.underlying147 Tryz.underlying3 rfl rfl rfl rfl (OF _ _ _ _ _) ?_;intro w1 s
  replace s:St w (rp (lst9 0) (lst9 2) (lst9 5) true (vl2 0) (.func (.func 111) #[] #[.pointer (some ⟨b3,0,none⟩)]) (vl2 4) (vl2 7)::.blk b3 (.cells #[(.func (.func 109) #[] #[.pointer (some ⟨b1,0,none⟩)])] 167)::.blk b1 (.cells #[.string sx] 9)::E9) w1:=by rw [l0];exact s
  exact av ⟨undef,iL rfl,trivial,s⟩
 ·intro f9 w2 vl2 E9 lst9 hlo hlc hlz hs9 hd9 hl hF hR9 s
  have h:=dh [(5,.map (some (o6 (vl2 0))))] h hs9 hd9 ⟨bu hl 5 0 (by kernel_rfl) (hF 0 (by decide)),trivial⟩
  refine am ab 1 h rfl fun f h=>av ⟨_,bw 11 h rfl rfl,rfl,s⟩
 ·intro f9 w2 vl2 E9 lst9 hlo hlc hlz hs9 hd9 hl hF hR9 s
  have h:=dh [(11,.map (some (o6 (vl2 0))))] h hs9 hd9 ⟨bu hl 11 9 (by kernel_rfl) (hF 9 (by decide)),trivial⟩
  refine am ab 1 h rfl fun f h=>av ⟨_,bw 2 h rfl rfl,rfl,s⟩
 intro f w1 vl2 hs9 hd9 hv hr hF s
 replace h:=ly (ops:=_) [(5,.map (some (o6 (vl2 0)))),(6,_),(7,_),(8,(vl2 4)),(9,_),(10,(vl2 7)),(11,.map (some (o6 (vl2 0)))),(2,.map (some (o6 (vl2 0))))] h hs9 hd9 hr ⟨(hv 0 5 rfl).trans (hF 0 rfl),(hv 1 6 rfl).trans (hF 1 rfl),(hv 3 7 rfl).trans (hF 3 rfl),hv 4 8 rfl,(hv 6 9 rfl).trans (hF 6 rfl),hv 7 10 rfl,(hv 9 11 rfl).trans (hF 9 rfl),(hv 10 2 rfl).trans (hF 10 rfl),trivial⟩ (by kernel_rfl)
 replace s:St w [.grp [gF (vl2 4) 0,gF (vl2 4) 1] (zK 129 (.func (.func 109) #[] #[.pointer (some ⟨b1,0,none⟩)]) (.int .i64 2) (vl2 4)),.grp [gF (vl2 7) 0,gF (vl2 7) 1] (zK 129 (.func (.func 109) #[] #[.pointer (some ⟨b1,0,none⟩)]) (.int .i64 3) (vl2 7)),rp true true true true (vl2 0) (.func (.func 111) #[] #[.pointer (some ⟨b3,0,none⟩)]) (vl2 4) (vl2 7),.blk b3 (.cells (#[(.func (.func 109) #[] #[.pointer (some ⟨b1,0,none⟩)])]) 167),.blk b1 (.cells (#[.string sx]) 9)] _:=s
 refine aE (wpIn_ret (aH rfl h s rfl (FP s)))
theorem xj (sx:ByteArray) (hsx:sx.size≤1000) (m:Mg) (vs:Value) (w:World) (hV:dM w vs m.l) (hml:m.l.length≤1000) (hH:ff w 0 (wF jp 8)) (hK:ff w 1 (wF iJ 64)):Calls Tryz.prog 70 [.string sx,.agg (aP m vs)].toArray w (cp w (O4 w vs m (E7 sx m) (IV sx m) (A4 sx m))):=by
 refine bF Tryz.func70 rfl Tryz.ntmps70 rfl fun f h s=>qr (aZ (aP m vs) h s rfl rfl rfl fun f w1 b3 h s=>am ab 1 h rfl fun f h=>aK (aP mZ aI) h s kQ rfl rfl fun f w1 b5 h s=>e9 ab 1 h rfl fun f h=>al (xB (γ:=List Nat × (Int→Option Value)) 0 [[],[0],[],[2],[0,1,2,3],[0,1,2,3,4],[0,1,2,3,4,5],[0,1,2,3,4,5],[0,1,2,3,4,5,6],[0,1,2,3,4,5,6,7,8]] [[],[],[],[],[1],[],[],[],[],[]] [] [.v _,.r (fun v=>[.grp (v 1).2.1 (fun w9=>N1 Tryz.prog w9 (o6 (v 1).1) (v 1).2.2 sx)]) (fun v=>(v 1).1=.map (some (o6 (v 1).1))),.v _,.v (.int .i64 m.k),.r (fun v=>[.grp (v 4).2.1 (fun w9=>sG m.k=true→L1 Tryz.prog w9 (ed (v 4).1) sx m.k)]) (fun v=>(v 4).1=.tuple #[ed (v 4).1,.bool (sG m.k)]),.f (fun v=>(v 5).1=.tuple #[ed (v 4).1,.bool (sG m.k)]),.f (fun v=>(v 6).1=ed (v 4).1),.v (.bool (sG m.k)),.f (fun v=>(v 8).1=ed (v 4).1),.v _] _ h s rfl (by kernel_rfl) (by kernel_rfl) (by kernel_rfl) (Fy ab h rfl rfl rfl (cF ?_ (Fy ab h rfl rfl rfl (cF ?_ (cF ?_ (cF ?_ (cF ?_ (cF ?_ (cF ?_ (Fy ab h rfl rfl rfl (trivial))))))))))) [0,2,3,4,5,6,7,8,9] (by kernel_rfl) ?_))
 ·intro f9 w2 vl1 E9 hs9 hd9 hl hF s
  have h:=dh [(12,_)] h hs9 hd9 ⟨bu hl 12 0 (by kernel_rfl) (hF 0 (by decide)),trivial⟩
  refine bq h s MN (ui sx _) rfl rfl ?_;rintro f w1 v13 ⟨mb,kj,gj,hv13,hG⟩ hE h sq;subst hv13;replace s:=s.add hG;clear hG
  exact av ⟨(_,(kj,gj)),bw 13 h rfl rfl,rfl,s⟩
 ·intro f9 w2 vl1 E9 hs9 hd9 hl hF s
  have h:=dh [(14,_)] h hs9 hd9 ⟨bu hl 14 2 (by kernel_rfl) (hF 2 (by decide)),trivial⟩
  refine ag (ac (aG.of_own s 1 rfl) 0 (cN _ _)) h bo rfl rfl fun f h=>av ⟨(_,default),bw 15 h rfl rfl,rfl,s⟩
 ·intro f9 w2 vl1 E9 hs9 hd9 hl hF s
  have h:=dh [(13,.map (some (o6 (vl1 1).1))),(15,_)] h hs9 hd9 ⟨bu hl 13 1 (by kernel_rfl) (hF 1 (by decide)),bu hl 15 3 (by kernel_rfl) (hF 3 (by decide)),trivial⟩
  have hJ9:=s.getG 0 rfl
  refine Gd (Z:=.nilFunc) h hJ9.1 Tryz.underlying147 Tryz.underlying3 G1 rfl rfl rfl ?_;intro f h
  rw [Fi hJ9 m.k] at h
  replace s:=s.weak (S':=fun w9=>sG m.k=true→L1 Tryz.prog w9 (((vl1 1).2.2 m.k).getD .nilFunc) sx m.k) (fun w9 h9 hJ=>JA h9 hJ)
  exact av ⟨(_,((vl1 1).2.1,default)),bw 16 h rfl rfl,rfl,s⟩
 ·intro f9 w2 vl1 E9 hs9 hd9 hl hF s
  have h:=dh [(16,.tuple #[ed (vl1 4).1,.bool (sG m.k)])] h hs9 hd9 ⟨bu hl 16 4 (by kernel_rfl) (hF 4 (by decide)),trivial⟩
  refine am ab 1 h rfl fun f h=>av ⟨(_,default),bw 11 h rfl rfl,rfl,s⟩
 ·intro f9 w2 vl1 E9 hs9 hd9 hl hF s
  have h:=dh [(11,.tuple #[ed (vl1 4).1,.bool (sG m.k)])] h hs9 hd9 ⟨bu hl 11 5 (by kernel_rfl) (hF 5 (by decide)),trivial⟩
  refine am ab 1 h rfl fun f h=>av ⟨(_,default),bw 17 h rfl rfl,rfl,s⟩
 ·intro f9 w2 vl1 E9 hs9 hd9 hl hF s
  have h:=dh [(11,.tuple #[ed (vl1 4).1,.bool (sG m.k)])] h hs9 hd9 ⟨bu hl 11 5 (by kernel_rfl) (hF 5 (by decide)),trivial⟩
  refine am ab 1 h rfl fun f h=>av ⟨(_,default),bw 18 h rfl rfl,rfl,s⟩
 ·intro f9 w2 vl1 E9 hs9 hd9 hl hF s
  have h:=dh [(17,ed (vl1 4).1)] h hs9 hd9 ⟨bu hl 17 6 (by kernel_rfl) (hF 6 (by decide)),trivial⟩
  refine am ab 1 h rfl fun f h=>av ⟨(_,default),bw 7 h rfl rfl,rfl,s⟩
 intro f w1 vl1 hs9 hd9 hv hr hF s
 replace h:=ly (ops:=_) [(12,_),(13,.map (some (o6 (vl1 1).1))),(14,_),(15,_),(16,.tuple #[ed (vl1 4).1,.bool (sG m.k)]),(11,.tuple #[ed (vl1 4).1,.bool (sG m.k)]),(17,ed (vl1 4).1),(18,_),(7,ed (vl1 4).1),(8,_)] h hs9 hd9 hr ⟨(hv 0 12 rfl).trans (hF 0 rfl),(hv 1 13 rfl).trans (hF 1 rfl),(hv 2 14 rfl).trans (hF 2 rfl),(hv 3 15 rfl).trans (hF 3 rfl),(hv 4 16 rfl).trans (hF 4 rfl),(hv 5 11 rfl).trans (hF 5 rfl),(hv 6 17 rfl).trans (hF 6 rfl),(hv 7 18 rfl).trans (hF 7 rfl),(hv 8 7 rfl).trans (hF 8 rfl),(hv 9 8 rfl).trans (hF 9 rfl),trivial⟩ (by kernel_rfl)
 replace s:St w [.grp (vl1 4).2.1 (fun w9=>sG m.k=true→L1 Tryz.prog w9 (ed (vl1 4).1) sx m.k),.blk b5 (.cells (aP mZ aI) 31),.blk b3 (.cells (aP m vs) 31)] _:=s
 refine aE (al (al ?_))
 refine aF (cZ ab h rfl (fun j0 f h=>?_) (fun j0 f h=>?_))
 ·refine e9 ab 6 h rfl fun f h=>cy h rfl (qr (ae h (ft li) rfl fun f h=>am ab 1 h rfl fun f h=>aj 1 h s bL rfl rfl rfl (ax _ _) (ax _ _) (cX _ _ rfl) fun w1 s=>e9 ab 1 h rfl fun f h=>rt ?_))
  exact ia 1 rfl h s bL rfl rfl rfl (ax _ _) rfl (by obtain ⟨q1,q2,q3⟩:=H0 (s:=sx) (m:=m) (by rw [mm,j0,Bool.and_false]);rw [q1,q2,q3];exact py rfl s.ext)
 ·skip
  refine am ab 2 h rfl fun f h=>bf h rfl (ak 2 h s bL rfl rfl (ax _ _) rfl fun f h=>bf h rfl (gg h s qW (gh m vs _ (hV.keep s.ext) (by omega)) rfl rfl (fun r0 f w1 h s=>?_) (fun r0 f w1 h s=>?_)))
  ·refine e9 ab 2 h rfl fun f h=>cy h rfl (qr (ae h (ft li) rfl fun f h=>am ab 1 h rfl fun f h=>aj 1 h s bL rfl rfl rfl (ax _ _) (ax _ _) (cX _ _ rfl) fun w1 s=>e9 ab 1 h rfl fun f h=>rt ?_))
   exact ia 1 rfl h s bL rfl rfl rfl (ax _ _) rfl (by obtain ⟨q1,q2,q3⟩:=H0 (s:=sx) (m:=m) (by rw [mm,r0,Bool.false_and]);rw [q1,q2,q3];exact py rfl s.ext)
  ·refine e9 ab 2 h rfl fun f h=>iU h rfl (al (bZ ab 1 h rfl fun f h=>ae h (ct Tryz.underlying9 (h.ev rfl)) rfl fun f h=>e9 ab 1 h rfl fun f h=>cd h rfl (fun hc=>?_) (fun hc=>?_)))
   ·have hs9:=of_decide_eq_true hc
    refine qr (ae h (ft li) rfl fun f h=>am ab 1 h rfl fun f h=>aj 1 h s bL rfl rfl rfl (ax _ _) (ax _ _) (cX _ _ rfl) fun w1 s=>e9 ab 1 h rfl fun f h=>rt ?_)
    exact ia 1 rfl h s bL rfl rfl rfl (ax _ _) rfl (by obtain ⟨q1,q2,q3⟩:=Hv (s:=sx) (m:=m) (by rw [mm,r0,j0];rfl) (by omega);rw [q1,q2,q3];exact py rfl s.ext)
   ·have hs9:=of_decide_eq_false hc
    refine kt (bZ ab 1 h rfl fun f h=>ak 2 h s bL rfl rfl (ax _ _) rfl fun f h=>?_)
    have ha:cC m=true:=by rw [mm,r0,j0];rfl
    obtain ⟨f5,c5,hv5,hf5,hC5⟩:=(s.getG 0 rfl) j0
    rw [hv5] at h
    refine nu [.agg (aP m vs)] (caps:=c5) h s hf5 rfl (hC5 m vs rfl ha (by omega) (hV.keep s.ext) (hH.keep s.ext) (hK.keep s.ext)) rfl rfl ?_;intro f w1 v9 hT hE h s;obtain rfl:=hT
    refine am ab 3 h rfl fun f h=>aK (aP mZ aI) h s kQ rfl rfl fun f w1 b10 h s=>am ab 1 h rfl fun f h=>aj 0 h s bL rfl rfl rfl (ax _ _) (ax _ _) (cX _ _ rfl) fun w1 s=>nt (al (eo 3 h (by kernel_rfl) (az ab 1 h rfl fun f h=>bh 0 h s bL rfl rfl (ax _ _) rfl fun f h=>az ab 1 h rfl fun f h=>cj s fun w1 s=>aj 2 h s bL rfl rfl rfl (ax _ _) (ax _ _) (cX _ _ rfl) fun w1 s=>e9 ab 1 h rfl fun f h=>wpIn_ret ?_)))
    exact ia 2 rfl h s bL rfl rfl rfl (ax _ _) rfl (by obtain ⟨q1,q2,q3⟩:=In (s:=sx) ha (by omega);rw [q1,q2,q3];exact py (wR _ _).1 s.ext)
theorem AA (m:Mg) (vs:Value) (now:Int) (w:World) (hV:dM w vs m.l) (hml:m.l.length≤1000):Calls Tryz.prog 95 [.agg (aP m vs),.int .i64 now].toArray w (cp w (is (.tuple #[.agg (aB (Np m now)),.int .i64 (Mx m now)]))):=by
 refine bF Tryz.func95 rfl Tryz.ntmps95 rfl fun f h s=>qr (aZ (aP m vs) h s rfl rfl rfl fun f w1 b2 h s=>aK (aB aW) h s eL rfl rfl fun f w1 b4 h s=>e9 ab 1 h rfl fun f h=>al ?_)
 refine rs ab 1 h rfl fun f h=>ag (ac (aG.of_own s 1 rfl) 0 (cN _ _)) h bo rfl rfl fun f h=>cZ ab h rfl (fun k2 f h=>?_) (fun k2 f h=>?_)
 ·skip
  refine am ab 2 h rfl fun f h=>bf h rfl (ag (ac (aG.of_own s 1 rfl) 0 (cN _ _)) h bo rfl rfl fun f h=>bf h rfl (cZ ab h rfl (fun k4 f h=>?_) (fun k4 f h=>?_)))
  ·refine e9 ab 2 h rfl fun f h=>al (bH ab 15 h rfl fun f h=>cy h rfl (qr (ae h (cK jM) rfl fun f h=>aj 0 h s a8 rfl rfl rfl (ao _) (ao _) (bm _) fun w1 s=>e9 ab 1 h rfl fun f h=>rt (cY 0 rfl h s a8 rfl rfl (ao _) rfl (by obtain ⟨q1,q2⟩:=wz (m:=m) (now:=now) (MY now k2 k4);rw [q1,q2];rfl)))))
  ·refine e9 ab 2 h rfl fun f h=>al (al ?_)
   refine rs ab 3 h rfl fun f h=>bf h rfl (ak 1 h s bL rfl rfl (ax _ _) rfl fun f h=>bf h rfl (gg h s qW (gh m vs _ (hV.keep s.ext) (by omega)) rfl rfl (fun r0 f w1 h s=>?_) (fun r0 f w1 h s=>?_)))
   ·refine e9 ab 10 h rfl fun f h=>cy h rfl (qr (ae h (cK jM) rfl fun f h=>aj 0 h s a8 rfl rfl rfl (ao _) (ao _) (bm _) fun w1 s=>e9 ab 1 h rfl fun f h=>rt (cY 0 rfl h s a8 rfl rfl (ao _) rfl (by obtain ⟨q1,q2⟩:=wz (m:=m) (now:=now) (My now (by rw [mm,r0];rfl));rw [q1,q2];rfl))))
   ·skip
    refine am ab 4 h rfl fun f h=>bf h rfl (cZ ab h rfl (fun n0 f h=>?_) (fun n0 f h=>?_))
    ·skip
     refine am ab 3 h rfl fun f h=>bf h rfl (cZ ab h rfl (fun n1 f h=>?_) (fun n1 f h=>?_))
     ·refine e9 ab 1 h rfl fun f h=>iU h rfl (qr ?_)
      obtain ⟨y1,y2⟩:=nF (eM.2 ⟨r0,.inr (.inl (of_decide_eq_true k4))⟩) (decide_eq_false (by have:=of_decide_eq_true k4;omega))
      have y3:=of_decide_eq_false n0
      have y4:=of_decide_eq_false n1
      refine am ab 1 h rfl fun f h=>ar (aG.subL (aG.of_own s 1 rfl) 1 32 (D:=aA (_)) (cQ _ _)) h aN rfl (by first|exact ai _|exact ah _ _) rfl fun f h=>am ab 1 h rfl fun f h=>ar (aG.subL (aG.of_own s 1 rfl) 33 34 (D:=bg (_)) (cI _ _)) h bY rfl (aC _) rfl fun f h=>am ab 2 h rfl fun f h=>ag (ac (aG.of_own s 1 rfl) 68 (ee _ _)) h bo rfl rfl fun f h=>ae h (a6 (h.ev rfl) (h.ev rfl) (by omega)) rfl fun f h=>ae h (aV (.int .i64 (min (now+m.n) 1099511627776)) (lU (h.ev rfl) (h.ev rfl)) (congrArg (Value.int .i64) (by omega))) rfl fun f h=>ae h (iF jM (h.ev rfl) (h.ev rfl) (h.ev rfl)) rfl fun f h=>aj 0 h s a8 rfl rfl rfl (ao _) (ao _) (bm _) fun w1 s=>e9 ab 1 h rfl fun f h=>wpIn_ret (cY 0 rfl h s a8 rfl rfl (ao _) rfl (by obtain ⟨q1,q2⟩:=KY (m:=m) (now:=now) (JS (eM.2 ⟨r0,.inr (.inl (of_decide_eq_true k4))⟩) (decide_eq_false (by have:=of_decide_eq_true k4;omega)) n0 n1);rw [q1,q2];rfl))
     ·refine e9 ab 1 h rfl fun f h=>cy h rfl (qr (ae h (cK jM) rfl fun f h=>aj 0 h s a8 rfl rfl rfl (ao _) (ao _) (bm _) fun w1 s=>e9 ab 1 h rfl fun f h=>rt (cY 0 rfl h s a8 rfl rfl (ao _) rfl (by obtain ⟨q1,q2⟩:=wz (m:=m) (now:=now) (LV n1);rw [q1,q2];rfl))))
    ·refine e9 ab 5 h rfl fun f h=>cy h rfl (qr (ae h (cK jM) rfl fun f h=>aj 0 h s a8 rfl rfl rfl (ao _) (ao _) (bm _) fun w1 s=>e9 ab 1 h rfl fun f h=>rt (cY 0 rfl h s a8 rfl rfl (ao _) rfl (by obtain ⟨q1,q2⟩:=wz (m:=m) (now:=now) (Nt n0);rw [q1,q2];rfl))))
 ·refine e9 ab 6 h rfl fun f h=>al (al ?_)
  refine rs ab 3 h rfl fun f h=>bf h rfl (ak 1 h s bL rfl rfl (ax _ _) rfl fun f h=>bf h rfl (gg h s qW (gh m vs _ (hV.keep s.ext) (by omega)) rfl rfl (fun r0 f w1 h s=>?_) (fun r0 f w1 h s=>?_)))
  ·refine e9 ab 10 h rfl fun f h=>cy h rfl (qr (ae h (cK jM) rfl fun f h=>aj 0 h s a8 rfl rfl rfl (ao _) (ao _) (bm _) fun w1 s=>e9 ab 1 h rfl fun f h=>rt (cY 0 rfl h s a8 rfl rfl (ao _) rfl (by obtain ⟨q1,q2⟩:=wz (m:=m) (now:=now) (My now (by rw [mm,r0];rfl));rw [q1,q2];rfl))))
  ·skip
   refine am ab 4 h rfl fun f h=>bf h rfl (cZ ab h rfl (fun n0 f h=>?_) (fun n0 f h=>?_))
   ·skip
    refine am ab 3 h rfl fun f h=>bf h rfl (cZ ab h rfl (fun n1 f h=>?_) (fun n1 f h=>?_))
    ·refine e9 ab 1 h rfl fun f h=>iU h rfl (qr ?_)
     obtain ⟨y1,y2⟩:=nF (eM.2 ⟨r0,.inl (of_decide_eq_true k2)⟩) (decide_eq_false (by have:=of_decide_eq_true k2;omega))
     have y3:=of_decide_eq_false n0
     have y4:=of_decide_eq_false n1
     refine am ab 1 h rfl fun f h=>ar (aG.subL (aG.of_own s 1 rfl) 1 32 (D:=aA (_)) (cQ _ _)) h aN rfl (by first|exact ai _|exact ah _ _) rfl fun f h=>am ab 1 h rfl fun f h=>ar (aG.subL (aG.of_own s 1 rfl) 33 34 (D:=bg (_)) (cI _ _)) h bY rfl (aC _) rfl fun f h=>am ab 2 h rfl fun f h=>ag (ac (aG.of_own s 1 rfl) 68 (ee _ _)) h bo rfl rfl fun f h=>ae h (a6 (h.ev rfl) (h.ev rfl) (by omega)) rfl fun f h=>ae h (aV (.int .i64 (min (now+m.n) 1099511627776)) (lU (h.ev rfl) (h.ev rfl)) (congrArg (Value.int .i64) (by omega))) rfl fun f h=>ae h (iF jM (h.ev rfl) (h.ev rfl) (h.ev rfl)) rfl fun f h=>aj 0 h s a8 rfl rfl rfl (ao _) (ao _) (bm _) fun w1 s=>e9 ab 1 h rfl fun f h=>wpIn_ret (cY 0 rfl h s a8 rfl rfl (ao _) rfl (by obtain ⟨q1,q2⟩:=KY (m:=m) (now:=now) (JS (eM.2 ⟨r0,.inl (of_decide_eq_true k2)⟩) (decide_eq_false (by have:=of_decide_eq_true k2;omega)) n0 n1);rw [q1,q2];rfl))
    ·refine e9 ab 1 h rfl fun f h=>cy h rfl (qr (ae h (cK jM) rfl fun f h=>aj 0 h s a8 rfl rfl rfl (ao _) (ao _) (bm _) fun w1 s=>e9 ab 1 h rfl fun f h=>rt (cY 0 rfl h s a8 rfl rfl (ao _) rfl (by obtain ⟨q1,q2⟩:=wz (m:=m) (now:=now) (LV n1);rw [q1,q2];rfl))))
   ·refine e9 ab 5 h rfl fun f h=>cy h rfl (qr (ae h (cK jM) rfl fun f h=>aj 0 h s a8 rfl rfl rfl (ao _) (ao _) (bm _) fun w1 s=>e9 ab 1 h rfl fun f h=>rt (cY 0 rfl h s a8 rfl rfl (ao _) rfl (by obtain ⟨q1,q2⟩:=wz (m:=m) (now:=now) (Nt n0);rw [q1,q2];rfl))))
end Go.Proofs.YtobfeflheaobiaaGreatDoor
