/- What package guard answers: the map of functions, Judge, Trigger. -/
import Derived.Test.YtobfeflheaobiaaGreatDoorXk
import Derived.Test.YtobfeflheaobiaaGreatDoorVc
set_option linter.unusedVariables false
set_option linter.unusedSimpArgs false
set_option linter.unusedSectionVars false
namespace Go.Proofs.YtobfeflheaobiaaGreatDoor
open Go.RowKit
theorem lq (b:Bool) (x:Int) (w:World):Calls Tryz.prog 112 [.bool b,.int .i64 x].toArray w (bT w (is (.int .i64 (bif b then x else 4)))):=by
 refine br Tryz.func112 rfl Tryz.ntmps112 rfl fun f h s=>bG ac 1 h rfl fun f h=>al (bG ac 1 h rfl fun f h=>cq h rfl (fun hc=>?_) (fun hc=>?_))
 ·refine bG ac 2 h rfl fun f h=>rt (aI rfl h s rfl (by show _=_;rw [hc];rfl))
 ·refine kt (bG ac 1 h rfl fun f h=>wpIn_ret (aI rfl h s rfl (by show _=_;rw [hc];rfl)))
theorem nB (sx:ByteArray) (m:Mg) (vs:Value) (bx:Nat) (w:World) (hsx:sx.size≤64) (hbx:dB w bx #[.string sx]) (hV:eg w vs m.l) (hh1:((m.t.2.2.toNat:Nat):Int)=m.t.2.2) (hh2:m.t.2.2.toNat<16) (hH:dB w 0 (wF gF 8)) (hK:dB w 1 (wF gv 64)):Calls Tryz.prog 109 [.agg (a8 m vs),.pointer (some ⟨bx,0,none⟩)].toArray w (bT w (is (.string (D8 sx m)))):=by
 refine br Tryz.func109 rfl Tryz.ntmps109 rfl fun f h s=>qr (aR (a8 m vs) h s rfl rfl rfl fun f w1 b2 h s=>e9 ac 1 h rfl fun f h=>qr (ap (V:=.string sx) (ae (aO.of_tab (hbx.keep s.ext)) 0 (rfl)) h fa rfl rfl fun f h=>aq ac 1 h rfl fun f h=>aE (aO.subL (aO.of_own s 0 rfl) 1 32 (D:=aw (_)) (eM _ _)) h aP rfl (by first|exact am _|exact ah _ _) rfl fun f h=>aq ac 2 h rfl fun f h=>ap (V:=.int .i64 ((m.t.2.2.toNat:Nat):Int)) (ae (aO.of_own s 0 rfl) 66 ((by rw [wd,hh1]))) h bJ rfl rfl fun f h=>cn h s EI (zi sx hsx m.i m.t.2.2.toNat hh2 _ (hH.keep s.ext) (hK.keep s.ext)) rfl rfl fun f w1 h s=>e9 ac 5 h rfl fun f h=>bG ac 2 h rfl fun f h=>wpIn_ret (aI rfl h s rfl (rfl))))
theorem yL (sx:ByteArray) (m:Mg) (vs:Value) (bx by9:Nat) (w:World) (hk:m.k=2) (ha:cr m=true) (hsx:sx.size≤64) (hbx:dB w bx #[.string sx]) (hby:dB w by9 #[(.func (.func 109) #[] #[.pointer (some ⟨bx,0,none⟩)])]) (hV:eg w vs m.l) (hH:dB w 0 (wF gF 8)) (hK:dB w 1 (wF gv 64)):Calls Tryz.prog 111 [.agg (a8 m vs),.pointer (some ⟨by9,0,none⟩)].toArray w (bT w (is (.tuple #[.int .i64 (db sx m),.agg (a8 (dW sx m) aM)]))):=by
 obtain ⟨hh1,hh2⟩:=tF (gN ha).1
 have hie:=(gN ha).1
 refine br Tryz.func111 rfl Tryz.ntmps111 rfl fun f h s=>qr (aR (a8 m vs) h s rfl rfl rfl fun f w1 b2 h s=>aq ac 1 h rfl fun f h=>aJ (a8 mZ aM) h s lF rfl rfl fun f w1 b4 h s=>nt (al (cd ac 2 h rfl fun f h=>ap (ae (aO.of_own s 1 rfl) 33 (vE _ _)) h bJ rfl rfl fun f h=>e9 ac 1 h rfl fun f h=>cq h rfl (fun hc=>?_) (fun hc=>?_))))
 ·obtain ⟨q1,q2⟩:=Fb (s:=sx) hk (of_decide_eq_true hc)
  refine al (d8 9 h (by kernel_rfl) (ay ac 1 h rfl fun f h=>bq (aO.subL (aO.of_own s 1 rfl) 1 32 (D:=aw (_)) (eM _ _)) h aP rfl (by first|exact am _|exact ah _ _) rfl fun f h=>ay ac 1 h rfl fun f h=>bq (aO.subL (aO.of_own s 1 rfl) 33 34 (D:=bc (_)) (dS _ _)) h cy rfl (aK _) rfl fun f h=>av (V:=(.func (.func 109) #[] #[.pointer (some ⟨bx,0,none⟩)])) (ae (aO.of_tab (hby.keep s.ext)) 0 (rfl)) h nq rfl rfl fun f h=>aV 1 h s ck rfl rfl (aF _ _) rfl fun f h=>jh [.agg (a8 m vs)] (caps:=[.pointer (some ⟨bx,0,none⟩)]) h yW rfl (fun w9 h9=>nB sx m vs bx w9 hsx (hbx.keep (s.ext.trans h9)) (hV.keep (s.ext.trans h9)) hh1 hh2 (hH.keep (s.ext.trans h9)) (hK.keep (s.ext.trans h9))) rfl rfl ?_));intro f h
  refine ax h (nP ms rfl (h.ev rfl) (h.ev rfl) (h.ev rfl)) rfl fun f h=>ay ac 1 h rfl fun f h=>cc s fun w1 s=>ao 0 h s ck rfl rfl rfl (aF _ _) (aF _ _) (cH _ _ rfl) fun w1 s=>nt (rt ?_)
  exact g7 0 rfl h s ck rfl rfl rfl (aF _ _) (by rw [q1,q2];rfl)
 ·obtain ⟨q1,q2⟩:=FA (s:=sx) hk hie (of_decide_eq_false hc)
  refine kt (cd ac 1 h rfl fun f h=>aE (aO.subL (aO.of_own s 1 rfl) 1 32 (D:=aw (_)) (eM _ _)) h aP rfl (by first|exact am _|exact ah _ _) rfl fun f h=>aq ac 2 h rfl fun f h=>aE (aO.subL (aO.of_own s 1 rfl) 34 32 (D:=aw (_)) (CD _ _)) h aP rfl (by first|exact am _|exact ah _ _) rfl fun f h=>cn h s Fv (wN m.i m.t.2.1 _ (hH.keep s.ext) (hK.keep s.ext)) rfl rfl fun f w1 h s=>cn h s ue (lq (iC m.i m.t.2.1) 2 _) rfl rfl fun f w1 h s=>ag h (eH ms) rfl fun f h=>aq ac 1 h rfl fun f h=>ao 0 h s ck rfl rfl rfl (aF _ _) (aF _ _) (cH _ _ rfl) fun w1 s=>nt (wpIn_ret ?_))
  exact g7 0 rfl h s ck rfl rfl rfl (aF _ _) (by rw [q1,q2];rfl)
theorem mi (bx:Nat) (x:Int) (w:World):Calls Tryz.prog 114 [(.func (.func 109) #[] #[.pointer (some ⟨bx,0,none⟩)]),.int .i64 x].toArray w (bT w (fun v w'=>St w [.grp [eS v 0,eS v 1] (vj 129 (.func (.func 109) #[] #[.pointer (some ⟨bx,0,none⟩)]) (.int .i64 x) v)] w')):=by
 refine br Tryz.func114 rfl Tryz.ntmps114 rfl fun f h s=>qr (aR (#[(.func (.func 109) #[] #[.pointer (some ⟨bx,0,none⟩)])]) h s rfl rfl rfl fun f w1 b2 h s=>aR (#[.int .i64 x]) h s rfl rfl rfl fun f w1 b3 h s=>e9 ac 1 h rfl fun f h=>qr (ag h (dl [.pointer (some ⟨b2,0,none⟩),.pointer (some ⟨b3,0,none⟩)] (kZ h rfl)) rfl fun f h=>e9 ac 1 h rfl fun f h=>wpIn_ret (aI rfl h s rfl (CJ (s.sel [1,0] rfl (by decide)) rfl))))
theorem qI (sx:ByteArray) (m:Mg) (vs:Value) (bx c1 c2:Nat) (x:Int) (w:World) (hk:(m.k=4∧x=2)∨(m.k=6∧x=3)) (ha:cr m=true) (hsx:sx.size≤64) (hbx:dB w bx #[.string sx]) (hc1:dB w c1 #[(.func (.func 109) #[] #[.pointer (some ⟨bx,0,none⟩)])]) (hc2:dB w c2 #[.int .i64 x]) (hV:eg w vs m.l) (hH:dB w 0 (wF gF 8)) (hK:dB w 1 (wF gv 64)):Calls Tryz.prog 129 [.agg (a8 m vs),.pointer (some ⟨c1,0,none⟩),.pointer (some ⟨c2,0,none⟩)].toArray w (bT w (is (.tuple #[.int .i64 (db sx m),.agg (a8 (dW sx m) aM)]))):=by
 obtain ⟨hh1,hh2⟩:=tF (gN ha).1
 have hie:=(gN ha).1
 obtain ⟨q1,q2⟩:=ED (s:=sx) hk hie
 refine br Tryz.func129 rfl Tryz.ntmps129 rfl fun f h s=>qr (aR (a8 m vs) h s rfl rfl rfl fun f w1 b3 h s=>aq ac 1 h rfl fun f h=>aJ (a8 mZ aM) h s lF rfl rfl fun f w1 b5 h s=>nt (al ?_))
 refine d8 16 h (by kernel_rfl) (ay ac 2 h rfl fun f h=>av (ae (aO.of_own s 1 rfl) 33 (vE _ _)) h bJ rfl rfl fun f h=>Ga ac h rfl (fun t0 f h=>?_) (fun t0 f h=>?_))
 ·refine ay ac 8 h rfl fun f h=>av (V:=.int .i64 x) (ae (aO.of_tab (hc2.keep s.ext)) 0 (rfl)) h bJ rfl rfl fun f h=>aX h ue (fun w9 hE9=>lq false x w9) rfl rfl fun f h=>ax h (eH ms) rfl fun f h=>ay ac 1 h rfl fun f h=>cc s fun w1 s=>ao 0 h s ck rfl rfl rfl (aF _ _) (aF _ _) (cH _ _ rfl) fun w1 s=>nt (wpIn_ret ?_)
  exact g7 0 rfl h s ck rfl rfl rfl (aF _ _) (by rw [q1,q2,t0];rfl)
 ·refine ay ac 2 h rfl fun f h=>bn h rfl (av (ae (aO.of_own s 1 rfl) 69 (jX _ _)) h fa rfl rfl fun f h=>bn h rfl (av (V:=(.func (.func 109) #[] #[.pointer (some ⟨bx,0,none⟩)])) (ae (aO.of_tab (hc1.keep s.ext)) 0 (rfl)) h nq rfl rfl fun f h=>bn h rfl (aV 1 h s ck rfl rfl (aF _ _) rfl fun f h=>bn h rfl (jh [.agg (a8 m vs)] (caps:=[.pointer (some ⟨bx,0,none⟩)]) h yW rfl (fun w9 h9=>nB sx m vs bx w9 hsx (hbx.keep (s.ext.trans h9)) (hV.keep (s.ext.trans h9)) hh1 hh2 (hH.keep (s.ext.trans h9)) (hK.keep (s.ext.trans h9))) rfl rfl ?_))));intro f h
  refine bn h rfl (ax h (d7 (h.ev rfl) (h.ev rfl)) rfl fun f h=>ay ac 1 h rfl fun f h=>av (V:=.int .i64 x) (ae (aO.of_tab (hc2.keep s.ext)) 0 (rfl)) h bJ rfl rfl fun f h=>aX h ue (fun w9 hE9=>lq (decide (m.o=D8 sx m)) x w9) rfl rfl fun f h=>ax h (eH ms) rfl fun f h=>ay ac 1 h rfl fun f h=>cc s fun w1 s=>ao 0 h s ck rfl rfl rfl (aF _ _) (aF _ _) (cH _ _ rfl) fun w1 s=>nt (wpIn_ret ?_))
  exact g7 0 rfl h s ck rfl rfl rfl (aF _ _) (by rw [q1,q2,t0];rfl)
theorem Bh {w w1:World} {sx:ByteArray} {b1 b3:Nat} {vm va vb:Value} {t1 t3:TypeId} (s:St w [.grp [eS va 0,eS va 1] (vj 129 (.func (.func 109) #[] #[.pointer (some ⟨b1,0,none⟩)]) (.int .i64 2) va),.grp [eS vb 0,eS vb 1] (vj 129 (.func (.func 109) #[] #[.pointer (some ⟨b1,0,none⟩)]) (.int .i64 3) vb),nW true true true true vm (.func (.func 111) #[] #[.pointer (some ⟨b3,0,none⟩)]) va vb,.blk b3 (.cells #[(.func (.func 109) #[] #[.pointer (some ⟨b1,0,none⟩)])] t3),.blk b1 (.cells #[.string sx] t1)] w1):Kx Tryz.prog sx w (.map (some (lX vm))) w1:=by
 refine ⟨lX vm,_,gM true true true (.func (.func 111) #[] #[.pointer (some ⟨b3,0,none⟩)]) va vb,rfl,(St.group (A:=[.grp [eS va 0,eS va 1] (vj 129 (.func (.func 109) #[] #[.pointer (some ⟨b1,0,none⟩)]) (.int .i64 2) va),.grp [eS vb 0,eS vb 1] (vj 129 (.func (.func 109) #[] #[.pointer (some ⟨b1,0,none⟩)]) (.int .i64 3) vb),nW true true true true vm (.func (.func 111) #[] #[.pointer (some ⟨b3,0,none⟩)]) va vb,.blk b3 (.cells #[(.func (.func 109) #[] #[.pointer (some ⟨b1,0,none⟩)])] t3),.blk b1 (.cells #[.string sx] t1)]) (B:=[]) s).weak fun w9 h9=>?_⟩
 have hb1:dB w9 b1 #[.string sx]:=⟨t1,(0,0),h9 (.blk b1 (.cells #[.string sx] t1)) (by simp)⟩
 have hb3:dB w9 b3 #[(.func (.func 109) #[] #[.pointer (some ⟨b1,0,none⟩)])]:=⟨t3,(0,0),h9 (.blk b3 (.cells #[(.func (.func 109) #[] #[.pointer (some ⟨b1,0,none⟩)])] t3)) (by simp)⟩
 obtain ⟨a1,a2,hva,hA1,hA2⟩:=(h9 (.grp [eS va 0,eS va 1] (vj 129 (.func (.func 109) #[] #[.pointer (some ⟨b1,0,none⟩)]) (.int .i64 2) va)) (by simp)).2 w9 fun _ _=>rfl
 obtain ⟨d1,d2,hvb,hD1,hD2⟩:=(h9 (.grp [eS vb 0,eS vb 1] (vj 129 (.func (.func 109) #[] #[.pointer (some ⟨b1,0,none⟩)]) (.int .i64 3) vb)) (by simp)).2 w9 fun _ _=>rfl
 refine ⟨(h9 (nW true true true true vm (.func (.func 111) #[] #[.pointer (some ⟨b3,0,none⟩)]) va vb) (by simp)).2 w9 (fun _ _=>rfl) rfl,HJ,fun k hk=>?_⟩
 rcases vU.1 hk with rfl|rfl|rfl
 ·exact ⟨_,rfl,_,[.pointer (some ⟨b3,0,none⟩)],rfl,EV,fun m vs h1 h2 h3 h4 h5 h6=>yL sx m vs b1 b3 w9 h1 h2 h3 hb1 hb3 h4 h5 h6⟩
 ·exact ⟨_,rfl,_,[.pointer (some ⟨a1,0,none⟩),.pointer (some ⟨a2,0,none⟩)],hva,zT,fun m vs h1 h2 h3 h4 h5 h6=>qI sx m vs b1 a1 a2 2 w9 (.inl ⟨h1,rfl⟩) h2 h3 hb1 hA1 hA2 h4 h5 h6⟩
 ·exact ⟨_,rfl,_,[.pointer (some ⟨d1,0,none⟩),.pointer (some ⟨d2,0,none⟩)],hvb,zT,fun m vs h1 h2 h3 h4 h5 h6=>qI sx m vs b1 d1 d2 3 w9 (.inr ⟨h1,rfl⟩) h2 h3 hb1 hD1 hD2 h4 h5 h6⟩
theorem rr (sx:ByteArray) (w:World):Calls Tryz.prog 94 [.string sx].toArray w (bT w (Kx Tryz.prog sx w)):=by
 refine br Tryz.func94 rfl Tryz.ntmps94 rfl fun f h s=>qr (aR (#[.string sx]) h s rfl rfl rfl fun f w1 b1 h s=>e9 ac 1 h rfl fun f h=>qr (ag h (dl [.pointer (some ⟨b1,0,none⟩)] (kZ h rfl)) rfl fun f h=>aJ (#[.nilFunc]) h s Dn rfl rfl fun f w1 b3 h s=>bD 0 h s nq rfl rfl rfl (by simp) (rfl) fun w1 s=>nt (al ?_)))
 replace s:St w [nW false false false false undef (.func (.func 111) #[] #[.pointer (some ⟨b3,0,none⟩)]) undef undef,.blk b3 (.cells (#[(.func (.func 109) #[] #[.pointer (some ⟨b1,0,none⟩)])]) 167),.blk b1 (.cells (#[.string sx]) 9)] _:=s.grp0 (fun w9 h9=>by cases h9)
 refine EJ 0 [[],[],[0,1],[],[3],[0,3,4],[],[3,4,6],[0,3,4,6,7],[0,1,2,3,4,5,6,7,8],[0,1,2,3,4,5,6,7,8,9]] [[],[],[],[],[],[],[],[],[],[],[]] [] [] [.f (fun v=>v 0=.map (some (lX (v 0)))),.v (.func (.func 111) #[] #[.pointer (some ⟨b3,0,none⟩)]),.n,.v (.func (.func 109) #[] #[.pointer (some ⟨b1,0,none⟩)]),.m (fun v=>[.grp [eS (v 4) 0,eS (v 4) 1] (vj 129 (.func (.func 109) #[] #[.pointer (some ⟨b1,0,none⟩)]) (.int .i64 2) (v 4))]),.n,.v (.func (.func 109) #[] #[.pointer (some ⟨b1,0,none⟩)]),.m (fun v=>[.grp [eS (v 7) 0,eS (v 7) 1] (vj 129 (.func (.func 109) #[] #[.pointer (some ⟨b1,0,none⟩)]) (.int .i64 3) (v 7))]),.n,.f (fun v=>v 9=.map (some (lX (v 0)))),.f (fun v=>v 10=.map (some (lX (v 0))))] (fun l v=>[nW (l 0) (l 2) (l 5) (l 8) (v 0) (.func (.func 111) #[] #[.pointer (some ⟨b3,0,none⟩)]) (v 4) (v 7)]) _ h s rfl (by kernel_rfl) (by kernel_rfl) (by kernel_rfl) (by kernel_rfl) (cu ?_ (cu ?_ (cu ?_ (cu ?_ (cu ?_ (cu ?_ (cu ?_ (cu ?_ (cu ?_ (cu ?_ (cu ?_ (trivial)))))))))))) [0,1,2,3,4,5,6,7,8,9,10] (by kernel_rfl) ?_
 ·intro f9 w2 vl2 E9 lst9 hlo hlc hlz hs9 hd9 hl hF hR9 s
  have h:=bI [] (hs9.trans h.size) (hd9.trans h.defers) (holds_lk trivial)
  replace s:St w (nW (lst9 0) (lst9 2) (lst9 5) (lst9 8) (vl2 0) (.func (.func 111) #[] #[.pointer (some ⟨b3,0,none⟩)]) (vl2 4) (vl2 7)::.blk b3 (.cells (#[(.func (.func 109) #[] #[.pointer (some ⟨b1,0,none⟩)])]) 167)::.blk b1 (.cells (#[.string sx]) 9)::E9) _:=s
  rw [hlo] at s
  refine t8 h s rfl ?_;intro f w1 V9 hV9 h s
  have l2:=rB hlz 0 2 hlo rfl
  have l5:=rB hlz 0 5 hlo rfl
  have l8:=rB hlz 0 8 hlo rfl
  replace s:St w (nW true (lst9 2) (lst9 5) (lst9 8) V9 (.func (.func 111) #[] #[.pointer (some ⟨b3,0,none⟩)]) (vl2 4) (vl2 7)::.blk b3 (.cells #[(.func (.func 109) #[] #[.pointer (some ⟨b1,0,none⟩)])] 167)::.blk b1 (.cells #[.string sx] 9)::E9) w1:=by rw [l2,l5,l8];exact s
  exact aB ⟨_,bv 5 h rfl rfl,hV9,s⟩
 ·intro f9 w2 vl2 E9 lst9 hlo hlc hlz hs9 hd9 hl hF hR9 s
  have h:=cS [(3,_)] h hs9 hd9 ⟨fY hl 3 (by kernel_rfl) (h.holds 3 _ rfl),trivial⟩
  refine ag h (dl [.pointer (some ⟨b3,0,none⟩)] (kZ h rfl)) rfl fun f h=>aB ⟨_,bv 6 h rfl rfl,rfl,s⟩
 ·intro f9 w2 vl2 E9 lst9 hlo hlc hlz hs9 hd9 hl hF hR9 s
  have h:=cS [(5,.map (some (lX (vl2 0)))),(6,_)] h hs9 hd9 ⟨bu hl 5 0 (by kernel_rfl) (hF 0 (by decide)),bu hl 6 1 (by kernel_rfl) (hF 1 (by decide)),trivial⟩
  replace s:St w (nW (lst9 0) (lst9 2) (lst9 5) (lst9 8) (vl2 0) (.func (.func 111) #[] #[.pointer (some ⟨b3,0,none⟩)]) (vl2 4) (vl2 7)::.blk b3 (.cells (#[(.func (.func 109) #[] #[.pointer (some ⟨b1,0,none⟩)])]) 167)::.blk b1 (.cells (#[.string sx]) 9)::E9) _:=s
  have l0:=hlc 0 (by decide)
  rw [l0,hlo] at s
  refine lL (c2:=true) (c4:=(lst9 5)) (c6:=(lst9 8)) 2 h s Tryz.underlying147 Tryz.underlying3 rfl rfl rfl rfl (JC _ _ _ _ _) ?_;intro w1 s
  replace s:St w (nW (lst9 0) true (lst9 5) (lst9 8) (vl2 0) (.func (.func 111) #[] #[.pointer (some ⟨b3,0,none⟩)]) (vl2 4) (vl2 7)::.blk b3 (.cells #[(.func (.func 109) #[] #[.pointer (some ⟨b1,0,none⟩)])] 167)::.blk b1 (.cells #[.string sx] 9)::E9) w1:=by rw [l0];exact s
  exact aB ⟨undef,fk rfl,trivial,s⟩
 ·intro f9 w2 vl2 E9 lst9 hlo hlc hlz hs9 hd9 hl hF hR9 s
  have h:=cS [(3,_)] h hs9 hd9 ⟨fY hl 3 (by kernel_rfl) (h.holds 3 _ rfl),trivial⟩
  refine dX 1 h s nq rfl rfl (rfl) rfl fun f h=>aB ⟨_,bv 7 h rfl rfl,rfl,s⟩
 ·intro f9 w2 vl2 E9 lst9 hlo hlc hlz hs9 hd9 hl hF hR9 s
  have h:=cS [(7,_)] h hs9 hd9 ⟨bu hl 7 3 (by kernel_rfl) (hF 3 (by decide)),trivial⟩
  replace s:St w (nW (lst9 0) (lst9 2) (lst9 5) (lst9 8) (vl2 0) (.func (.func 111) #[] #[.pointer (some ⟨b3,0,none⟩)]) (vl2 4) (vl2 7)::.blk b3 (.cells (#[(.func (.func 109) #[] #[.pointer (some ⟨b1,0,none⟩)])]) 167)::.blk b1 (.cells (#[.string sx]) 9)::E9) _:=s
  refine bk h s zS (mi b1 2 _) rfl rfl ?_;intro f w1 V9 hG9 hE9 h sq;replace s:=s.add hG9;clear hG9
  have lb:=rB hlz 4 5 hlo rfl
  replace s:St w (.grp [eS V9 0,eS V9 1] (vj 129 (.func (.func 109) #[] #[.pointer (some ⟨b1,0,none⟩)]) (.int .i64 2) V9)::nW (lst9 0) (lst9 2) (lst9 5) (lst9 8) (vl2 0) (.func (.func 111) #[] #[.pointer (some ⟨b3,0,none⟩)]) V9 (vl2 7)::.blk b3 (.cells #[(.func (.func 109) #[] #[.pointer (some ⟨b1,0,none⟩)])] 167)::.blk b1 (.cells #[.string sx] 9)::E9) w1:=by rw [lb] at s ⊢;exact s
  exact aB ⟨_,bv 8 h rfl rfl,trivial,s⟩
 ·intro f9 w2 vl2 E9 lst9 hlo hlc hlz hs9 hd9 hl hF hR9 s
  have e5:f9.tmps.getD 5 undef=.map (some (lX (vl2 0))):=(cz hl 5 0 (by kernel_rfl) (by kernel_rfl)).trans (hF 0 (by decide))
  have e8:f9.tmps.getD 8 undef=(vl2 4):=cz hl 8 4 (by kernel_rfl) (by kernel_rfl)
  have h:=bI [(5,.map (some (lX (vl2 0)))),(8,(vl2 4))] (hs9.trans h.size) (hd9.trans h.defers) (holds_lk ⟨e5,e8,trivial⟩)
  replace s:St w (nW (lst9 0) (lst9 2) (lst9 5) (lst9 8) (vl2 0) (.func (.func 111) #[] #[.pointer (some ⟨b3,0,none⟩)]) (vl2 4) (vl2 7)::.blk b3 (.cells (#[(.func (.func 109) #[] #[.pointer (some ⟨b1,0,none⟩)])]) 167)::.blk b1 (.cells (#[.string sx]) 9)::E9) _:=s
  have l0:=hlc 0 (by decide)
  rw [l0,hlo] at s
  refine lL (c2:=(lst9 2)) (c4:=true) (c6:=(lst9 8)) 4 h s Tryz.underlying147 Tryz.underlying3 rfl rfl rfl rfl (Jo _ _ _ _ _) ?_;intro w1 s
  replace s:St w (nW (lst9 0) (lst9 2) true (lst9 8) (vl2 0) (.func (.func 111) #[] #[.pointer (some ⟨b3,0,none⟩)]) (vl2 4) (vl2 7)::.blk b3 (.cells #[(.func (.func 109) #[] #[.pointer (some ⟨b1,0,none⟩)])] 167)::.blk b1 (.cells #[.string sx] 9)::E9) w1:=by rw [l0];exact s
  exact aB ⟨undef,fk rfl,trivial,s⟩
 ·intro f9 w2 vl2 E9 lst9 hlo hlc hlz hs9 hd9 hl hF hR9 s
  have h:=cS [(3,_)] h hs9 hd9 ⟨fY hl 3 (by kernel_rfl) (h.holds 3 _ rfl),trivial⟩
  refine dX 1 h s nq rfl rfl (rfl) rfl fun f h=>aB ⟨_,bv 9 h rfl rfl,rfl,s⟩
 ·intro f9 w2 vl2 E9 lst9 hlo hlc hlz hs9 hd9 hl hF hR9 s
  have h:=cS [(9,_)] h hs9 hd9 ⟨bu hl 9 6 (by kernel_rfl) (hF 6 (by decide)),trivial⟩
  replace s:St w (nW (lst9 0) (lst9 2) (lst9 5) (lst9 8) (vl2 0) (.func (.func 111) #[] #[.pointer (some ⟨b3,0,none⟩)]) (vl2 4) (vl2 7)::.blk b3 (.cells (#[(.func (.func 109) #[] #[.pointer (some ⟨b1,0,none⟩)])]) 167)::.blk b1 (.cells (#[.string sx]) 9)::E9) _:=s
  refine bk h s zS (mi b1 3 _) rfl rfl ?_;intro f w1 V9 hG9 hE9 h sq;replace s:=s.add hG9;clear hG9
  have lb:=rB hlz 7 8 hlo rfl
  replace s:St w (.grp [eS V9 0,eS V9 1] (vj 129 (.func (.func 109) #[] #[.pointer (some ⟨b1,0,none⟩)]) (.int .i64 3) V9)::nW (lst9 0) (lst9 2) (lst9 5) (lst9 8) (vl2 0) (.func (.func 111) #[] #[.pointer (some ⟨b3,0,none⟩)]) (vl2 4) V9::.blk b3 (.cells #[(.func (.func 109) #[] #[.pointer (some ⟨b1,0,none⟩)])] 167)::.blk b1 (.cells #[.string sx] 9)::E9) w1:=by rw [lb] at s ⊢;exact s
  exact aB ⟨_,bv 10 h rfl rfl,trivial,s⟩
 ·intro f9 w2 vl2 E9 lst9 hlo hlc hlz hs9 hd9 hl hF hR9 s
  have e5:f9.tmps.getD 5 undef=.map (some (lX (vl2 0))):=(cz hl 5 0 (by kernel_rfl) (by kernel_rfl)).trans (hF 0 (by decide))
  have e10:f9.tmps.getD 10 undef=(vl2 7):=cz hl 10 7 (by kernel_rfl) (by kernel_rfl)
  have h:=bI [(5,.map (some (lX (vl2 0)))),(10,(vl2 7))] (hs9.trans h.size) (hd9.trans h.defers) (holds_lk ⟨e5,e10,trivial⟩)
  replace s:St w (nW (lst9 0) (lst9 2) (lst9 5) (lst9 8) (vl2 0) (.func (.func 111) #[] #[.pointer (some ⟨b3,0,none⟩)]) (vl2 4) (vl2 7)::.blk b3 (.cells (#[(.func (.func 109) #[] #[.pointer (some ⟨b1,0,none⟩)])]) 167)::.blk b1 (.cells (#[.string sx]) 9)::E9) _:=s
  have l0:=hlc 0 (by decide)
  rw [l0,hlo] at s
  refine lL (c2:=(lst9 2)) (c4:=(lst9 5)) (c6:=true) 6 h s Tryz.underlying147 Tryz.underlying3 rfl rfl rfl rfl (Jv _ _ _ _ _) ?_;intro w1 s
  replace s:St w (nW (lst9 0) (lst9 2) (lst9 5) true (vl2 0) (.func (.func 111) #[] #[.pointer (some ⟨b3,0,none⟩)]) (vl2 4) (vl2 7)::.blk b3 (.cells #[(.func (.func 109) #[] #[.pointer (some ⟨b1,0,none⟩)])] 167)::.blk b1 (.cells #[.string sx] 9)::E9) w1:=by rw [l0];exact s
  exact aB ⟨undef,fk rfl,trivial,s⟩
 ·intro f9 w2 vl2 E9 lst9 hlo hlc hlz hs9 hd9 hl hF hR9 s
  have h:=cS [(5,.map (some (lX (vl2 0))))] h hs9 hd9 ⟨bu hl 5 0 (by kernel_rfl) (hF 0 (by decide)),trivial⟩
  refine aq ac 1 h rfl fun f h=>aB ⟨_,bv 11 h rfl rfl,rfl,s⟩
 ·intro f9 w2 vl2 E9 lst9 hlo hlc hlz hs9 hd9 hl hF hR9 s
  have h:=cS [(11,.map (some (lX (vl2 0))))] h hs9 hd9 ⟨bu hl 11 9 (by kernel_rfl) (hF 9 (by decide)),trivial⟩
  refine aq ac 1 h rfl fun f h=>aB ⟨_,bv 2 h rfl rfl,rfl,s⟩
 intro f w1 vl2 hs9 hd9 hv hr hF s
 replace h:=j8 (ops:=_) [(5,.map (some (lX (vl2 0)))),(6,_),(7,_),(8,(vl2 4)),(9,_),(10,(vl2 7)),(11,.map (some (lX (vl2 0)))),(2,.map (some (lX (vl2 0))))] h hs9 hd9 hr ⟨(hv 0 5 rfl).trans (hF 0 rfl),(hv 1 6 rfl).trans (hF 1 rfl),(hv 3 7 rfl).trans (hF 3 rfl),hv 4 8 rfl,(hv 6 9 rfl).trans (hF 6 rfl),hv 7 10 rfl,(hv 9 11 rfl).trans (hF 9 rfl),(hv 10 2 rfl).trans (hF 10 rfl),trivial⟩ (by kernel_rfl)
 replace s:St w [.grp [eS (vl2 4) 0,eS (vl2 4) 1] (vj 129 (.func (.func 109) #[] #[.pointer (some ⟨b1,0,none⟩)]) (.int .i64 2) (vl2 4)),.grp [eS (vl2 7) 0,eS (vl2 7) 1] (vj 129 (.func (.func 109) #[] #[.pointer (some ⟨b1,0,none⟩)]) (.int .i64 3) (vl2 7)),nW true true true true (vl2 0) (.func (.func 111) #[] #[.pointer (some ⟨b3,0,none⟩)]) (vl2 4) (vl2 7),.blk b3 (.cells (#[(.func (.func 109) #[] #[.pointer (some ⟨b1,0,none⟩)])]) 167),.blk b1 (.cells (#[.string sx]) 9)] _:=s
 refine aH (wpIn_ret (aI rfl h s rfl (Bh s)))
theorem t4 (sx:ByteArray) (hsx:sx.size≤1000) (m:Mg) (vs:Value) (w:World) (hV:eg w vs m.l) (hml:m.l.length≤1000) (hH:dB w 0 (wF gF 8)) (hK:dB w 1 (wF gv 64)):Calls Tryz.prog 70 [.string sx,.agg (a8 m vs)].toArray w (bT w (Kt w vs m (Bi sx m) (Gl sx m) (wX sx m))):=by
 refine br Tryz.func70 rfl Tryz.ntmps70 rfl fun f h s=>qr (aR (a8 m vs) h s rfl rfl rfl fun f w1 b3 h s=>aq ac 1 h rfl fun f h=>aJ (a8 mZ aM) h s lF rfl rfl fun f w1 b5 h s=>e9 ac 1 h rfl fun f h=>al (sK (γ:=List Nat × (Int→Option Value)) 0 [[],[0],[],[2],[0,1,2,3],[0,1,2,3,4],[0,1,2,3,4,5],[0,1,2,3,4,5],[0,1,2,3,4,5,6],[0,1,2,3,4,5,6,7,8]] [[],[],[],[],[1],[],[],[],[],[]] [] [.v _,.r (fun v=>[.grp (v 1).2.1 (fun w9=>I1 Tryz.prog w9 (lX (v 1).1) (v 1).2.2 sx)]) (fun v=>(v 1).1=.map (some (lX (v 1).1))),.v _,.v (.int .i64 m.k),.r (fun v=>[.grp (v 4).2.1 (fun w9=>oy m.k=true→HA Tryz.prog w9 (kP (v 4).1) sx m.k)]) (fun v=>(v 4).1=.tuple #[kP (v 4).1,.bool (oy m.k)]),.f (fun v=>(v 5).1=.tuple #[kP (v 4).1,.bool (oy m.k)]),.f (fun v=>(v 6).1=kP (v 4).1),.v (.bool (oy m.k)),.f (fun v=>(v 8).1=kP (v 4).1),.v _] _ h s rfl (by kernel_rfl) (by kernel_rfl) (by kernel_rfl) (Dv ac h rfl rfl rfl (cu ?_ (Dv ac h rfl rfl rfl (cu ?_ (cu ?_ (cu ?_ (cu ?_ (cu ?_ (cu ?_ (Dv ac h rfl rfl rfl (trivial))))))))))) [0,2,3,4,5,6,7,8,9] (by kernel_rfl) ?_))
 ·intro f9 w2 vl1 E9 hs9 hd9 hl hF s
  have h:=cS [(12,_)] h hs9 hd9 ⟨bu hl 12 0 (by kernel_rfl) (hF 0 (by decide)),trivial⟩
  refine bk h s Hj (rr sx _) rfl rfl ?_;rintro f w1 v13 ⟨mb,kj,gj,hv13,hG⟩ hE h sq;subst hv13;replace s:=s.add hG;clear hG
  exact aB ⟨(_,(kj,gj)),bv 13 h rfl rfl,rfl,s⟩
 ·intro f9 w2 vl1 E9 hs9 hd9 hl hF s
  have h:=cS [(14,_)] h hs9 hd9 ⟨bu hl 14 2 (by kernel_rfl) (hF 2 (by decide)),trivial⟩
  refine ap (ae (aO.of_own s 1 rfl) 0 (lD _ _)) h bJ rfl rfl fun f h=>aB ⟨(_,default),bv 15 h rfl rfl,rfl,s⟩
 ·intro f9 w2 vl1 E9 hs9 hd9 hl hF s
  have h:=cS [(13,.map (some (lX (vl1 1).1))),(15,_)] h hs9 hd9 ⟨bu hl 13 1 (by kernel_rfl) (hF 1 (by decide)),bu hl 15 3 (by kernel_rfl) (hF 3 (by decide)),trivial⟩
  have hJ9:=s.getG 0 rfl
  refine Dt (Z:=.nilFunc) h hJ9.1 Tryz.underlying147 Tryz.underlying3 DD rfl rfl rfl ?_;intro f h
  rw [Be hJ9 m.k] at h
  replace s:=s.weak (S':=fun w9=>oy m.k=true→HA Tryz.prog w9 (((vl1 1).2.2 m.k).getD .nilFunc) sx m.k) (fun w9 h9 hJ=>EA h9 hJ)
  exact aB ⟨(_,((vl1 1).2.1,default)),bv 16 h rfl rfl,rfl,s⟩
 ·intro f9 w2 vl1 E9 hs9 hd9 hl hF s
  have h:=cS [(16,.tuple #[kP (vl1 4).1,.bool (oy m.k)])] h hs9 hd9 ⟨bu hl 16 4 (by kernel_rfl) (hF 4 (by decide)),trivial⟩
  refine aq ac 1 h rfl fun f h=>aB ⟨(_,default),bv 11 h rfl rfl,rfl,s⟩
 ·intro f9 w2 vl1 E9 hs9 hd9 hl hF s
  have h:=cS [(11,.tuple #[kP (vl1 4).1,.bool (oy m.k)])] h hs9 hd9 ⟨bu hl 11 5 (by kernel_rfl) (hF 5 (by decide)),trivial⟩
  refine aq ac 1 h rfl fun f h=>aB ⟨(_,default),bv 17 h rfl rfl,rfl,s⟩
 ·intro f9 w2 vl1 E9 hs9 hd9 hl hF s
  have h:=cS [(11,.tuple #[kP (vl1 4).1,.bool (oy m.k)])] h hs9 hd9 ⟨bu hl 11 5 (by kernel_rfl) (hF 5 (by decide)),trivial⟩
  refine aq ac 1 h rfl fun f h=>aB ⟨(_,default),bv 18 h rfl rfl,rfl,s⟩
 ·intro f9 w2 vl1 E9 hs9 hd9 hl hF s
  have h:=cS [(17,kP (vl1 4).1)] h hs9 hd9 ⟨bu hl 17 6 (by kernel_rfl) (hF 6 (by decide)),trivial⟩
  refine aq ac 1 h rfl fun f h=>aB ⟨(_,default),bv 7 h rfl rfl,rfl,s⟩
 intro f w1 vl1 hs9 hd9 hv hr hF s
 replace h:=j8 (ops:=_) [(12,_),(13,.map (some (lX (vl1 1).1))),(14,_),(15,_),(16,.tuple #[kP (vl1 4).1,.bool (oy m.k)]),(11,.tuple #[kP (vl1 4).1,.bool (oy m.k)]),(17,kP (vl1 4).1),(18,_),(7,kP (vl1 4).1),(8,_)] h hs9 hd9 hr ⟨(hv 0 12 rfl).trans (hF 0 rfl),(hv 1 13 rfl).trans (hF 1 rfl),(hv 2 14 rfl).trans (hF 2 rfl),(hv 3 15 rfl).trans (hF 3 rfl),(hv 4 16 rfl).trans (hF 4 rfl),(hv 5 11 rfl).trans (hF 5 rfl),(hv 6 17 rfl).trans (hF 6 rfl),(hv 7 18 rfl).trans (hF 7 rfl),(hv 8 7 rfl).trans (hF 8 rfl),(hv 9 8 rfl).trans (hF 9 rfl),trivial⟩ (by kernel_rfl)
 replace s:St w [.grp (vl1 4).2.1 (fun w9=>oy m.k=true→HA Tryz.prog w9 (kP (vl1 4).1) sx m.k),.blk b5 (.cells (a8 mZ aM) 31),.blk b3 (.cells (a8 m vs) 31)] _:=s
 refine aH (al (al ?_))
 refine az (da ac h rfl (fun j0 f h=>?_) (fun j0 f h=>?_))
 ·refine e9 ac 6 h rfl fun f h=>cv h rfl (qr (ag h (eH ms) rfl fun f h=>aq ac 1 h rfl fun f h=>ao 1 h s ck rfl rfl rfl (aF _ _) (aF _ _) (cH _ _ rfl) fun w1 s=>e9 ac 1 h rfl fun f h=>rt ?_))
  exact fp 1 rfl h s ck rfl rfl rfl (aF _ _) rfl (by obtain ⟨q1,q2,q3⟩:=DU (s:=sx) (m:=m) (by rw [jc,j0,Bool.and_false]);rw [q1,q2,q3];exact mK rfl s.ext)
 ·skip
  refine aq ac 2 h rfl fun f h=>ca h rfl (aj 2 h s ck rfl rfl (aF _ _) rfl fun f h=>ca h rfl (fJ h s oM (fc m vs _ (hV.keep s.ext) (by omega)) rfl rfl (fun r0 f w1 h s=>?_) (fun r0 f w1 h s=>?_)))
  ·refine e9 ac 2 h rfl fun f h=>cv h rfl (qr (ag h (eH ms) rfl fun f h=>aq ac 1 h rfl fun f h=>ao 1 h s ck rfl rfl rfl (aF _ _) (aF _ _) (cH _ _ rfl) fun w1 s=>e9 ac 1 h rfl fun f h=>rt ?_))
   exact fp 1 rfl h s ck rfl rfl rfl (aF _ _) rfl (by obtain ⟨q1,q2,q3⟩:=DU (s:=sx) (m:=m) (by rw [jc,r0,Bool.false_and]);rw [q1,q2,q3];exact mK rfl s.ext)
  ·refine e9 ac 2 h rfl fun f h=>jw h rfl (al (cd ac 1 h rfl fun f h=>ag h (cA Tryz.underlying9 (h.ev rfl)) rfl fun f h=>e9 ac 1 h rfl fun f h=>cq h rfl (fun hc=>?_) (fun hc=>?_)))
   ·have hs9:=of_decide_eq_true hc
    refine qr (ag h (eH ms) rfl fun f h=>aq ac 1 h rfl fun f h=>ao 1 h s ck rfl rfl rfl (aF _ _) (aF _ _) (cH _ _ rfl) fun w1 s=>e9 ac 1 h rfl fun f h=>rt ?_)
    exact fp 1 rfl h s ck rfl rfl rfl (aF _ _) rfl (by obtain ⟨q1,q2,q3⟩:=BZ (s:=sx) (m:=m) (by rw [jc,r0,j0];rfl) (by omega);rw [q1,q2,q3];exact mK rfl s.ext)
   ·have hs9:=of_decide_eq_false hc
    refine kt (cd ac 1 h rfl fun f h=>aj 2 h s ck rfl rfl (aF _ _) rfl fun f h=>?_)
    have ha:cr m=true:=by rw [jc,r0,j0];rfl
    obtain ⟨f5,c5,hv5,hf5,hC5⟩:=(s.getG 0 rfl) j0
    rw [hv5] at h
    refine ja [.agg (a8 m vs)] (caps:=c5) h s hf5 rfl (hC5 m vs rfl ha (by omega) (hV.keep s.ext) (hH.keep s.ext) (hK.keep s.ext)) rfl rfl ?_;intro f w1 v9 hT hE h s;obtain rfl:=hT
    refine aq ac 3 h rfl fun f h=>aJ (a8 mZ aM) h s lF rfl rfl fun f w1 b10 h s=>aq ac 1 h rfl fun f h=>ao 0 h s ck rfl rfl rfl (aF _ _) (aF _ _) (cH _ _ rfl) fun w1 s=>nt (al (d8 3 h (by kernel_rfl) (ay ac 1 h rfl fun f h=>aV 0 h s ck rfl rfl (aF _ _) rfl fun f h=>ay ac 1 h rfl fun f h=>cc s fun w1 s=>ao 2 h s ck rfl rfl rfl (aF _ _) (aF _ _) (cH _ _ rfl) fun w1 s=>e9 ac 1 h rfl fun f h=>wpIn_ret ?_)))
    exact fp 2 rfl h s ck rfl rfl rfl (aF _ _) rfl (by obtain ⟨q1,q2,q3⟩:=D7 (s:=sx) ha (by omega);rw [q1,q2,q3];exact mK (Fu _ _).1 s.ext)
theorem xu (m:Mg) (vs:Value) (now:Int) (w:World) (hV:eg w vs m.l) (hml:m.l.length≤1000):Calls Tryz.prog 95 [.agg (a8 m vs),.int .i64 now].toArray w (bT w (is (.tuple #[.agg (au (G8 m now)),.int .i64 (GQ m now)]))):=by
 refine br Tryz.func95 rfl Tryz.ntmps95 rfl fun f h s=>qr (aR (a8 m vs) h s rfl rfl rfl fun f w1 b2 h s=>aJ (au aN) h s dM rfl rfl fun f w1 b4 h s=>e9 ac 1 h rfl fun f h=>al ?_)
 refine rs ac 1 h rfl fun f h=>ap (ae (aO.of_own s 1 rfl) 0 (lD _ _)) h bJ rfl rfl fun f h=>da ac h rfl (fun k2 f h=>?_) (fun k2 f h=>?_)
 ·skip
  refine aq ac 2 h rfl fun f h=>ca h rfl (ap (ae (aO.of_own s 1 rfl) 0 (lD _ _)) h bJ rfl rfl fun f h=>ca h rfl (da ac h rfl (fun k4 f h=>?_) (fun k4 f h=>?_)))
  ·refine e9 ac 2 h rfl fun f h=>al (bG ac 15 h rfl fun f h=>cv h rfl (qr (ag h (dg mw) rfl fun f h=>ao 0 h s aT rfl rfl rfl (ai _) (ai _) (aY _) fun w1 s=>e9 ac 1 h rfl fun f h=>rt (cU 0 rfl h s aT rfl rfl (ai _) rfl (by obtain ⟨q1,q2⟩:=sH (m:=m) (now:=now) (Ij now k2 k4);rw [q1,q2];rfl)))))
  ·refine e9 ac 2 h rfl fun f h=>al (al ?_)
   refine rs ac 3 h rfl fun f h=>ca h rfl (aj 1 h s ck rfl rfl (aF _ _) rfl fun f h=>ca h rfl (fJ h s oM (fc m vs _ (hV.keep s.ext) (by omega)) rfl rfl (fun r0 f w1 h s=>?_) (fun r0 f w1 h s=>?_)))
   ·refine e9 ac 10 h rfl fun f h=>cv h rfl (qr (ag h (dg mw) rfl fun f h=>ao 0 h s aT rfl rfl rfl (ai _) (ai _) (aY _) fun w1 s=>e9 ac 1 h rfl fun f h=>rt (cU 0 rfl h s aT rfl rfl (ai _) rfl (by obtain ⟨q1,q2⟩:=sH (m:=m) (now:=now) (GJ now (by rw [jc,r0];rfl));rw [q1,q2];rfl))))
   ·skip
    refine aq ac 4 h rfl fun f h=>ca h rfl (da ac h rfl (fun n0 f h=>?_) (fun n0 f h=>?_))
    ·skip
     refine aq ac 3 h rfl fun f h=>ca h rfl (da ac h rfl (fun n1 f h=>?_) (fun n1 f h=>?_))
     ·refine e9 ac 1 h rfl fun f h=>jw h rfl (qr ?_)
      obtain ⟨y1,y2⟩:=pL (dD.2 ⟨r0,.inr (.inl (of_decide_eq_true k4))⟩) (decide_eq_false (by have:=of_decide_eq_true k4;omega))
      have y3:=of_decide_eq_false n0
      have y4:=of_decide_eq_false n1
      refine aq ac 1 h rfl fun f h=>aE (aO.subL (aO.of_own s 1 rfl) 1 32 (D:=aw (_)) (eM _ _)) h aP rfl (by first|exact am _|exact ah _ _) rfl fun f h=>aq ac 1 h rfl fun f h=>aE (aO.subL (aO.of_own s 1 rfl) 33 34 (D:=bc (_)) (dS _ _)) h cy rfl (aK _) rfl fun f h=>aq ac 2 h rfl fun f h=>ap (ae (aO.of_own s 1 rfl) 68 (eo _ _)) h bJ rfl rfl fun f h=>ag h (bh (h.ev rfl) (h.ev rfl) (by omega)) rfl fun f h=>ag h (bm (.int .i64 (min (now+m.n) 1099511627776)) (lu (h.ev rfl) (h.ev rfl)) (congrArg (Value.int .i64) (by omega))) rfl fun f h=>ag h (kT mw (h.ev rfl) (h.ev rfl) (h.ev rfl)) rfl fun f h=>ao 0 h s aT rfl rfl rfl (ai _) (ai _) (aY _) fun w1 s=>e9 ac 1 h rfl fun f h=>wpIn_ret (cU 0 rfl h s aT rfl rfl (ai _) rfl (by obtain ⟨q1,q2⟩:=Gi (m:=m) (now:=now) (Es (dD.2 ⟨r0,.inr (.inl (of_decide_eq_true k4))⟩) (decide_eq_false (by have:=of_decide_eq_true k4;omega)) n0 n1);rw [q1,q2];rfl))
     ·refine e9 ac 1 h rfl fun f h=>cv h rfl (qr (ag h (dg mw) rfl fun f h=>ao 0 h s aT rfl rfl rfl (ai _) (ai _) (aY _) fun w1 s=>e9 ac 1 h rfl fun f h=>rt (cU 0 rfl h s aT rfl rfl (ai _) rfl (by obtain ⟨q1,q2⟩:=sH (m:=m) (now:=now) (Iq n1);rw [q1,q2];rfl))))
    ·refine e9 ac 5 h rfl fun f h=>cv h rfl (qr (ag h (dg mw) rfl fun f h=>ao 0 h s aT rfl rfl rfl (ai _) (ai _) (aY _) fun w1 s=>e9 ac 1 h rfl fun f h=>rt (cU 0 rfl h s aT rfl rfl (ai _) rfl (by obtain ⟨q1,q2⟩:=sH (m:=m) (now:=now) (GK n0);rw [q1,q2];rfl))))
 ·refine e9 ac 6 h rfl fun f h=>al (al ?_)
  refine rs ac 3 h rfl fun f h=>ca h rfl (aj 1 h s ck rfl rfl (aF _ _) rfl fun f h=>ca h rfl (fJ h s oM (fc m vs _ (hV.keep s.ext) (by omega)) rfl rfl (fun r0 f w1 h s=>?_) (fun r0 f w1 h s=>?_)))
  ·refine e9 ac 10 h rfl fun f h=>cv h rfl (qr (ag h (dg mw) rfl fun f h=>ao 0 h s aT rfl rfl rfl (ai _) (ai _) (aY _) fun w1 s=>e9 ac 1 h rfl fun f h=>rt (cU 0 rfl h s aT rfl rfl (ai _) rfl (by obtain ⟨q1,q2⟩:=sH (m:=m) (now:=now) (GJ now (by rw [jc,r0];rfl));rw [q1,q2];rfl))))
  ·skip
   refine aq ac 4 h rfl fun f h=>ca h rfl (da ac h rfl (fun n0 f h=>?_) (fun n0 f h=>?_))
   ·skip
    refine aq ac 3 h rfl fun f h=>ca h rfl (da ac h rfl (fun n1 f h=>?_) (fun n1 f h=>?_))
    ·refine e9 ac 1 h rfl fun f h=>jw h rfl (qr ?_)
     obtain ⟨y1,y2⟩:=pL (dD.2 ⟨r0,.inl (of_decide_eq_true k2)⟩) (decide_eq_false (by have:=of_decide_eq_true k2;omega))
     have y3:=of_decide_eq_false n0
     have y4:=of_decide_eq_false n1
     refine aq ac 1 h rfl fun f h=>aE (aO.subL (aO.of_own s 1 rfl) 1 32 (D:=aw (_)) (eM _ _)) h aP rfl (by first|exact am _|exact ah _ _) rfl fun f h=>aq ac 1 h rfl fun f h=>aE (aO.subL (aO.of_own s 1 rfl) 33 34 (D:=bc (_)) (dS _ _)) h cy rfl (aK _) rfl fun f h=>aq ac 2 h rfl fun f h=>ap (ae (aO.of_own s 1 rfl) 68 (eo _ _)) h bJ rfl rfl fun f h=>ag h (bh (h.ev rfl) (h.ev rfl) (by omega)) rfl fun f h=>ag h (bm (.int .i64 (min (now+m.n) 1099511627776)) (lu (h.ev rfl) (h.ev rfl)) (congrArg (Value.int .i64) (by omega))) rfl fun f h=>ag h (kT mw (h.ev rfl) (h.ev rfl) (h.ev rfl)) rfl fun f h=>ao 0 h s aT rfl rfl rfl (ai _) (ai _) (aY _) fun w1 s=>e9 ac 1 h rfl fun f h=>wpIn_ret (cU 0 rfl h s aT rfl rfl (ai _) rfl (by obtain ⟨q1,q2⟩:=Gi (m:=m) (now:=now) (Es (dD.2 ⟨r0,.inl (of_decide_eq_true k2)⟩) (decide_eq_false (by have:=of_decide_eq_true k2;omega)) n0 n1);rw [q1,q2];rfl))
    ·refine e9 ac 1 h rfl fun f h=>cv h rfl (qr (ag h (dg mw) rfl fun f h=>ao 0 h s aT rfl rfl rfl (ai _) (ai _) (aY _) fun w1 s=>e9 ac 1 h rfl fun f h=>rt (cU 0 rfl h s aT rfl rfl (ai _) rfl (by obtain ⟨q1,q2⟩:=sH (m:=m) (now:=now) (Iq n1);rw [q1,q2];rfl))))
   ·refine e9 ac 5 h rfl fun f h=>cv h rfl (qr (ag h (dg mw) rfl fun f h=>ao 0 h s aT rfl rfl rfl (ai _) (ai _) (aY _) fun w1 s=>e9 ac 1 h rfl fun f h=>rt (cU 0 rfl h s aT rfl rfl (ai _) rfl (by obtain ⟨q1,q2⟩:=sH (m:=m) (now:=now) (GK n0);rw [q1,q2];rfl))))
end Go.Proofs.YtobfeflheaobiaaGreatDoor
