/- Package node and what it stands on, so far as it is wanted: what each function answers. -/
import Derived.Test.YthmlflaiidhoiaaGreatDoorZd
import Derived.Test.YthmlflaiidhoiaaGreatDoorZl
import Derived.Test.YthmlflaiidhoiaaGreatDoorZk
import Derived.Test.YthmlflaiidhoiaaGreatDoorZj
set_option linter.unusedVariables false
set_option linter.unusedSimpArgs false
set_option linter.unusedSectionVars false
namespace Go.Proofs.YthmlflaiidhoiaaGreatDoor
open Go.RowKit
theorem Gi (m:Mb) (z:Nd) (ws wf:Value) (w:World):Calls Tryz.prog 274 [.agg (ar m),.agg (aR z.me z.pr ws wf)].toArray w (bW w (is (.agg (ar (sy m z))))):=by
 refine bG Tryz.func274 rfl Tryz.ntmps274 rfl λf h s=>qr (ba ((ar m)) h s rfl rfl rfl λf w1 b2 h s=>ba (aR z.me z.pr ws wf) h s rfl rfl rfl λf w1 b3 h s=>aK (ar aS) h s cQ rfl rfl λf w1 b4 h s=>nt (cw ac 1 h rfl λf h=>ax (aX.subL (aX.of_own s 1 rfl) 33 33 (D:=ar z.pr) (fq _ _ _ _)) h aI rfl (ae _) rfl λf h=>aK (ar aS) h s cQ rfl rfl λf w1 b5 h s=>am 0 h s aI rfl rfl rfl (ae _) (ae _) (aP _) λw1 s=>nt (ag (ag ?_))))
 cases q0:(decide (z.pr=fj):Bool)
 ·skip
  refine cK 25 h (by kernel_rfl) (aH 0 h s aI rfl rfl (ae _) rfl λf h=>bR h ki (λw9 hE9=>gk w9) rfl rfl λf h=>aF h (bk (.bool false) (gj (Bb _ _) (by kernel_rfl) (by decide) (h.ev rfl) (h.ev rfl) (decide (z.pr=fj)) (mm _ _)) (aq3 Value.bool q0)) rfl λf h=>aD ac 2 h rfl λf h=>cj h rfl (bw (ah (aX.of_own s 0 rfl) 0 (bH _)) h bQ rfl rfl λf h=>aD ac 1 h rfl λf h=>cj h rfl (bw (ah (aX.of_own s 3 rfl) 0 (bH _)) h bQ rfl rfl λf h=>cj h rfl (UC ac h rfl (λq1 f h=>?_) (λq1 f h=>?_)))))
  ·skip
   cases q2:(decide (z.pr.2=m.2):Bool)
   ·skip
    cases q3:(decide (z.pr.2=z.me.2):Bool)
    ·refine aD ac 3 h rfl λf h=>cj h rfl (aU (aX.subL (aX.of_own s 0 rfl) 1 32 (D:=aJ (_)) (cz _)) h bO rfl (by first|exact az _|exact ay _ _) rfl λf h=>aD ac 1 h rfl λf h=>cj h rfl (aU (aX.subL (aX.of_own s 3 rfl) 1 32 (D:=aJ (_)) (cz _)) h bO rfl (by first|exact az _|exact ay _ _) rfl λf h=>cj h rfl (aF h (bk (.bool false) (dQ jr (h.ev rfl) (h.ev rfl)) (aq3 Value.bool q2)) rfl λf h=>aD ac 3 h rfl λf h=>cj h rfl (aU (aX.subL (aX.of_own s 0 rfl) 1 32 (D:=aJ (_)) (cz _)) h bO rfl (by first|exact az _|exact ay _ _) rfl λf h=>aD ac 2 h rfl λf h=>cj h rfl (aU (aX.subL (aX.of_own s 2 rfl) 1 32 (D:=aJ z.me.2) (i7 _ _ _ _)) h bO rfl (by first|exact az _|exact ay _ _) rfl λf h=>cj h rfl (aF h (bk (.bool false) (dQ jr (h.ev rfl) (h.ev rfl)) (aq3 Value.bool q3)) rfl λf h=>aD ac 1 h rfl λf h=>bF s λw1 s=>iA h rfl (ag (ag ?_))))))))
     refine rs ac 1 h rfl λf h=>ax (aX.subL (aX.of_own s 0 rfl) 1 32 (D:=aJ (_)) (cz _)) h bO rfl (by first|exact az _|exact ay _ _) rfl λf h=>ap ac 1 h rfl λf h=>ax (aX.subL (aX.of_own s 3 rfl) 1 32 (D:=aJ (_)) (cz _)) h bO rfl (by first|exact az _|exact ay _ _) rfl λf h=>ap ac 2 h rfl λf h=>ax (aX.subL (aX.of_own s 2 rfl) 1 32 (D:=aJ z.me.2) (i7 _ _ _ _)) h bO rfl (by first|exact az _|exact ay _ _) rfl λf h=>fx h s Bi (CQ _ _ _ _) rfl rfl (λq4 f w1 h s=>?_) (λq4 f w1 h s=>?_)
     ·refine e9 ac 1 h rfl λf h=>dF h rfl (cw ac 1 h rfl λf h=>ax (aX.subL (aX.of_own s 2 rfl) 0 33 (D:=ar z.me) (dx _ _ _ _)) h aI rfl (ae _) rfl λf h=>am 1 h s aI rfl rfl rfl (ae _) (ae _) (aP _) λw1 s=>nt (rt (g7 1 rfl h s aI rfl rfl (ae _) (by show _=_;rw [ag3 q4]))))
     ·refine e9 ac 1 h rfl λf h=>ry h rfl (qr (al 0 h s aI rfl rfl (ae _) rfl λf h=>am 1 h s aI rfl rfl rfl (ae _) (ae _) (aP _) λw1 s=>nt (au3 (g7 1 rfl h s aI rfl rfl (ae _) (by show _=_;rw [af5 q0 q1 q2 q3 q4])))))
    ·refine aD ac 3 h rfl λf h=>cj h rfl (aU (aX.subL (aX.of_own s 0 rfl) 1 32 (D:=aJ (_)) (cz _)) h bO rfl (by first|exact az _|exact ay _ _) rfl λf h=>aD ac 1 h rfl λf h=>cj h rfl (aU (aX.subL (aX.of_own s 3 rfl) 1 32 (D:=aJ (_)) (cz _)) h bO rfl (by first|exact az _|exact ay _ _) rfl λf h=>cj h rfl (aF h (bk (.bool false) (dQ jr (h.ev rfl) (h.ev rfl)) (aq3 Value.bool q2)) rfl λf h=>aD ac 3 h rfl λf h=>cj h rfl (aU (aX.subL (aX.of_own s 0 rfl) 1 32 (D:=aJ (_)) (cz _)) h bO rfl (by first|exact az _|exact ay _ _) rfl λf h=>aD ac 2 h rfl λf h=>cj h rfl (aU (aX.subL (aX.of_own s 2 rfl) 1 32 (D:=aJ z.me.2) (i7 _ _ _ _)) h bO rfl (by first|exact az _|exact ay _ _) rfl λf h=>cj h rfl (aF h (bk (.bool true) (dQ jr (h.ev rfl) (h.ev rfl)) (aq3 Value.bool q3)) rfl λf h=>aD ac 1 h rfl λf h=>bF s λw1 s=>iz h rfl (cw ac 1 h rfl λf h=>ax (aX.subL (aX.of_own s 2 rfl) 0 33 (D:=ar z.me) (dx _ _ _ _)) h aI rfl (ae _) rfl λf h=>am 1 h s aI rfl rfl rfl (ae _) (ae _) (aP _) λw1 s=>nt (rt (g7 1 rfl h s aI rfl rfl (ae _) (by show _=_;rw [ab1 q3]))))))))))
   ·refine aD ac 3 h rfl λf h=>cj h rfl (aU (aX.subL (aX.of_own s 0 rfl) 1 32 (D:=aJ (_)) (cz _)) h bO rfl (by first|exact az _|exact ay _ _) rfl λf h=>aD ac 1 h rfl λf h=>cj h rfl (aU (aX.subL (aX.of_own s 3 rfl) 1 32 (D:=aJ (_)) (cz _)) h bO rfl (by first|exact az _|exact ay _ _) rfl λf h=>cj h rfl (aF h (bk (.bool true) (dQ jr (h.ev rfl) (h.ev rfl)) (aq3 Value.bool q2)) rfl λf h=>aD ac 9 h rfl λf h=>bF s λw1 s=>iz h rfl (cw ac 1 h rfl λf h=>ax (aX.subL (aX.of_own s 2 rfl) 0 33 (D:=ar z.me) (dx _ _ _ _)) h aI rfl (ae _) rfl λf h=>am 1 h s aI rfl rfl rfl (ae _) (ae _) (aP _) λw1 s=>nt (rt (g7 1 rfl h s aI rfl rfl (ae _) (by show _=_;rw [af2 q2])))))))
  ·refine aD ac 16 h rfl λf h=>bF s λw1 s=>iz h rfl (cw ac 1 h rfl λf h=>ax (aX.subL (aX.of_own s 2 rfl) 0 33 (D:=ar z.me) (dx _ _ _ _)) h aI rfl (ae _) rfl λf h=>am 1 h s aI rfl rfl rfl (ae _) (ae _) (aP _) λw1 s=>nt (rt (g7 1 rfl h s aI rfl rfl (ae _) (by show _=_;rw [Wm q1]))))
 ·refine cK 25 h (by kernel_rfl) (aH 0 h s aI rfl rfl (ae _) rfl λf h=>bR h ki (λw9 hE9=>gk w9) rfl rfl λf h=>aF h (bk (.bool true) (gj (Bb _ _) (by kernel_rfl) (by decide) (h.ev rfl) (h.ev rfl) (decide (z.pr=fj)) (mm _ _)) (aq3 Value.bool q0)) rfl λf h=>aD ac 22 h rfl λf h=>bF s λw1 s=>iz h rfl (cw ac 1 h rfl λf h=>ax (aX.subL (aX.of_own s 2 rfl) 0 33 (D:=ar z.me) (dx _ _ _ _)) h aI rfl (ae _) rfl λf h=>am 1 h s aI rfl rfl rfl (ae _) (ae _) (aP _) λw1 s=>nt (rt (g7 1 rfl h s aI rfl rfl (ae _) (by show _=_;rw [Y6 q0])))))
set_option maxHeartbeats 1000000 in
theorem qz (n:Nd) (vs vf:Value) (z:Nd) (ws wf:Value) (w:World) (hRs:a7 w vs 33 n.sc.length (aj n.sc)) (hRf:a7 w vf 33 n.fg.length (aj n.fg)) (hns:n.sc.length<=900) (hnf:n.fg.length<=900) (hZs:a7 w ws 33 z.sc.length (aj z.sc)) (hZf:a7 w wf 33 z.fg.length (aj z.fg)) (hzs:z.sc.length<=900) (hzf:z.fg.length<=900):Calls Tryz.prog 221 [.agg (aR n.me n.pr vs vf),.agg (aR z.me z.pr ws wf)].toArray w (bW w (He w 60 (Vq n z) (Uk n z))):=by
 refine eh Tryz.func221 rfl Tryz.ntmps221 rfl [(0,.agg (aR n.me n.pr vs vf)),(1,.agg (aR z.me z.pr ws wf))] (by simp) λf h=>?_
 have s:=St.start w
 refine qr (ba (aR n.me n.pr vs vf) h s rfl rfl rfl λf w1 b2 h s=>ba (aR z.me z.pr ws wf) h s rfl rfl rfl λf w1 b3 h s=>aK (aR aS aS aq aq) h s pK rfl rfl λf w1 b4 h s=>e9 ac 1 h rfl λf h=>ag (ag ?_))
 refine aC (al 2 h s bI rfl rfl (ao _ _ _ _) rfl λf h=>fx h s sM (fY n vs vf _ (hRs.keep s.ext) (hRf.keep s.ext) (by omega) (by omega)) rfl rfl (λhr f w1 h s=>?_) (λhr f w1 h s=>?_))
 ·refine e9 ac 6 h rfl λf h=>dF h rfl (qr (ak h (gr JD) rfl λf h=>am 0 h s bI rfl rfl rfl (ao _ _ _ _) (ao _ _ _ _) (bL (rfl) (rfl)) λw1 s=>e9 ac 1 h rfl λf h=>rt ?_))
  exact jt 0 rfl h s bI rfl rfl rfl (ao _ _ _ _) (rW s (K3 hr).1 (K3 hr).2)
 ·skip
  refine ap ac 2 h rfl λf h=>cg h rfl (al 1 h s bI rfl rfl (ao _ _ _ _) rfl λf h=>cg h rfl (fx h s sM (fY z ws wf _ (hZs.keep s.ext) (hZf.keep s.ext) (by omega) (by omega)) rfl rfl (λhz f w1 h s=>?_) (λhz f w1 h s=>?_)))
  ·refine e9 ac 2 h rfl λf h=>dF h rfl (qr (ak h (gr JD) rfl λf h=>am 0 h s bI rfl rfl rfl (ao _ _ _ _) (ao _ _ _ _) (bL (rfl) (rfl)) λw1 s=>e9 ac 1 h rfl λf h=>rt ?_))
   exact jt 0 rfl h s bI rfl rfl rfl (ao _ _ _ _) (rW s (H1 hz).1 (H1 hz).2)
  ·refine e9 ac 2 h rfl λf h=>ry h rfl (ag ?_)
   have hrt:=hr
   refine jC 0 9 [[],[0],[],[0,1,2],[],[4],[0,1,2,3,4,5],[],[7],[0,1,2,3,4,5,6,7,8],[0,1,2,3,4,5,6,7,8,9]] [[],[],[],[],[],[],[],[],[],[],[]] [] [.v _,.v (.agg (ar n.me)),.v (.agg (aR z.me z.pr ws wf)),.v (.agg (ar (sy n.me z))),.v _,.v (.agg (ar z.me)),.m (λv=>[.sl (v 6) 60 33 2 (aj [sy n.me z,z.me])]),.v _,.v ws,.n,.n] _ h s rfl (by kernel_rfl) (by kernel_rfl) (by kernel_rfl) (iG ac h rfl rfl rfl (cq ?_ (cq ?_ (cq ?_ (iG ac h rfl rfl rfl (cq ?_ (cq ?_ (iG ac h rfl rfl rfl (cq ?_ (trivial)))))))))) [0,1,2,3,4,5,6,7,8] (by kernel_rfl) ?_
   ·intro f9 w2 vl3 E9 hs9 hd9 hl hF s
    have h:=cJ [(18,_)] h hs9 hd9 ⟨bp hl 18 0 (by kernel_rfl) (hF 0 (by decide)),trivial⟩
    refine ax (aX.subL (aX.of_own s 2 rfl) 0 33 (D:=ar n.me) (dx _ _ _ _)) h aI rfl (ae _) rfl λf h=>aE ⟨_,bq 19 h rfl rfl,rfl,s⟩
   ·intro f9 w2 vl3 E9 hs9 hd9 hl hF s
    have h:=cJ [(3,_)] h hs9 hd9 ⟨gp hl 3 (by kernel_rfl) (h.holds 3 _ rfl),trivial⟩
    refine al 1 h s bI rfl rfl (ao _ _ _ _) rfl λf h=>aE ⟨_,bq 20 h rfl rfl,rfl,s⟩
   ·intro f9 w2 vl3 E9 hs9 hd9 hl hF s
    have h:=cJ [(19,_),(20,_)] h hs9 hd9 ⟨bp hl 19 1 (by kernel_rfl) (hF 1 (by decide)),bp hl 20 2 (by kernel_rfl) (hF 2 (by decide)),trivial⟩
    refine fP h s Vt (Gi n.me z ws wf _) rfl rfl λf w1 h s=>aE ⟨_,bq 21 h rfl rfl,rfl,s⟩
   ·intro f9 w2 vl3 E9 hs9 hd9 hl hF s
    have h:=cJ [(22,_)] h hs9 hd9 ⟨bp hl 22 4 (by kernel_rfl) (hF 4 (by decide)),trivial⟩
    refine ax (aX.subL (aX.of_own s 1 rfl) 0 33 (D:=ar z.me) (dx _ _ _ _)) h aI rfl (ae _) rfl λf h=>aE ⟨_,bq 23 h rfl rfl,rfl,s⟩
   ·intro f9 w2 vl3 E9 hs9 hd9 hl hF s
    have h:=cJ [(21,_),(23,_)] h hs9 hd9 ⟨bp hl 21 3 (by kernel_rfl) (hF 3 (by decide)),bp hl 23 5 (by kernel_rfl) (hF 5 (by decide)),trivial⟩
    refine ef (vs:=[.agg (ar (sy n.me z)),.agg (ar z.me)]) [.tmp 21,.tmp 23] h s aA6 im rfl rfl (by intro v hv9;simp only [ar6,ar9,or_false] at hv9;rcases hv9 with rfl|rfl<;>exact ae _) rfl rfl rfl λf w1 v24 h s=>?_
    replace s:=s.resl (m:=2) (ys:=aj [sy n.me z,z.me]) 0 rfl rfl (by simp [aj,ar,Value.cells])
    exact aE ⟨_,bq 24 h rfl rfl,trivial,s⟩
   ·intro f9 w2 vl3 E9 hs9 hd9 hl hF s
    have h:=cJ [(25,_)] h hs9 hd9 ⟨bp hl 25 7 (by kernel_rfl) (hF 7 (by decide)),trivial⟩
    refine ai (V:=ws) (ah (aX.of_own s 1 rfl) 66 (iQ _ _ _ _)) h ci rfl rfl λf h=>aE ⟨_,bq 26 h rfl rfl,rfl,s⟩
   intro f w1 vl3 hs9 hd9 hv hr hF s
   replace hv:=λi d h9=>hv i d (show Nat.blt i 9=true from h9)
   replace h:=jx 9 (ops:=_) [(18,_),(19,_),(20,_),(21,_),(22,_),(23,_),(24,(vl3 6)),(25,_),(26,_)] h hs9 hd9 hr ⟨(hv 0 18 rfl rfl).trans (hF 0 rfl),(hv 1 19 rfl rfl).trans (hF 1 rfl),(hv 2 20 rfl rfl).trans (hF 2 rfl),(hv 3 21 rfl rfl).trans (hF 3 rfl),(hv 4 22 rfl rfl).trans (hF 4 rfl),(hv 5 23 rfl rfl).trans (hF 5 rfl),hv 6 24 rfl rfl,(hv 7 25 rfl rfl).trans (hF 7 rfl),(hv 8 26 rfl rfl).trans (hF 8 rfl),trivial⟩ (by kernel_rfl)
   replace s:St w [.sl (vl3 6) 60 33 2 (aj [sy n.me z,z.me]),.blk b4 (.cells (aR aS aS aq aq) 63),.blk b3 (.cells (aR z.me z.pr ws wf) 63),.blk b2 (.cells (aR n.me n.pr vs vf) 63)] _:=s
   refine lc 0 (hZs.keep s.ext) h s aA6 im rfl rfl rfl (kp _) (by unfold maxLen;omega) (by omega) rfl λf w1 v27 h s=>?_
   replace s:=s.resl (m:=(fK n z).length) (ys:=aj (fK n z)) 0 rfl (by show 2+z.sc.length=z.sc.length+1+1;omega) (fu _ _).symm
   refine e9 ac 1 h rfl λf h=>qr (aK (#[.slice none 0 0]) h s xi rfl rfl λf w1 b7 h s=>nt (ag (qr ?_)))
   replace s:=s.nilSl 60 33
   refine ap ac 2 h rfl λf h=>ai (ah (aX.of_own s 5 rfl) 0 (lG _ _ _ _)) h bQ rfl rfl λf h=>ap ac 1 h rfl λf h=>df [.int .i64 n.me.1,v27] h Vc (Iq n.me.1 (fK n z) v27 _ _ _ s (a7.of_own (s.getSl 2 rfl))) rfl rfl ?_;rintro f w1 r ⟨bs,bn,rfl,s⟩ h
   replace s:=s.sel [0,1,4,2,3,5,6,7] rfl (by decide)
   refine nt (au4 (eg (λd A9=>∃ v8:Value,A9=[.sl v8 60 33 (jv ((dH n.me.1 (fK n z)).take d)).length (aj (jv ((dH n.me.1 (fK n z)).take d))),.blk b7 (.cells #[v8] 61),.blk b4 (.cells (aR aS aS aq aq) 63),.blk b3 (.cells (aR z.me z.pr ws wf) 63),.blk b2 (.cells (aR n.me n.pr vs vf) 63)]) [.sl (Value.slice none 0 0) 60 33 0 [],.blk b7 (.cells #[(Value.slice none 0 0)] 61),.blk b4 (.cells (aR aS aS aq aq) 63),.blk b3 (.cells (aR z.me z.pr ws wf) 63),.blk b2 (.cells (aR n.me n.pr vs vf) 63)] [.blk bs (.cells #[v27] 61),.blk bn (.cells #[.int .i64 n.me.1] 3),.sl v27 60 33 (fK n z).length (aj (fK n z))] ((dH n.me.1 (fK n z)).length) (λ_=>false) (λd=>[Value.agg (ar ((dH n.me.1 (fK n z)).getD d aS))]) h s rfl UD (List.Perm.refl _) (⟨_,rfl⟩) (λ_=>rfl) ?_ ?_ ?_ ?_))
   ·intro lp w2 GG g0 hg0 s2 hY;exact Fv n.me.1 (fK n z) (by show z.sc.length+1+1<=1000;omega) v27 lp bs bn (λ_=>false) GG g0 w w2 s2 hg0 hY
   ·intro lp D9 d9 rc R9 A9 w2 hd9 hq9 hJ9 s
    obtain ⟨v8,rfl⟩:=hJ9
    have h:=Sl.round1 (p:=33) (V:=.agg (ar ((dH n.me.1 (fK n z)).getD d9 aS))) h rfl
    refine aC (aK (ar aS) h s cQ rfl rfl λf w1 b8 h s=>am 0 h s aI rfl rfl rfl (ae _) (ae _) (aP _) λw1 s=>nt (⟨_,s.perm (ax2 (l₁:=[_])),λw3 s=>?_⟩))
    refine au4 (ag ?_)
    cases g0:(decide ((jv ((dH n.me.1 (fK n z)).take d9)).length<4):Bool)
    ·refine aC (bT 4 h s ci rfl rfl (rfl) rfl λf h=>eF 3 h s aA6 rfl rfl rfl λf h=>jd ac h rfl (aq1 (by have:=aq0 g0;omega)) λf h=>e9 ac 7 h rfl λf h=>mx h rfl (wpIn_skip (aW ?_)))
     replace s:=s.resl (m:=(jv ((dH n.me.1 (fK n z)).take (d9+1))).length) (ys:=aj (jv ((dH n.me.1 (fK n z)).take (d9+1)))) 3 rfl (by rw [mh hd9,BI (aq0 g0)]) (by rw [mh hd9,BI (aq0 g0)])
     refine ⟨rfl,_,⟨v8,rfl⟩,s.pick _ ?_⟩
     exact ap7 _ (ap8 _ (List.Sublist.refl _))
    ·skip
     refine aC (bT 4 h s ci rfl rfl (rfl) rfl λf h=>eF 3 h s aA6 rfl rfl rfl λf h=>jy ac h rfl (aq2 (by have:=ap9 g0;omega)) λf h=>ap ac 1 h rfl λf h=>cg h rfl (bT 4 h s ci rfl rfl (rfl) rfl λf h=>ap ac 1 h rfl λf h=>cg h rfl (ai (ah (aX.of_own s 1 rfl) 0 (bH _)) h bQ rfl rfl λf h=>cg h rfl (fx h s LS (uX (jv ((dH n.me.1 (fK n z)).take d9)) v8 ((dH n.me.1 (fK n z)).getD d9 aS).1 _ (a7.of_own (s.getSl 3 rfl)) (by have:=DH ((dH n.me.1 (fK n z)).take d9);omega)) rfl rfl (λg1 f w1 h s=>?_) (λg1 f w1 h s=>?_)))))
     ·refine e9 ac 2 h rfl λf h=>dF h rfl (aC (bT 4 h s ci rfl rfl (rfl) rfl λf h=>al 1 h s aI rfl rfl (ae _) rfl λf h=>ef (vs:=[.agg (ar ((dH n.me.1 (fK n z)).getD d9 aS))]) [.tmp 45] h s aA6 im rfl rfl (vy _) rfl rfl rfl λf w1 v46 h s=>jS 4 0 h s aA6 im rfl rfl rfl rfl (by decide) (by rw [lF];exact aP _) (by have:=DH ((dH n.me.1 (fK n z)).take d9);unfold maxLen;omega) (by have:=DH ((dH n.me.1 (fK n z)).take d9);omega) rfl λf w1 v47 h s=>?_))
      replace s:=s.pick _ (as2 _ _)
      refine aB 4 h s ci rfl rfl rfl (by simp) (aZ (s.getSl 3 rfl)) λw1 s=>aE (aW ?_)
      replace s:=s.resl (m:=(jv ((dH n.me.1 (fK n z)).take (d9+1))).length) (ys:=aj (jv ((dH n.me.1 (fK n z)).take (d9+1)))) 3 rfl (by rw [mh hd9,Rm (ap9 g0) g1,aq7];rfl) (by rw [mh hd9,Rm (ap9 g0) g1,lF,yq])
      refine ⟨rfl,_,⟨v47,rfl⟩,s.pick _ ?_⟩
      exact ap7 _ (ap8 _ (List.Sublist.refl _))
     ·refine e9 ac 2 h rfl λf h=>mx h rfl (wpIn_skip (aW ?_))
      replace s:=s.resl (m:=(jv ((dH n.me.1 (fK n z)).take (d9+1))).length) (ys:=aj (jv ((dH n.me.1 (fK n z)).take (d9+1)))) 3 rfl (by rw [mh hd9,Hb g1]) (by rw [mh hd9,Hb g1])
      refine ⟨rfl,_,⟨v8,rfl⟩,s.pick _ ?_⟩
      exact ap7 _ (ap8 _ (List.Sublist.refl _))
   ·intro D9 A9 w2 hJ9 hq9 s
    obtain ⟨v8,rfl⟩:=hJ9
    replace h:Sl _ {f with defers:={target:=.collected D9,args:=#[]}::f.defers} _ [{target:=.collected D9,args:=#[]}]:=⟨h.size,by rw [h.defers],h.holds⟩
    rw [List.take_length] at s
    refine aW (aG (qr (al 8 h s bI rfl rfl (ao _ _ _ _) rfl λf h=>bg h s Bx (nj n vs vf _ (hRs.keep s.ext) (hRf.keep s.ext) (by omega) (by omega)) rfl rfl ?_)));rintro f w1 v49 ⟨us,uf,rfl,hS⟩ hE h sq;replace s:=s.add hS
    refine am 10 h s bI rfl rfl rfl (ao _ _ _ _) (ao _ _ _ _) (bL (aZ (s.getSl 0 rfl)) (aZ (s.getSl 1 rfl))) λw1 s=>nt (qr (bT 7 h s ci rfl rfl (rfl) rfl λf h=>ap ac 1 h rfl λf h=>ax (aX.subL (aX.of_own s 10 rfl) 0 33 (D:=ar n.me) (dx _ _ _ _)) h aI rfl (ae _) rfl λf h=>?_))
    replace s:=(s.sel [6,0,1,2,3,4,5,7,8,9,10] rfl (by decide))
    refine df [v8,.agg (ar n.me)] h JW (qG (jv (dH n.me.1 (fK n z))) v8 n.me _ _ _ s) rfl rfl ?_;rintro f w1 v53 s h
    refine ap ac 1 h rfl λf h=>aB 10 h s ci rfl rfl rfl (by rw [ao];omega) (aZ (s.getSl 0 rfl)) λw1 s=>?_
    replace s:=s.recell (D:=aR n.me n.pr v53 uf) 10 rfl (pq _ _ _ _ _)
    refine nt (qr (al 10 h s bI rfl rfl (ao _ _ _ _) rfl λf h=>am 8 h s bI rfl rfl rfl (ao _ _ _ _) (ao _ _ _ _) (bL (aZ (s.getSl 0 rfl)) (aZ (s.getSl 2 rfl))) λw1 s=>e9 ac 1 h rfl λf h=>au3 ?_))
    exact oF 8 3 rfl h s bI rfl rfl rfl rfl (ao _ _ _ _) (λw9 s9=>lA (DO hrt hz).1 (DO hrt hz).2 (s9.sel [0,2] rfl (by decide)))
   ·intro D9 d9 A9 w2 hd9 hqd9 hq9 hJ9 s
    cases hqd9
theorem tG (n:Nd) (vs vf:Value) (x:Mb) (w:World) (hRs:a7 w vs 33 n.sc.length (aj n.sc)) (hRf:a7 w vf 33 n.fg.length (aj n.fg)) (hns:n.sc.length<=1000) (hnf:n.fg.length<=1000):Calls Tryz.prog 222 [.agg (aR n.me n.pr vs vf),.agg (ar x)].toArray w (bW w (He w 60 (VN n x) (Vb n x))):=by
 refine bG Tryz.func222 rfl Tryz.ntmps222 rfl λf h s=>qr (ba (aR n.me n.pr vs vf) h s rfl rfl rfl λf w1 b2 h s=>ba ((ar x)) h s rfl rfl rfl λf w1 b3 h s=>aK (aR aS aS aq aq) h s pK rfl rfl λf w1 b4 h s=>e9 ac 1 h rfl λf h=>ag (ag ?_))
 refine aC (al 2 h s bI rfl rfl (ao _ _ _ _) rfl λf h=>fx h s sM (fY n vs vf _ (hRs.keep s.ext) (hRf.keep s.ext) hns hnf) rfl rfl (λhr f w1 h s=>?_) (λhr f w1 h s=>?_))
 ·refine e9 ac 6 h rfl λf h=>dF h rfl (qr (ak h (gr JD) rfl λf h=>am 0 h s bI rfl rfl rfl (ao _ _ _ _) (ao _ _ _ _) (bL (rfl) (rfl)) λw1 s=>e9 ac 1 h rfl λf h=>rt (cc 0 rfl h s bI rfl rfl (ao _ _ _ _) rfl (rW s (LJ hr).1 (LJ hr).2))))
 ·skip
  refine ap ac 2 h rfl λf h=>cg h rfl (al 1 h s aI rfl rfl (ae _) rfl λf h=>cg h rfl (fx h s pW (jT x _) rfl rfl (λhx f w1 h s=>?_) (λhx f w1 h s=>?_)))
  ·refine e9 ac 2 h rfl λf h=>dF h rfl (qr (ak h (gr JD) rfl λf h=>am 0 h s bI rfl rfl rfl (ao _ _ _ _) (ao _ _ _ _) (bL (rfl) (rfl)) λw1 s=>e9 ac 1 h rfl λf h=>rt (cc 0 rfl h s bI rfl rfl (ao _ _ _ _) rfl (rW s (Lk hx).1 (Lk hx).2))))
  ·refine e9 ac 2 h rfl λf h=>ry h rfl (qr (al 2 h s bI rfl rfl (ao _ _ _ _) rfl λf h=>bg h s Bx (nj n vs vf _ (hRs.keep s.ext) (hRf.keep s.ext) hns hnf) rfl rfl ?_));rintro f w1 v17 ⟨us,uf,rfl,hS⟩ hE h sq;replace s:=s.add hS
   refine am 4 h s bI rfl rfl rfl (ao _ _ _ _) (ao _ _ _ _) (bL (aZ (s.getSl 0 rfl)) (aZ (s.getSl 1 rfl))) λw1 s=>nt (ag ?_)
   refine rs ac 1 h rfl λf h=>ai (ah (aX.of_own s 3 rfl) 0 (bH _)) h bQ rfl rfl λf h=>ap ac 2 h rfl λf h=>ai (ah (aX.of_own s 4 rfl) 0 (lG _ _ _ _)) h bQ rfl rfl λf h=>kJ ac h rfl (λg0 f h=>?_) (λg0 f h=>?_)
   ·refine e9 ac 9 h rfl λf h=>ag (ag (cK 18 h (by kernel_rfl) (aD ac 18 h rfl λf h=>bF s λw1 s=>iA h rfl (qr (al 4 h s bI rfl rfl (ao _ _ _ _) rfl λf h=>am 2 h s bI rfl rfl rfl (ao _ _ _ _) (ao _ _ _ _) (bL (aZ (s.getSl 0 rfl)) (aZ (s.getSl 1 rfl))) λw1 s=>e9 ac 1 h rfl λf h=>au3 (cc 2 rfl h s bI rfl rfl (ao _ _ _ _) rfl (lA ((kD hr hx).1.trans (by rw [KL g0])) (kD hr hx).2 (s.pick _ (ap7 _ (ap7 _ (ap8 _ (ap8 _ (ap8 _ (as0 _))))))))))))))
   ·skip
    cases g1:(decide (x.2≠n.me.2):Bool)
    ·refine ap ac 2 h rfl λf h=>cg h rfl (ax (aX.subL (aX.of_own s 3 rfl) 1 32 (D:=aJ (_)) (cz _)) h bO rfl (by first|exact az _|exact ay _ _) rfl λf h=>ap ac 2 h rfl λf h=>cg h rfl (ax (aX.subL (aX.of_own s 4 rfl) 1 32 (D:=aJ n.me.2) (i7 _ _ _ _)) h bO rfl (by first|exact az _|exact ay _ _) rfl λf h=>cg h rfl (ak h (bk (.bool false) (l6 jr (h.ev rfl) (h.ev rfl)) (aq3 Value.bool g1)) rfl λf h=>e9 ac 2 h rfl λf h=>ag (ag (cK 18 h (by kernel_rfl) (aD ac 18 h rfl λf h=>bF s λw1 s=>iA h rfl (qr (al 4 h s bI rfl rfl (ao _ _ _ _) rfl λf h=>am 2 h s bI rfl rfl rfl (ao _ _ _ _) (ao _ _ _ _) (bL (aZ (s.getSl 0 rfl)) (aZ (s.getSl 1 rfl))) λw1 s=>e9 ac 1 h rfl λf h=>au3 (cc 2 rfl h s bI rfl rfl (ao _ _ _ _) rfl (lA ((kD hr hx).1.trans (by rw [XL g1])) (kD hr hx).2 (s.pick _ (ap7 _ (ap7 _ (ap8 _ (ap8 _ (ap8 _ (as0 _)))))))))))))))))
    ·refine ap ac 2 h rfl λf h=>cg h rfl (ax (aX.subL (aX.of_own s 3 rfl) 1 32 (D:=aJ (_)) (cz _)) h bO rfl (by first|exact az _|exact ay _ _) rfl λf h=>ap ac 2 h rfl λf h=>cg h rfl (ax (aX.subL (aX.of_own s 4 rfl) 1 32 (D:=aJ n.me.2) (i7 _ _ _ _)) h bO rfl (by first|exact az _|exact ay _ _) rfl λf h=>cg h rfl (ak h (bk (.bool true) (l6 jr (h.ev rfl) (h.ev rfl)) (aq3 Value.bool g1)) rfl λf h=>e9 ac 2 h rfl λf h=>ag (ag ?_))))
     cases q0:(decide (n.pr=fj):Bool)
     ·skip
      cases q1:(xq x.2 n.pr.2 n.me.2:Bool)
      ·refine cK 18 h (by kernel_rfl) (aD ac 3 h rfl λf h=>cj h rfl (aU (aX.subL (aX.of_own s 4 rfl) 33 33 (D:=ar n.pr) (fq _ _ _ _)) h aI rfl (ae _) rfl λf h=>cj h rfl (bR h ki (λw9 hE9=>gk w9) rfl rfl λf h=>cj h rfl (aF h (bk (.bool false) (gj (Bb _ _) (by kernel_rfl) (by decide) (h.ev rfl) (h.ev rfl) (decide (n.pr=fj)) (mm _ _)) (aq3 Value.bool q0)) rfl λf h=>aD ac 2 h rfl λf h=>cj h rfl (aU (aX.subL (aX.of_own s 3 rfl) 1 32 (D:=aJ (_)) (cz _)) h bO rfl (by first|exact az _|exact ay _ _) rfl λf h=>aD ac 2 h rfl λf h=>cj h rfl (aU (aX.subL (aX.of_own s 4 rfl) 34 32 (D:=aJ n.pr.2) (vL _ _ _ _)) h bO rfl (by first|exact az _|exact ay _ _) rfl λf h=>aD ac 2 h rfl λf h=>cj h rfl (aU (aX.subL (aX.of_own s 4 rfl) 1 32 (D:=aJ n.me.2) (i7 _ _ _ _)) h bO rfl (by first|exact az _|exact ay _ _) rfl λf h=>cj h rfl (bR h Bi (λw9 hE9=>bK (.bool false) (CQ _ _ _ w9) (aq3 Value.bool q1)) rfl rfl λf h=>aD ac 2 h rfl λf h=>bF s λw1 s=>iA h rfl (qr (al 4 h s bI rfl rfl (ao _ _ _ _) rfl λf h=>am 2 h s bI rfl rfl rfl (ao _ _ _ _) (ao _ _ _ _) (bL (aZ (s.getSl 0 rfl)) (aZ (s.getSl 1 rfl))) λw1 s=>e9 ac 1 h rfl λf h=>au3 (cc 2 rfl h s bI rfl rfl (ao _ _ _ _) rfl (lA ((kD hr hx).1.trans (by rw [WY q0 q1])) (kD hr hx).2 (s.pick _ (ap7 _ (ap7 _ (ap8 _ (ap8 _ (ap8 _ (as0 _)))))))))))))))))))
      ·refine cK 18 h (by kernel_rfl) (aD ac 3 h rfl λf h=>cj h rfl (aU (aX.subL (aX.of_own s 4 rfl) 33 33 (D:=ar n.pr) (fq _ _ _ _)) h aI rfl (ae _) rfl λf h=>cj h rfl (bR h ki (λw9 hE9=>gk w9) rfl rfl λf h=>cj h rfl (aF h (bk (.bool false) (gj (Bb _ _) (by kernel_rfl) (by decide) (h.ev rfl) (h.ev rfl) (decide (n.pr=fj)) (mm _ _)) (aq3 Value.bool q0)) rfl λf h=>aD ac 2 h rfl λf h=>cj h rfl (aU (aX.subL (aX.of_own s 3 rfl) 1 32 (D:=aJ (_)) (cz _)) h bO rfl (by first|exact az _|exact ay _ _) rfl λf h=>aD ac 2 h rfl λf h=>cj h rfl (aU (aX.subL (aX.of_own s 4 rfl) 34 32 (D:=aJ n.pr.2) (vL _ _ _ _)) h bO rfl (by first|exact az _|exact ay _ _) rfl λf h=>aD ac 2 h rfl λf h=>cj h rfl (aU (aX.subL (aX.of_own s 4 rfl) 1 32 (D:=aJ n.me.2) (i7 _ _ _ _)) h bO rfl (by first|exact az _|exact ay _ _) rfl λf h=>cj h rfl (bR h Bi (λw9 hE9=>bK (.bool true) (CQ _ _ _ w9) (aq3 Value.bool q1)) rfl rfl λf h=>aD ac 2 h rfl λf h=>bF s λw1 s=>iz h rfl (aC (al 3 h s aI rfl rfl (ae _) rfl λf h=>ap ac 1 h rfl λf h=>ga 4 h s aI rfl rfl rfl (ae _) (by rw [ao];omega) (aP _) λw1 s=>?_))))))))))
       replace s:=s.recell (D:=aR n.me x us uf) 4 rfl (rh _ _ _ _ _)
       refine nt (qr (al 4 h s bI rfl rfl (ao _ _ _ _) rfl λf h=>am 2 h s bI rfl rfl rfl (ao _ _ _ _) (ao _ _ _ _) (bL (aZ (s.getSl 0 rfl)) (aZ (s.getSl 1 rfl))) λw1 s=>e9 ac 1 h rfl λf h=>au3 (cc 2 rfl h s bI rfl rfl (ao _ _ _ _) rfl (lA ((kD hr hx).1.trans (by rw [WR g0 g1 q0 q1])) (kD hr hx).2 (s.pick _ (ap7 _ (ap7 _ (ap8 _ (ap8 _ (ap8 _ (as0 _)))))))))))
     ·refine cK 18 h (by kernel_rfl) (aD ac 3 h rfl λf h=>cj h rfl (aU (aX.subL (aX.of_own s 4 rfl) 33 33 (D:=ar n.pr) (fq _ _ _ _)) h aI rfl (ae _) rfl λf h=>cj h rfl (bR h ki (λw9 hE9=>gk w9) rfl rfl λf h=>cj h rfl (aF h (bk (.bool true) (gj (Bb _ _) (by kernel_rfl) (by decide) (h.ev rfl) (h.ev rfl) (decide (n.pr=fj)) (mm _ _)) (aq3 Value.bool q0)) rfl λf h=>aD ac 12 h rfl λf h=>bF s λw1 s=>iz h rfl (aC (al 3 h s aI rfl rfl (ae _) rfl λf h=>ap ac 1 h rfl λf h=>ga 4 h s aI rfl rfl rfl (ae _) (by rw [ao];omega) (aP _) λw1 s=>?_))))))
      replace s:=s.recell (D:=aR n.me x us uf) 4 rfl (rh _ _ _ _ _)
      refine nt (qr (al 4 h s bI rfl rfl (ao _ _ _ _) rfl λf h=>am 2 h s bI rfl rfl rfl (ao _ _ _ _) (ao _ _ _ _) (bL (aZ (s.getSl 0 rfl)) (aZ (s.getSl 1 rfl))) λw1 s=>e9 ac 1 h rfl λf h=>au3 (cc 2 rfl h s bI rfl rfl (ao _ _ _ _) rfl (lA ((kD hr hx).1.trans (by rw [XK g0 g1 q0])) (kD hr hx).2 (s.pick _ (ap7 _ (ap7 _ (ap8 _ (ap8 _ (ap8 _ (as0 _)))))))))))
end Go.Proofs.YthmlflaiidhoiaaGreatDoor
