/- What ServerHands answers: for all arguments. -/
import Derived.Test.YtobfeflheaobiaaGreatDoorVs
import Derived.Test.YtobfeflheaobiaaGreatDoorXh
import Derived.Test.YtobfeflheaobiaaGreatDoorXl
set_option linter.unusedVariables false
set_option linter.unusedSimpArgs false
set_option linter.unusedSectionVars false
namespace Go.Proofs.YtobfeflheaobiaaGreatDoor
open Go.RowKit
set_option maxHeartbeats 6000000 in
theorem rY (s0:Sv) (vt:Value) (l:List Tg) (vh:Value) (a b:Id) (w:World) (hT0:cK w vt s0.tb) (hR:bK w vh 67 l.length (aA l)) (hH:dB w 0 (wF gF 8)) (hK:dB w 1 (wF gv 64)):Calls Tryz.prog 4 [.agg (aC s0.no s0.sec vt),vh,en a,en b].toArray w (bT w (is (.bool true))):=by
 have hT:cK w (dE vt (min s0.tb.length 34)) (dL s0).tb:=mN hT0
 have htl:=zt s0
 have hU:=gg hR (min l.length 34) (Nat.min_le_left _ _)
 have hul:(l.take (min l.length 34)).length≤34:=by rw [List.length_take];omega
 obtain ⟨la,lb⟩:=FZ (s:=(dL s0)) (by omega) (l.take (min l.length 34))
 obtain ⟨lc,ld,le,lf⟩:=Ff (s:=(dL s0)) (by omega) a b
 refine br Tryz.func4 rfl Tryz.ntmps4 rfl fun f h s=>qr (aR (aC s0.no s0.sec vt) h s rfl rfl rfl fun f w1 b4 h s=>aR (aw a) h s rfl rfl rfl fun f w1 b6 h s=>aR (aw b) h s rfl rfl rfl fun f w1 b7 h s=>e9 ac 1 h rfl fun f h=>al ?_)
 replace s:=s.bring 2 rfl
 replace s:St w [.blk b4 (.cells (aC s0.no s0.sec vt) 24),.blk b7 (.cells (aw b) 26),.blk b6 (.cells (aw a) 26)] _:=s
 refine lj 1 8 [[],[0],[],[],[3],[3,4],[2,3,4,5],[0,1],[0,1,2,3,4,5,6,7]] [[9],[],[],[],[],[],[],[0],[]] [[_]] [.w (fun v=>[.blk b4 (.cells (aC s0.no s0.sec vt) 24)]) (.agg (aC s0.no s0.sec vt)),.v (.agg (aC (dL s0).no (dL s0).sec (dE vt (min s0.tb.length 34)))),.v _,.v _,.v (.int .i64 (l.length:Int)),.v (.int .i64 (if (34:Int)<(l.length:Int) then 34 else (l.length:Int))),.v (dE vh (min l.length 34)),.m (fun v=>[.blk b4 (.cells (aC (dL s0).no (dL s0).sec (dE vt (min s0.tb.length 34))) 24)]),.n] _ h s rfl (by kernel_rfl) (by kernel_rfl) (by kernel_rfl) (cu ?_ (cu ?_ (ii ac h rfl rfl rfl (ii ac h rfl rfl rfl (cu ?_ (cu ?_ (cu ?_ (cu ?_ (trivial))))))))) [1,2,3,4,5,6,7] (by kernel_rfl) ?_
 ·intro f9 w2 vl1 E9 hs9 hd9 hl hF s
  have h:=cS [(4,_)] h hs9 hd9 ⟨fY hl 4 (by kernel_rfl) (h.holds 4 _ rfl),trivial⟩
  refine aj 0 h s a6 rfl rfl (ak _ _ _) rfl fun f h=>aB ⟨_,bv 18 h rfl rfl,rfl,s⟩
 ·intro f9 w2 vl1 E9 hs9 hd9 hl hF s
  have h:=cS [(18,_)] h hs9 hd9 ⟨bu hl 18 0 (by kernel_rfl) (hF 0 (by decide)),trivial⟩
  refine cn h s Ju (A3 s0 vt _ (hT0.keep s.ext)) rfl rfl fun f w1 h s=>aB ⟨_,bv 19 h rfl rfl,rfl,s⟩
 ·intro f9 w2 vl1 E9 hs9 hd9 hl hF s
  have h:=cS [(21,_)] h hs9 hd9 ⟨bu hl 21 3 (by kernel_rfl) (hF 3 (by decide)),trivial⟩
  refine eh h (hR.keep s.ext) Tryz.underlying22 rfl rfl fun f h=>aB ⟨_,bv 22 h rfl rfl,rfl,s⟩
 ·intro f9 w2 vl1 E9 hs9 hd9 hl hF s
  have h:=cS [(22,_)] h hs9 hd9 ⟨bu hl 22 4 (by kernel_rfl) (hF 4 (by decide)),trivial⟩
  refine ag h (lu (h.ev rfl) (h.ev rfl)) rfl fun f h=>aB ⟨_,bv 23 h rfl rfl,rfl,s⟩
 ·intro f9 w2 vl1 E9 hs9 hd9 hl hF s
  have h:=cS [(20,_),(23,_)] h hs9 hd9 ⟨bu hl 20 2 (by kernel_rfl) (hF 2 (by decide)),bu hl 23 5 (by kernel_rfl) (hF 5 (by decide)),trivial⟩
  refine ag h (eK (hR.keep s.ext) (min l.length 34) Tryz.underlying22 cZ (h.ev rfl) (h.ev rfl) (by split<;>omega) (by omega)) rfl fun f h=>aB ⟨_,bv 24 h rfl rfl,rfl,s⟩
 ·intro f9 w2 vl1 E9 hs9 hd9 hl hF s
  have h:=cS [(4,_),(19,_)] h hs9 hd9 ⟨fY hl 4 (by kernel_rfl) (h.holds 4 _ rfl),bu hl 19 1 (by kernel_rfl) (hF 1 (by decide)),trivial⟩
  refine ao 0 h s a6 rfl rfl rfl (ak _ _ _) (ak _ _ _) (a7 _ _ (bV (hT.keep s.ext))) fun w1 s=>aB ⟨undef,fk rfl,trivial,s⟩
 intro f w1 vl1 hs9 hd9 hv hr hF s
 replace hv:=fun i d h9=>hv i d (show Nat.blt i 8=true from h9)
 replace h:=lm 8 (ops:=_) [(18,_),(19,_),(20,_),(21,_),(22,_),(23,_),(24,_)] h hs9 hd9 hr ⟨(hv 0 18 rfl rfl).trans (hF 0 rfl),(hv 1 19 rfl rfl).trans (hF 1 rfl),(hv 2 20 rfl rfl).trans (hF 2 rfl),(hv 3 21 rfl rfl).trans (hF 3 rfl),(hv 4 22 rfl rfl).trans (hF 4 rfl),(hv 5 23 rfl rfl).trans (hF 5 rfl),(hv 6 24 rfl rfl).trans (hF 6 rfl),trivial⟩ (by kernel_rfl)
 refine e9 ac 1 h rfl fun f h=>qr (aj 0 h s a6 rfl rfl (ak _ _ _) rfl fun f h=>aq ac 1 h rfl fun f h=>bk h s Is (wO (dL s0) (dE vt (min s0.tb.length 34)) (l.take (min l.length 34)) (dE vh (min l.length 34)) _ (hT.keep s.ext) (by omega) (hU.keep s.ext) (by omega)) rfl rfl ?_);rintro f w1 v28 ⟨tha,kha,rfl,hG⟩ hE h sq;replace s:=s.add hG;clear hG
 refine aq ac 4 h rfl fun f h=>aJ (aC 0 ByteArray.empty aM) h s dZ rfl rfl fun f w1 b9 h s=>ao 0 h s a6 rfl rfl rfl (ak _ _ _) (ak _ _ _) (a7 _ _ (bV (((s.getG 1 rfl) (hT.keep s.ext) (hU.keep s.ext))))) fun w1 s=>e9 ac 2 h rfl fun f h=>qr (aj 2 h s a6 rfl rfl (ak _ _ _) rfl fun f h=>aj 4 h s aP rfl rfl (by first|exact am _|exact ah _ _) rfl fun f h=>aj 3 h s aP rfl rfl (by first|exact am _|exact ah _ _) rfl fun f h=>bk h s IJ (xR (dL s0) (dE vt (min s0.tb.length 34)) a b _ (hT.keep s.ext) (by omega)) rfl rfl ?_);rintro f w1 v36 ⟨pg,qg,kgi,rfl,hG⟩ hE h sq;replace s:=s.add hG;clear hG
 refine aq ac 4 h rfl fun f h=>aJ (aC 0 ByteArray.empty aM) h s dZ rfl rfl fun f w1 b12 h s=>ao 0 h s a6 rfl rfl rfl (ak _ _ _) (ak _ _ _) (a7 _ _ (bV (((s.getG 1 rfl) (hT.keep s.ext)).1))) fun w1 s=>e9 ac 2 h rfl fun f h=>al (qr (jQ true h s IF (tJ _ (hH.keep s.ext) (hK.keep s.ext)) (rfl) rfl rfl fun f w1 h s=>e9 ac 1 h rfl fun f h=>jw h rfl (al (al ?_))))
 cases r0:(bO (dL s0):Bool)
 ·refine az (aj 4 h s a6 rfl rfl (ak _ _ _) rfl fun f h=>jQ false h s Ed (mf (dL s0) (dE vt (min s0.tb.length 34)) _ (hT.keep s.ext) (by omega)) (r0) rfl rfl fun f w1 h s=>e9 ac 1 h rfl fun f h=>cv h rfl (qr ?_))
  obtain ⟨x1,x2,x3⟩:=Ib (l.take (min l.length 34)) r0
  obtain ⟨y1,y2,y3⟩:=HP a b r0
  refine aq ac 1 h rfl fun f h=>jK ac h rfl (by rw [x1];rfl) fun f h=>aq ac 2 h rfl fun f h=>ca h rfl (jK ac h rfl (by rw [y1];rfl) fun f h=>aq ac 3 h rfl fun f h=>ca h rfl (jK ac h rfl (by rw [x3];rfl) fun f h=>aq ac 3 h rfl fun f h=>ca h rfl (eh h (((s.getG 1 rfl) (hT.keep s.ext)).2) Tryz.underlying22 rfl rfl fun f h=>ca h rfl (jK ac h rfl (by rw [y3];rfl) fun f h=>aq ac 2 h rfl fun f h=>ca h rfl (aj 2 h s a6 rfl rfl (ak _ _ _) rfl fun f h=>ca h rfl (ag h (bC eG) rfl fun f h=>ca h rfl (jQ true h s qC (fR (uJ (dL s0) (l.take (min l.length 34))) u5 tha aM _ ((s.getG 3 rfl) (hT.keep s.ext) (hU.keep s.ext)) (cI _) la (by decide)) (by rw [x2];simp) rfl rfl fun f w1 h s=>aq ac 2 h rfl fun f h=>ca h rfl (aj 0 h s a6 rfl rfl (ak _ _ _) rfl fun f h=>ca h rfl (ag h (bC eG) rfl fun f h=>ca h rfl (jQ true h s qC (fR (yJ (dL s0) a b) u5 pg aM _ ((s.getG 1 rfl) (hT.keep s.ext)).1 (cI _) lc (by decide)) (by rw [y2];simp) rfl rfl fun f w1 h s=>e9 ac 2 h rfl fun f h=>rt (aI rfl h s rfl (rfl))))))))))))
 ·refine az (aj 4 h s a6 rfl rfl (ak _ _ _) rfl fun f h=>bk h s Ed (bj (.bool true) (mf (dL s0) (dE vt (min s0.tb.length 34)) _ (hT.keep s.ext) (by omega)) (congrArg Value.bool r0)) rfl rfl ?_);intro f w1 v9 hT hE h s;obtain rfl:=hT
  refine e9 ac 1 h rfl fun f h=>jw h rfl (qr (aj 4 h s a6 rfl rfl (ak _ _ _) rfl fun f h=>aJ (aC 0 ByteArray.empty aM) h s dZ rfl rfl fun f w1 b15 h s=>ao 0 h s a6 rfl rfl rfl (ak _ _ _) (ak _ _ _) (a7 _ _ (bV (hT.keep s.ext))) fun w1 s=>nt (cd ac 1 h rfl fun f h=>ap (V:=(dE vt (min s0.tb.length 34))) (ae (aO.of_own s 5 rfl) 2 (im _ _ _)) h di rfl rfl fun f h=>aj 7 h s aP rfl rfl (by first|exact am _|exact ah _ _) rfl fun f h=>aj 6 h s aP rfl rfl (by first|exact am _|exact ah _ _) rfl fun f h=>bk h s Eg (rx (dL s0).tb (dE vt (min s0.tb.length 34)) a b false _ (hT.keep s.ext) (by omega)) rfl rfl ?_)));intro f w1 v75 hOw hE h sq;change cb _ _ _ 67 _ (pY (dL s0).tb a b false).length (aA (pY (dL s0).tb a b false)) at hOw;replace s:=s.sl_new hE hOw;clear hOw
  refine aq ac 1 h rfl fun f h=>bD 1 h s di rfl rfl rfl (by rw [ak];omega) (gR (s.getSl 0 rfl)) fun w1 s=>?_
  replace s:=s.recell (D:=aC (dL s0).no (dL s0).sec v75) 1 rfl (rfl)
  refine nt (al (qr ?_))
  obtain ⟨y1,y2,y3⟩:=GN a b r0
  refine aq ac 1 h rfl fun f h=>my ac h rfl (by rw [y1];rfl) fun f h=>aq ac 1 h rfl fun f h=>ca h rfl (aj 2 h s a6 rfl rfl (ak _ _ _) rfl fun f h=>ca h rfl (aj 1 h s a6 rfl rfl (ak _ _ _) rfl fun f h=>ca h rfl (bk h s qC (bj (.bool true) (fR (yJ (dL s0) a b) (Sv.mk (dL s0).no (dL s0).sec (pY (dL s0).tb a b false)) pg v75 _ ((s.getG 3 rfl) (hT.keep s.ext)).1 (bK.of_own (s.getSl 0 rfl)) lc le) (congrArg Value.bool (by rw [y2];simp))) rfl rfl ?_)));intro f w1 v9 hT hE h s;obtain rfl:=hT
  refine aq ac 5 h rfl fun f h=>ca h rfl (ap (V:=(dE vt (min s0.tb.length 34))) (ae (aO.of_own s 6 rfl) 2 (im _ _ _)) h di rfl rfl fun f h=>ca h rfl (aj 8 h s aP rfl rfl (by first|exact am _|exact ah _ _) rfl fun f h=>ca h rfl (aj 7 h s aP rfl rfl (by first|exact am _|exact ah _ _) rfl fun f h=>ca h rfl (bk h s Eg (rx (dL s0).tb (dE vt (min s0.tb.length 34)) a b true _ (hT.keep s.ext) (by omega)) rfl rfl ?_))));intro f w1 v91 hOw hE h sq;change cb _ _ _ 67 _ (pY (dL s0).tb a b true).length (aA (pY (dL s0).tb a b true)) at hOw;replace s:=s.sl_new hE hOw;clear hOw
  refine ca h rfl (jQ true h s D1 (nu (DR (dL s0) a b) (pY (dL s0).tb a b true) qg v91 _ ((s.getG 4 rfl) (hT.keep s.ext)).2 (bK.of_own (s.getSl 0 rfl)) ld lf) (by rw [y3];simp) rfl rfl fun f w1 h s=>e9 ac 2 h rfl fun f h=>jw h rfl (al (al ?_)))
  refine rs ac 1 h rfl fun f h=>fJ h s DT (mc (l.take (min l.length 34)) (dE vh (min l.length 34)) _ (hU.keep s.ext) (by omega)) rfl rfl (fun t0 f w1 h s=>?_) (fun t0 f w1 h s=>?_)
  ·refine e9 ac 1 h rfl fun f h=>cv h rfl (qr ?_)
   obtain ⟨x1,x2,x3⟩:=GP r0 t0
   refine aq ac 1 h rfl fun f h=>jK ac h rfl (by rw [x1];rfl) fun f h=>aq ac 2 h rfl fun f h=>ca h rfl (jK ac h rfl (by rw [x3];rfl) fun f h=>aq ac 2 h rfl fun f h=>ca h rfl (aj 5 h s a6 rfl rfl (ak _ _ _) rfl fun f h=>ca h rfl (ag h (bC eG) rfl fun f h=>ca h rfl (jQ true h s qC (fR (uJ (dL s0) (l.take (min l.length 34))) u5 tha aM _ ((s.getG 6 rfl) (hT.keep s.ext) (hU.keep s.ext)) (cI _) la (by decide)) (by rw [x2];simp) rfl rfl fun f w1 h s=>e9 ac 2 h rfl fun f h=>rt (aI rfl h s rfl (rfl))))))
  ·refine e9 ac 1 h rfl fun f h=>jw h rfl (qr (aj 7 h s a6 rfl rfl (ak _ _ _) rfl fun f h=>aq ac 1 h rfl fun f h=>bk h s Hl (xF (dL s0) (dE vt (min s0.tb.length 34)) (l.take (min l.length 34)) (dE vh (min l.length 34)) _ (hT.keep s.ext) (by omega) (hU.keep s.ext) (by omega)) rfl rfl ?_));rintro f w1 v112 ⟨ph,khn,rfl,hG⟩ hE h sq;replace s:=s.add hG;clear hG
   refine aq ac 3 h rfl fun f h=>aJ (aC 0 ByteArray.empty aM) h s dZ rfl rfl fun f w1 b16 h s=>ao 0 h s a6 rfl rfl rfl (ak _ _ _) (ak _ _ _) (a7 _ _ (bV (((s.getG 1 rfl) (hT.keep s.ext))))) fun w1 s=>e9 ac 1 h rfl fun f h=>qr ?_
   obtain ⟨x1,x2,x3⟩:=HO r0 t0
   refine aq ac 1 h rfl fun f h=>jK ac h rfl (by rw [x1];rfl) fun f h=>aq ac 3 h rfl fun f h=>ca h rfl (jK ac h rfl (by rw [x3];simp) fun f h=>aq ac 2 h rfl fun f h=>ca h rfl (aj 7 h s a6 rfl rfl (ak _ _ _) rfl fun f h=>ca h rfl (aj 0 h s a6 rfl rfl (ak _ _ _) rfl fun f h=>ca h rfl (jQ true h s qC (fR (uJ (dL s0) (l.take (min l.length 34))) (Sv.mk (dL s0).no (dL s0).sec (jn (l.take (min l.length 34)) ((dL s0).tb,0)).1) tha ph _ ((s.getG 8 rfl) (hT.keep s.ext) (hU.keep s.ext)) ((s.getG 1 rfl) (hT.keep s.ext)) la lb) (by rw [x2];simp) rfl rfl fun f w1 h s=>e9 ac 2 h rfl fun f h=>wpIn_ret (aI rfl h s rfl (rfl))))))
end Go.Proofs.YtobfeflheaobiaaGreatDoor
