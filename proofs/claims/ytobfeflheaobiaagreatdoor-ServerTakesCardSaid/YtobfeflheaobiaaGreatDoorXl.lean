/- What is cut; a host is asked. -/
import Derived.Test.YtobfeflheaobiaaGreatDoorXs
set_option linter.unusedVariables false
set_option linter.unusedSimpArgs false
set_option linter.unusedSectionVars false
namespace Go.Proofs.YtobfeflheaobiaaGreatDoor
open Go.RowKit
theorem CK (sv:Sv) (vt:Value) (w:World) (hT0:dW w vt sv.tb):Calls Tryz.prog 5 [.agg (aQ sv.no sv.sec vt)].toArray w (cp w (is (.agg (aQ (dd sv).no (dd sv).sec (dQ vt (min sv.tb.length 34)))))):=by
 refine bF Tryz.func5 rfl Tryz.ntmps5 rfl fun f h s=>qr (aZ (aQ sv.no sv.sec vt) h s rfl rfl rfl fun f w1 b1 h s=>aK (aQ 0 ByteArray.empty aI) h s ip rfl rfl fun f w1 b2 h s=>nt (al (eo 17 h (by kernel_rfl) (az ab 1 h rfl fun f h=>ay (V:=.int .i64 sv.no) (ac (aG.of_own s 1 rfl) 0 (sN _ _ _)) h bo rfl rfl fun f h=>az ab 1 h rfl fun f h=>ay (V:=.string sv.sec) (ac (aG.of_own s 1 rfl) 1 (rz _ _ _)) h dG rfl rfl fun f h=>az ab 1 h rfl fun f h=>ay (V:=.string sv.sec) (ac (aG.of_own s 1 rfl) 1 (rz _ _ _)) h dG rfl rfl fun f h=>au h (ct Tryz.underlying9 (h.ev rfl)) rfl fun f h=>au h (lU (h.ev rfl) (h.ev rfl)) rfl fun f h=>au h (kJ (min sv.sec.size 70) Tryz.underlying9 (h.ev rfl) (h.ev rfl) (by split<;>omega) (by omega)) rfl fun f h=>az ab 1 h rfl fun f h=>ay (V:=vt) (ac (aG.of_own s 1 rfl) 2 (lZ _ _ _)) h eO rfl rfl fun f h=>az ab 1 h rfl fun f h=>ay (V:=vt) (ac (aG.of_own s 1 rfl) 2 (lZ _ _ _)) h eO rfl rfl fun f h=>au h (jf (hT0.keep s.ext) Tryz.underlying22 (h.ev rfl)) rfl fun f h=>au h (lU (h.ev rfl) (h.ev rfl)) rfl fun f h=>au h (gv (hT0.keep s.ext) (min sv.tb.length 34) Tryz.underlying22 dZ (h.ev rfl) (h.ev rfl) (by split<;>omega) (by omega)) rfl fun f h=>au h (tD ji (gx (pA (hT0.keep s.ext))) (eR (pA (hT0.keep s.ext))) (h.ev rfl) (h.ev rfl) (h.ev rfl)) rfl fun f h=>cj s fun w1 s=>aj 0 h s bp rfl rfl rfl (ap _ _ _) (ap _ _ _) (bP _ _ (bs (pA (hT0.keep s.ext)))) fun w1 s=>nt (wpIn_ret (cR 0 rfl h s bp rfl rfl (ap _ _ _) (rfl)))))))
set_option maxHeartbeats 2000000 in
theorem BX (m:Mg) (vs:Value) (w:World) (hv:bI w vs 34 m.l.length (br m.l)):Calls Tryz.prog 6 [.agg (aP m vs)].toArray w (cp w (is (.agg (aP (cH m) (dQ vs (min m.l.length 6)))))):=by
 refine bF Tryz.func6 rfl Tryz.ntmps6 rfl fun f h s=>qr (aZ (aP m vs) h s rfl rfl rfl fun f w1 b1 h s=>aK (aP mZ aI) h s kQ rfl rfl fun f w1 b2 h s=>nt (al ?_))
 have hbs:=s.ext.le
 refine' Jq 18 [0,2,7,9,11,12,13,14,16,18,19,20,21,23,25] [8,10,15,17] [] [[],[0],[],[2],[2,3],[2,3,4],[0,1,2,3,4,5],[],[7],[],[9],[9,10],[9,10,11],[7,8,9,10,11,12],[],[14],[],[16],[16,17],[16,17,18],[14,15,16,17,18,19],[0,1,2,3,4,5,6,7,8,9,10,14,15,16,17],[0,1,2,3,4,5,6,7,8,9,10,14,15,16,17,21],[0,1,2,3,4,5,6,7,8,9,10,11,12,13,14,15,16,17,21,22],[0,1,2,3,4,5,6,7,8,9,10,11,12,13,14,15,16,17,21,22,23],[0,1,2,3,4,5,6,7,8,9,10,11,12,13,14,15,16,17,18,19,20,21,22,23,24],[0,1,2,3,4,5,6,7,8,9,10,11,12,13,14,15,16,17,18,19,20,21,22,23,24,25]] (is _::is _::is _::is _::is _::is _::is _::is _::(is (.string m.o))::is _::(is (.string m.o))::is _::is _::is _::is _::(is (.string m.d))::is _::(is (.string m.d))::is _::is _::is _::is _::is undef::is _::is undef::is _::is undef::[]) (fun _=>True) h s (by kernel_rfl) (by kernel_rfl) (by kernel_rfl) (by kernel_rfl) rfl (fun _ _ h _=>h) (trivial) ⟨⟨_,rfl⟩,⟨_,rfl⟩,⟨_,rfl⟩,⟨_,rfl⟩,⟨_,rfl⟩,⟨_,rfl⟩,⟨_,rfl⟩,⟨_,rfl⟩,⟨_,rfl⟩,⟨_,rfl⟩,⟨_,rfl⟩,⟨_,rfl⟩,⟨_,rfl⟩,⟨_,rfl⟩,⟨_,rfl⟩,trivial⟩ ⟨⟨_,rfl⟩,⟨_,rfl⟩,⟨_,rfl⟩,⟨_,rfl⟩,trivial⟩ ⟨aR _,aR _,aR _,aR _,aR _,aR _,aR _,aR _,aR _,aR _,aR _,aR _,aR _,aR _,aR _,aR _,aR _,aR _,aR _,aR _,aR _,aR _,aR _,aR _,aR _,aR _,aR _,trivial⟩ (And.intro ?_ (And.intro ?_ (And.intro ?_ (And.intro ?_ (And.intro ?_ (And.intro ?_ (And.intro ?_ (And.intro ?_ (And.intro ?_ (And.intro ?_ (And.intro ?_ (And.intro ?_ (And.intro ?_ (And.intro ?_ (And.intro ?_ (And.intro ?_ (And.intro ?_ (And.intro ?_ (And.intro ?_ (And.intro ?_ (And.intro ?_ (And.intro ?_ (And.intro ?_ (And.intro ?_ (And.intro ?_ (And.intro ?_ (And.intro ?_ (trivial)))))))))))))))))))))))))))) ?_
 rotate_left 20
 ·refine ca 3 rfl (by decide) ?_
  intro f9 w2 hE hs hl
  have e1:f9.tmps.getD 1 undef=_:=du hl 1 (by kernel_rfl) (by kernel_rfl) (h.holds 1 _ rfl)
  have h:=aD [(1,_)] hs rfl (holds_lk ⟨e1,trivial⟩)
  refine am ab 1 h rfl fun f h=>av ?_
  have e9:=h.holds 3 _ rfl
  refine ⟨?_,rfl⟩
  refine e9.trans ?_
  exact rfl
 ·refine cM 4 rfl (by decide) (by decide) ?_
  intro f9 w2 hE hs hd9 hl
  have e3:f9.tmps.getD 3 undef=_:=bC hl 3 0 (by kernel_rfl) (by kernel_rfl)
  have h:=aD [(3,_)] hs hd9 (holds_lk ⟨e3,trivial⟩)
  have s:=s.more hE
  have z:=St.start w2
  refine ag (ac (aG.of_own s 1 rfl) 67 (dq _ _)) h cG rfl rfl fun f h=>av ?_
  have e9:=h.holds 4 _ rfl
  refine ⟨?_,Ext.refl _,fun h9=>absurd h9 (by decide)⟩
  refine e9.trans ?_
  exact rfl
 ·refine ca 5 rfl (by decide) ?_
  intro f9 w2 hE hs hl
  have e1:f9.tmps.getD 1 undef=_:=du hl 1 (by kernel_rfl) (by kernel_rfl) (h.holds 1 _ rfl)
  have h:=aD [(1,_)] hs rfl (holds_lk ⟨e1,trivial⟩)
  refine am ab 1 h rfl fun f h=>av ?_
  have e9:=h.holds 5 _ rfl
  refine ⟨?_,rfl⟩
  refine e9.trans ?_
  exact rfl
 ·refine cM 6 rfl (by decide) (by decide) ?_
  intro f9 w2 hE hs hd9 hl
  have e5:f9.tmps.getD 5 undef=_:=bC hl 5 2 (by kernel_rfl) (by kernel_rfl)
  have h:=aD [(5,_)] hs hd9 (holds_lk ⟨e5,trivial⟩)
  have s:=s.more hE
  have z:=St.start w2
  refine ag (ac (aG.of_own s 1 rfl) 67 (dq _ _)) h cG rfl rfl fun f h=>av ?_
  have e9:=h.holds 6 _ rfl
  refine ⟨?_,Ext.refl _,fun h9=>absurd h9 (by decide)⟩
  refine e9.trans ?_
  exact rfl
 ·refine cM 7 rfl (by decide) (by decide) ?_
  intro f9 w2 hE hs hd9 hl
  have e6:f9.tmps.getD 6 undef=_:=bC hl 6 3 (by kernel_rfl) (by kernel_rfl)
  have h:=aD [(6,_)] hs hd9 (holds_lk ⟨e6,trivial⟩)
  have s:=s.more hE
  have z:=St.start w2
  refine dN h (hv.keep s.ext) Tryz.underlying29 rfl rfl fun f h=>av ?_
  have e9:=h.holds 7 _ rfl
  refine ⟨?_,Ext.refl _,fun h9=>absurd h9 (by decide)⟩
  refine e9.trans ?_
  exact rfl
 ·refine cM 8 rfl (by decide) (by decide) ?_
  intro f9 w2 hE hs hd9 hl
  have e7:f9.tmps.getD 7 undef=_:=bC hl 7 4 (by kernel_rfl) (by kernel_rfl)
  have h:=aD [(7,_)] hs hd9 (holds_lk ⟨e7,trivial⟩)
  have s:=s.more hE
  have z:=St.start w2
  refine ae h (lU (h.ev rfl) (h.ev rfl)) rfl fun f h=>av ?_
  have e9:=h.holds 8 _ rfl
  refine ⟨?_,Ext.refl _,fun h9=>absurd h9 (by decide)⟩
  refine e9.trans ?_
  exact rfl
 ·refine cM 9 rfl (by decide) (by decide) ?_
  intro f9 w2 hE hs hd9 hl
  have e4:f9.tmps.getD 4 undef=_:=bC hl 4 1 (by kernel_rfl) (by kernel_rfl)
  have e8:f9.tmps.getD 8 undef=_:=bC hl 8 5 (by kernel_rfl) (by kernel_rfl)
  have h:=aD [(4,_),(8,_)] hs hd9 (holds_lk ⟨e4,e8,trivial⟩)
  have s:=s.more hE
  have z:=St.start w2
  refine ae h (gv (hv.keep s.ext) (min m.l.length 6) Tryz.underlying29 fp (h.ev rfl) (h.ev rfl) (by split<;>omega) (by omega)) rfl fun f h=>av ?_
  have e9:=h.holds 9 _ rfl
  refine ⟨?_,Ext.refl _,fun h9=>absurd h9 (by decide)⟩
  refine e9.trans ?_
  exact rfl
 ·refine ca 10 rfl (by decide) ?_
  intro f9 w2 hE hs hl
  have e1:f9.tmps.getD 1 undef=_:=du hl 1 (by kernel_rfl) (by kernel_rfl) (h.holds 1 _ rfl)
  have h:=aD [(1,_)] hs rfl (holds_lk ⟨e1,trivial⟩)
  refine am ab 1 h rfl fun f h=>av ?_
  have e9:=h.holds 10 _ rfl
  refine ⟨?_,rfl⟩
  refine e9.trans ?_
  exact rfl
 ·refine cM 11 rfl (by decide) (by decide) ?_
  intro f9 w2 hE hs hd9 hl
  have e10:f9.tmps.getD 10 undef=_:=bC hl 10 7 (by kernel_rfl) (by kernel_rfl)
  have h:=aD [(10,_)] hs hd9 (holds_lk ⟨e10,trivial⟩)
  have s:=s.more hE
  have z:=St.start w2
  refine ag (ac (aG.of_own s 1 rfl) 69 (eW _ _)) h dG rfl rfl fun f h=>av ?_
  have e9:=h.holds 11 _ rfl
  refine ⟨?_,Ext.refl _,fun h9=>absurd h9 (by decide)⟩
  refine e9.trans ?_
  exact rfl
 ·refine ca 12 rfl (by decide) ?_
  intro f9 w2 hE hs hl
  have e1:f9.tmps.getD 1 undef=_:=du hl 1 (by kernel_rfl) (by kernel_rfl) (h.holds 1 _ rfl)
  have h:=aD [(1,_)] hs rfl (holds_lk ⟨e1,trivial⟩)
  refine am ab 1 h rfl fun f h=>av ?_
  have e9:=h.holds 12 _ rfl
  refine ⟨?_,rfl⟩
  refine e9.trans ?_
  exact rfl
 ·refine cM 13 rfl (by decide) (by decide) ?_
  intro f9 w2 hE hs hd9 hl
  have e12:f9.tmps.getD 12 undef=_:=bC hl 12 9 (by kernel_rfl) (by kernel_rfl)
  have h:=aD [(12,_)] hs hd9 (holds_lk ⟨e12,trivial⟩)
  have s:=s.more hE
  have z:=St.start w2
  refine ag (ac (aG.of_own s 1 rfl) 69 (eW _ _)) h dG rfl rfl fun f h=>av ?_
  have e9:=h.holds 13 _ rfl
  refine ⟨?_,Ext.refl _,fun h9=>absurd h9 (by decide)⟩
  refine e9.trans ?_
  exact rfl
 ·refine ca 14 rfl (by decide) ?_
  intro f9 w2 hE hs hl
  have e13:f9.tmps.getD 13 undef=_:=bC hl 13 10 (by kernel_rfl) (by kernel_rfl)
  have h:=aD [(13,_)] hs rfl (holds_lk ⟨e13,trivial⟩)
  refine ae h (ct Tryz.underlying9 (h.ev rfl)) rfl fun f h=>av ?_
  have e9:=h.holds 14 _ rfl
  refine ⟨?_,rfl⟩
  refine e9.trans ?_
  exact rfl
 ·refine ca 15 rfl (by decide) ?_
  intro f9 w2 hE hs hl
  have e14:f9.tmps.getD 14 undef=_:=bC hl 14 11 (by kernel_rfl) (by kernel_rfl)
  have h:=aD [(14,_)] hs rfl (holds_lk ⟨e14,trivial⟩)
  refine ae h (lU (h.ev rfl) (h.ev rfl)) rfl fun f h=>av ?_
  have e9:=h.holds 15 _ rfl
  refine ⟨?_,rfl⟩
  refine e9.trans ?_
  exact rfl
 ·refine ca 16 rfl (by decide) ?_
  intro f9 w2 hE hs hl
  have e11:f9.tmps.getD 11 undef=_:=bC hl 11 8 (by kernel_rfl) (by kernel_rfl)
  have e15:f9.tmps.getD 15 undef=_:=bC hl 15 12 (by kernel_rfl) (by kernel_rfl)
  have h:=aD [(11,_),(15,_)] hs rfl (holds_lk ⟨e11,e15,trivial⟩)
  refine ae h (kJ (min m.o.size 20) Tryz.underlying9 (h.ev rfl) (h.ev rfl) (by split<;>omega) (by omega)) rfl fun f h=>av ?_
  have e9:=h.holds 16 _ rfl
  refine ⟨?_,rfl⟩
  refine e9.trans ?_
  exact rfl
 ·refine ca 17 rfl (by decide) ?_
  intro f9 w2 hE hs hl
  have e1:f9.tmps.getD 1 undef=_:=du hl 1 (by kernel_rfl) (by kernel_rfl) (h.holds 1 _ rfl)
  have h:=aD [(1,_)] hs rfl (holds_lk ⟨e1,trivial⟩)
  refine am ab 1 h rfl fun f h=>av ?_
  have e9:=h.holds 17 _ rfl
  refine ⟨?_,rfl⟩
  refine e9.trans ?_
  exact rfl
 ·refine cM 18 rfl (by decide) (by decide) ?_
  intro f9 w2 hE hs hd9 hl
  have e17:f9.tmps.getD 17 undef=_:=bC hl 17 14 (by kernel_rfl) (by kernel_rfl)
  have h:=aD [(17,_)] hs hd9 (holds_lk ⟨e17,trivial⟩)
  have s:=s.more hE
  have z:=St.start w2
  refine ag (ac (aG.of_own s 1 rfl) 70 (fx _ _)) h dG rfl rfl fun f h=>av ?_
  have e9:=h.holds 18 _ rfl
  refine ⟨?_,Ext.refl _,fun h9=>absurd h9 (by decide)⟩
  refine e9.trans ?_
  exact rfl
 ·refine ca 19 rfl (by decide) ?_
  intro f9 w2 hE hs hl
  have e1:f9.tmps.getD 1 undef=_:=du hl 1 (by kernel_rfl) (by kernel_rfl) (h.holds 1 _ rfl)
  have h:=aD [(1,_)] hs rfl (holds_lk ⟨e1,trivial⟩)
  refine am ab 1 h rfl fun f h=>av ?_
  have e9:=h.holds 19 _ rfl
  refine ⟨?_,rfl⟩
  refine e9.trans ?_
  exact rfl
 ·refine cM 20 rfl (by decide) (by decide) ?_
  intro f9 w2 hE hs hd9 hl
  have e19:f9.tmps.getD 19 undef=_:=bC hl 19 16 (by kernel_rfl) (by kernel_rfl)
  have h:=aD [(19,_)] hs hd9 (holds_lk ⟨e19,trivial⟩)
  have s:=s.more hE
  have z:=St.start w2
  refine ag (ac (aG.of_own s 1 rfl) 70 (fx _ _)) h dG rfl rfl fun f h=>av ?_
  have e9:=h.holds 20 _ rfl
  refine ⟨?_,Ext.refl _,fun h9=>absurd h9 (by decide)⟩
  refine e9.trans ?_
  exact rfl
 ·refine ca 21 rfl (by decide) ?_
  intro f9 w2 hE hs hl
  have e20:f9.tmps.getD 20 undef=_:=bC hl 20 17 (by kernel_rfl) (by kernel_rfl)
  have h:=aD [(20,_)] hs rfl (holds_lk ⟨e20,trivial⟩)
  refine ae h (ct Tryz.underlying9 (h.ev rfl)) rfl fun f h=>av ?_
  have e9:=h.holds 21 _ rfl
  refine ⟨?_,rfl⟩
  refine e9.trans ?_
  exact rfl
 ·refine ca 22 rfl (by decide) ?_
  intro f9 w2 hE hs hl
  have e21:f9.tmps.getD 21 undef=_:=bC hl 21 18 (by kernel_rfl) (by kernel_rfl)
  have h:=aD [(21,_)] hs rfl (holds_lk ⟨e21,trivial⟩)
  refine ae h (lU (h.ev rfl) (h.ev rfl)) rfl fun f h=>av ?_
  have e9:=h.holds 22 _ rfl
  refine ⟨?_,rfl⟩
  refine e9.trans ?_
  exact rfl
 ·refine ca 23 rfl (by decide) ?_
  intro f9 w2 hE hs hl
  have e18:f9.tmps.getD 18 undef=_:=bC hl 18 15 (by kernel_rfl) (by kernel_rfl)
  have e22:f9.tmps.getD 22 undef=_:=bC hl 22 19 (by kernel_rfl) (by kernel_rfl)
  have h:=aD [(18,_),(22,_)] hs rfl (holds_lk ⟨e18,e22,trivial⟩)
  refine ae h (kJ (min m.d.size 70) Tryz.underlying9 (h.ev rfl) (h.ev rfl) (by split<;>omega) (by omega)) rfl fun f h=>av ?_
  have e9:=h.holds 23 _ rfl
  refine ⟨?_,rfl⟩
  refine e9.trans ?_
  exact rfl
 ·refine ca 24 rfl (by decide) ?_
  intro f9 w2 hE hs hl
  have e1:f9.tmps.getD 1 undef=_:=du hl 1 (by kernel_rfl) (by kernel_rfl) (h.holds 1 _ rfl)
  have h:=aD [(1,_)] hs rfl (holds_lk ⟨e1,trivial⟩)
  refine am ab 1 h rfl fun f h=>av ?_
  have e9:=h.holds 24 _ rfl
  refine ⟨?_,rfl⟩
  refine e9.trans ?_
  exact rfl
 ·exact gQ (by decide) (by decide)
 ·refine ca 25 rfl (by decide) ?_
  intro f9 w2 hE hs hl
  have e1:f9.tmps.getD 1 undef=_:=du hl 1 (by kernel_rfl) (by kernel_rfl) (h.holds 1 _ rfl)
  have h:=aD [(1,_)] hs rfl (holds_lk ⟨e1,trivial⟩)
  refine am ab 1 h rfl fun f h=>av ?_
  have e9:=h.holds 25 _ rfl
  refine ⟨?_,rfl⟩
  refine e9.trans ?_
  exact rfl
 ·exact gQ (by decide) (by decide)
 ·refine ca 26 rfl (by decide) ?_
  intro f9 w2 hE hs hl
  have e1:f9.tmps.getD 1 undef=_:=du hl 1 (by kernel_rfl) (by kernel_rfl) (h.holds 1 _ rfl)
  have h:=aD [(1,_)] hs rfl (holds_lk ⟨e1,trivial⟩)
  refine am ab 1 h rfl fun f h=>av ?_
  have e9:=h.holds 26 _ rfl
  refine ⟨?_,rfl⟩
  refine e9.trans ?_
  exact rfl
 ·exact gQ (by decide) (by decide)
 ·intro f9 w2 hE hs hd9 hWp hT hR hFr hDj
  replace h:=sl_new (ops:=_) [(3,_),(4,_),(5,_),(6,_),(7,_),(8,_),(9,_),(10,_),(11,_),(12,_),(13,_),(14,_),(15,_),(16,_),(17,_),(18,_),(19,_),(20,_),(21,_),(22,_),(23,_),(24,_),(25,_),(26,_)] h hs hd9 hR ⟨hT 0 3 (by decide) rfl,hT 1 4 (by decide) rfl,hT 2 5 (by decide) rfl,hT 3 6 (by decide) rfl,hT 4 7 (by decide) rfl,hT 5 8 (by decide) rfl,hT 6 9 (by decide) rfl,hT 7 10 (by decide) rfl,hT 8 11 (by decide) rfl,hT 9 12 (by decide) rfl,hT 10 13 (by decide) rfl,hT 11 14 (by decide) rfl,hT 12 15 (by decide) rfl,hT 13 16 (by decide) rfl,hT 14 17 (by decide) rfl,hT 15 18 (by decide) rfl,hT 16 19 (by decide) rfl,hT 17 20 (by decide) rfl,hT 18 21 (by decide) rfl,hT 19 22 (by decide) rfl,hT 20 23 (by decide) rfl,hT 21 24 (by decide) rfl,hT 23 25 (by decide) rfl,hT 25 26 (by decide) rfl,trivial⟩ (by kernel_rfl)
  replace s:=s.more hE
  clear hT hR hFr hDj
  refine mx.cons ?_
  refine bN 1 h s cG rfl rfl rfl (by rw [ax];omega) (yY (ym hv _ (by omega))) fun w1 s=>?_
  replace s:=s.recell 1 rfl (AS _ _ _ (m.l.take (min m.l.length 6)))
  refine av ⟨trivial,ER.no (by kernel_rfl),?_⟩
  refine mx.cons ?_
  refine bN 1 h s dG rfl rfl rfl (by rw [ax];omega) (rfl) fun w1 s=>?_
  replace s:=s.recell 1 rfl (zV _ _ _)
  refine av ⟨trivial,ER.no (by kernel_rfl),?_⟩
  refine mx.cons ?_
  refine bN 1 h s dG rfl rfl rfl (by rw [ax];omega) (rfl) fun w1 s=>?_
  replace s:=s.recell 1 rfl (A5 _ _ _)
  refine av ⟨trivial,ER.no (by kernel_rfl),?_⟩
  refine mx.nil ?_
  refine aE (qr (ak 1 h s bL rfl rfl (ax _ _) rfl fun f h=>aj 0 h s bL rfl rfl rfl (ax _ _) (ax _ _) (cX _ _ (yY (ym hv _ (by omega)))) fun w1 s=>nt (wpIn_ret (cR 0 rfl h s bL rfl rfl (ax _ _) (rfl)))))
theorem xm  (w:World) (hH:ff w 0 (wF jp 8)) (hK:ff w 1 (wF iJ 64)):Calls Tryz.prog 11 [].toArray w (cp w (is (.bool true))):=by
 refine bF Tryz.func11 rfl Tryz.ntmps11 rfl fun f h s=>bH ab 1 h rfl fun f h=>qr (ae h (tK ji rfl) rfl fun f h=>ae h (ur yf rfl rfl) rfl fun f h=>ae h (rF li rfl (h.ev rfl) rfl) rfl fun f h=>bq h s M4 (pa N0 aI 18 MP aI 0 _ (bS _) (by decide) (fk _) (by decide) (hH.keep s.ext) (hK.keep s.ext)) rfl rfl ?_);rintro f w1 v8 ⟨tua,ua,Kua,kua,rfl,hua,hG⟩ hE h sq;replace s:=s.add hG;clear hG
 rw [LF] at hua
 obtain ⟨q1,q2⟩:=z6 hua
 refine am ab 4 h rfl fun f h=>aK (aQ 0 ByteArray.empty aI) h s ip rfl rfl fun f w1 b1 h s=>aj 0 h s bp rfl rfl rfl (ap _ _ _) (ap _ _ _) (bP _ _ (bs ((s.getG 1 rfl) (bS _) (fk _)).1)) fun w1 s=>e9 ab 2 h rfl fun f h=>bZ ab 1 h rfl fun f h=>fm ab h rfl (by rw [LF];rfl) fun f h=>am ab 2 h rfl fun f h=>bf h rfl (dN h (((s.getG 1 rfl) (bS _) (fk _)).2.1) Tryz.underlying34 rfl rfl fun f h=>bf h rfl (fm ab h rfl (by rw [q1];rfl) fun f h=>am ab 3 h rfl fun f h=>bf h rfl (ae h (a7 (((s.getG 1 rfl) (bS _) (fk _)).2.1) (0) Tryz.underlying34 fN (h.ev rfl) (h.ev rfl) (rfl) (by omega)) rfl fun f h=>bf h rfl (ae h (bM g7 (h.ev rfl) ((((s.getG 1 rfl) (bS _) (fk _)).2.1).some (by omega))) rfl fun f h=>bf h rfl (ag (V:=.int .i64 19) (eX (((s.getG 1 rfl) (bS _) (fk _)).2.1) (0*139+0) ((nR Kua 0 (by omega)).trans (by rw [q2]))) h bo rfl rfl fun f h=>bf h rfl (fm ab h rfl (rfl) fun f h=>am ab 3 h rfl fun f h=>bf h rfl (ae h (a7 (((s.getG 1 rfl) (bS _) (fk _)).2.1) (0) Tryz.underlying34 fN (h.ev rfl) (h.ev rfl) (rfl) (by omega)) rfl fun f h=>bf h rfl (ae h (bM mr (h.ev rfl) ((((s.getG 1 rfl) (bS _) (fk _)).2.1).some (by omega))) rfl fun f h=>bf h rfl (ae h (bM yn (h.ev rfl) ((((s.getG 1 rfl) (bS _) (fk _)).2.1).some (by omega))) rfl fun f h=>bf h rfl (ag (V:=.int .i64 3) (eX (((s.getG 1 rfl) (bS _) (fk _)).2.1) (0*139+1) ((M8 Kua 0 (by omega)).trans (by rw [q2];rfl))) h bo rfl rfl fun f h=>bf h rfl (fm ab h rfl (rfl) fun f h=>e9 ab 2 h rfl fun f h=>wpIn_ret (aH rfl h s rfl (rfl)))))))))))))
end Go.Proofs.YtobfeflheaobiaaGreatDoor
